import PyProof.Rows.All
import Wide.All
import OpenK.AllK
import Wide.FinOn
import HandS.ForMost
import HandS.TupAny
import HandS.SetFor
import HandS.Strs
import HandS.DictComp
import HandS.IsInst
import HandS.SortInts
import HandS.More
import HandS.Conv
import KE.DataMinMax
import HandS.Evl
import HandS.WordsDict
import HandS.ExcOwn
import HandS.TryOnly
import HandS.WordsExc
import PyProof.CollectIter
import HandS.Flow
import HandS.TupMul
import HandS.MethStar
import HandS.Slots
import PyProof.DictUpdate
import PyProof.FactsAll.dict_3
import PyProof.FactsAll.dict_4
import PyProof.FactsAll.subtypes_4
import PyProof.ListOps
import HandS.Deep
import HandS.Style
import HandS.Iter
import HandS.Small
import HandS.TupSets
import PyProof.SumWalkG
import PyProof.Rows.SeqMore
import PyProof.TupleKey
import PyProof.DictRoadsH
import HandS.Dict
import HandS.Call
import PySem.Challenge.RW_drainhouse_k17_in_one
set_option Elab.async false
set_option linter.all false
set_option maxRecDepth 100000
set_option maxHeartbeats 4000000
namespace L2
open PySem PySem.Spec PyProof.Rows
end L2
set_option maxHeartbeats 6400000
namespace PySem
end PySem
namespace L2
open PySem PySem.Spec PyProof.Rows
end L2
namespace L2
open PySem PySem.Spec PyProof.Rows PySem.W PySem.SeqAt
end L2
namespace PySem
open PyProof.Rows
end PySem
namespace L2
open PySem PySem.Spec PyProof.Rows
end L2
set_option maxHeartbeats 4000000
namespace L2
open PySem PySem.Spec PyProof.Rows
section
variable {X : Cx}
def rTupF (K : PySem.W.Frag) : List V → Hp → VK → Prop := fun vs H Q => ∃ (l : Addr) (ys : List V), vs = [V.ref l] ∧ SqL K H l ys ∧ ∀ (q : Addr) (ob : Obj), H q = none → ob.dict = none → Q (.ref q) (upd H q (.frz ob (.tup ys)))
theorem cr_tupF : CallR X (.type "tuple") (rTupF X.K) := by
  intro pins s σ H vs us Q I r h
  obtain ⟨l, ys, rfl, hl, k⟩ := h
  rw [Vals.ref1 r]
  obtain ⟨its, rv, il, zl⟩ := I.list hl
  have n := rv.length
  refine call_tuple_list il.isList (fun h2 kp => ?_) (by simp only [List.size_toArray]; omega)
  have J : Inv X pins σ H { s with heap := h2 } := I.kept (t' := s.toks) kp
  have e := Heap.get?_push_size h2 (o := { cls := .type "tuple", data := .seq its.toArray }) rfl
  exact ⟨.ref h2.objs.size, upd H h2.objs.size (.frz { cls := .type "tuple", data := .seq its.toArray } (.tup ys)), J.laid (t' := s.toks) (fun _ _ w => Heap.get?_push_of_some _ w) (Nat.le_refl _) ⟨e, zl, its, rv, IsTup.new _ _⟩, rfl,
    k _ _ (J.hok.fresh (Nat.le_refl _)) rfl⟩
def TupQ (K : PySem.W.Frag) (H : Hp) (a : Addr) (xs : List V) : Prop := (∃ ob : Obj, H a = some (.frz ob (.tup xs)) ∧ ob.dict = none) ∨
  ∃ (o : Obj) (its : Array Value) (n : Nat), K.lookup a = some o ∧ o.cls = .type "tuple" ∧ o.dict = none ∧ o.data = .seq its n ∧ its.size ≤ sizeLine ∧ Vals xs its.toList
theorem TupQ.sq {H : Hp} {a : Addr} {xs : List V} {K : PySem.W.Frag} (t : TupQ K H a xs) : SqT K H a xs := by
  rcases t with ⟨_, e, _⟩ | ⟨o, its, n, h1, h2, _, h3, h4, h5⟩
  · exact .inl (.inr ⟨_, e⟩)
  · exact .inr ⟨o, its, n, h1, h2, h3, h4, h5⟩
theorem TupQ.mono {F F' : Hp} {a : Addr} {xs : List V} {K : PySem.W.Frag} (k : ∀ b o, F b = some o → F' b = some o) (h : TupQ K F a xs) : TupQ K F' a xs := h.imp (fun ⟨ob, e, d⟩ => ⟨ob, k _ _ e, d⟩) id
def wholeI (n : Nat) (lo hi : Option Int) : Prop := HT.sIx n 0 lo = 0 ∧ HT.sIx n n hi = n
def rSlF (K : PySem.W.Frag) : V → Option Int → Option Int → Hp → VK → Prop := fun x lo hi H Q => ∃ (a : Addr) (xs : List V), x = .ref a ∧ SqT K H a xs ∧
  (wholeI xs.length lo hi → Q (.ref a) H) ∧ (¬ wholeI xs.length lo hi → ∀ (q : Addr) (ob : Obj), H q = none → ob.dict = none → Q (.ref q) (upd H q (.frz ob (.tup (cutV xs lo hi)))))
theorem sl_tupF : SlR X (rSlF X.K) := by
  intro pins s σ H x v w1 w2 lo hi sl Q I rx hsl p1 p2 h
  obtain ⟨a, xs, rfl, ht, k1, k2⟩ := h
  cases rx
  obtain ⟨its, rv, it, zt⟩ := I.tuple ht
  have n : its.toArray.size = xs.length := by rw [List.size_toArray]; exact rv.length.symm
  refine ⟨"tuple", _, PyProof.Rows.slot_tuple_getitem.lookup, it.typeIs, ?_⟩
  by_cases hw : wholeI xs.length lo hi
  · exact getItem_tuple_whole it hsl p1 p2 (by rw [n]; exact hw) ⟨.ref a, H, I, rfl, k1 hw⟩
  · refine HT.getItem_tuple_cut it hsl p1 p2 (by rw [n]; exact hw) ?_ (by rw [n]; exact zt)
    rw [n]
    have rc := (rv.drop (HT.sIx xs.length 0 lo)).take (HT.sIx xs.length xs.length hi - HT.sIx xs.length 0 lo)
    exact ⟨.ref s.heap.objs.size, upd H s.heap.objs.size (.frz _ (.tup (cutV xs lo hi))), I.laid (t' := s.toks) (fun _ _ w => Heap.get?_push_of_some _ w) (Nat.le_refl _) ⟨Heap.get?_push_size s.heap rfl, Nat.le_trans (cutV_length xs lo hi) zt, _, rc, IsTup.new _ _⟩, rfl,
      k2 hw _ _ (I.hok.fresh (Nat.le_refl _)) rfl⟩
def rTupQ (K : PySem.W.Frag) : List V → Hp → VK → Prop := fun vs H Q => ∃ (l : Addr) (ys : List V), vs = [V.ref l] ∧ ((SqL K H l ys ∧ ∀ (q : Addr) (ob : Obj), H q = none → ob.dict = none → Q (.ref q) (upd H q (.frz ob (.tup ys)))) ∨ (SqT K H l ys ∧ Q (.ref l) H))
theorem cr_tupQ : CallR X (.type "tuple") (rTupQ X.K) := by
  intro pins s σ H vs us Q I r h
  obtain ⟨l, ys, rfl, h | ⟨h1, h2⟩⟩ := h
  · exact cr_tupF pins s σ H _ us Q I r ⟨l, ys, rfl, h.1, h.2⟩
  · exact call_tupleT pins s σ H _ us Q I r ⟨l, ys, rfl, h1, h2⟩
def rCatF (K : PySem.W.Frag) : R2 := fun x y H Q => ∃ a b xs ys, x = .ref a ∧ y = .ref b ∧ SqT K H a xs ∧ SqT K H b ys ∧ xs.length + ys.length ≤ sizeLine ∧
  (xs = [] → Q (.ref b) H) ∧ (xs ≠ [] → ys = [] → Q (.ref a) H) ∧ (xs ≠ [] → ys ≠ [] → ∀ (p : Addr) (ob : Obj), H p = none → ob.dict = none → Q (.ref p) (upd H p (.frz ob (.tup (xs ++ ys)))))
theorem op_catF : OpR X (binaryOp .Add) (rCatF X.K) := by
  intro pins s σ H x y v u Q I rx ry h
  obtain ⟨a, b, xs, ys, rfl, rfl, ha, hb, hz, q0, q1, q2⟩ := h
  cases rx
  cases ry
  obtain ⟨its, r1, p1, _⟩ := I.tuple ha
  obtain ⟨its2, r2, p2, _⟩ := I.tuple hb
  by_cases hx : xs = []
  · subst hx
    cases r1
    exact cat_tup0 p1 p2 ⟨.ref b, H, I, rfl, q0 rfl⟩
  · refine HT.cat_tup p1 p2 (fun z => hx (r1.nil_iff.mp z)) (fun z => ⟨.ref a, H, I, rfl, q1 hx (r2.nil_iff.mp z)⟩) (fun z => ?_) (by rw [← r1.length, ← r2.length]; exact hz)
    exact ⟨.ref s.heap.objs.size, upd H s.heap.objs.size (.frz _ (.tup (xs ++ ys))), I.laid (t' := s.toks) (fun b ob q => Heap.get?_push_of_some _ q) (Nat.le_refl _) ⟨Heap.get?_push_size s.heap rfl, by rw [List.length_append]; exact hz, _, r1.append r2, IsTup.new _ _⟩, rfl,
      q2 hx (fun w => z (r2.nil_iff.mpr w)) _ _ (I.hok.fresh (Nat.le_refl _)) rfl⟩
def tTupF (t : TA) : TE := fun σ H Q => t σ H fun xs H1 => xs.length ≤ sizeLine ∧ ∀ (p : Addr) (ob : Obj), H1 p = none → ob.dict = none → Q (.ref p) (upd H1 p (.frz ob (.tup xs)))
variable {o e : Expr} {es : List Expr} {to : TE} {t : TA} {apos cpos pos : Pos} {name : Str} {id : String} {r : V → List V → Hp → VK → Prop}
theorem pe_tupF {x1} (h : PA X es t) : PE X (.Tuple es x1 pos) (tTupF t) := by
  refine ⟨fun pins s σ H Q I hq => ?_⟩
  refine wpAny_Tuple_spliced (thn (h.run pos pins s σ H _ I hq) fun us s1 ⟨xs, H1, I1, r, z, q⟩ => ⟨by rw [← r.length]; exact z, ?_⟩)
  have hf : H1 s1.heap.objs.size = none := I1.hok.fresh (Nat.le_refl _)
  exact ⟨.ref s1.heap.objs.size, upd H1 s1.heap.objs.size (.frz _ (.tup xs)), I1.laid (t' := s1.toks) (fun b u e => Heap.get?_push_of_some _ e) (Nat.le_refl _) ⟨Heap.get?_push_size _ rfl, z, us, r, ⟨_, Heap.get?_push_size _ rfl, rfl, _, rfl⟩⟩, rfl, q _ _ hf rfl⟩
end
end L2
namespace Mv
open PySem PySem.Spec PyProof.Rows L2
inductive S where
  | dat (d : PyData)
  | con (v : V)
  | lst (xs : List S)
  | dct (l : Bool) (kvs : List (Key × S))
  | ins (C : Nat) (ss : List S)
def setSnd {α β : Type} (l : List (α × β)) (i : Nat) (b : β) : List (α × β) :=
  match l, i with
  | [], _ => []
  | (a, _) :: r, 0 => (a, b) :: r
  | p :: r, i + 1 => p :: setSnd r i b
theorem setSnd_fst {α β : Type} (b : β) : ∀ (l : List (α × β)) (i : Nat), (setSnd l i b).map (·.1) = l.map (·.1)
  | [], _ => rfl
  | _ :: _, 0 => rfl
  | p :: r, i + 1 => by simp only [setSnd, List.map_cons, setSnd_fst b r i]
theorem setSnd_snd {α β : Type} (b : β) : ∀ (l : List (α × β)) (i : Nat), (setSnd l i b).map (·.2) = (l.map (·.2)).set i b
  | [], _ => rfl
  | _ :: _, 0 => rfl
  | p :: r, i + 1 => by simp only [setSnd, List.map_cons, setSnd_snd b r i, List.set_cons_succ]
def S.kids : S → List S
  | .lst xs => xs
  | .dct _ kvs => kvs.map (·.2)
  | .ins _ ss => ss
  | _ => []
def S.setKid (s : S) (i : Nat) (t : S) : S :=
  match s with
  | .lst xs => .lst (xs.set i t)
  | .dct l kvs => .dct l (setSnd kvs i t)
  | .ins C ss => .ins C (ss.set i t)
  | s => s
theorem S.kids_setKid (s t : S) (i : Nat) : (s.setKid i t).kids = s.kids.set i t := by
  cases s with
  | dat d => simp [S.setKid, S.kids]
  | con v => simp [S.setKid, S.kids]
  | lst xs => rfl
  | dct l kvs => exact setSnd_snd t kvs i
  | ins C ss => rfl
def S.get : S → List Nat → Option S
  | s, [] => some s
  | s, i :: p => match s.kids[i]? with
    | some t => S.get t p
    | none => none
def S.put : S → List Nat → S → S
  | _, [], t => t
  | s, i :: p, t => match s.kids[i]? with
    | some u => s.setKid i (S.put u p t)
    | none => s
def clsNm : Nat → Str
  | 0 => "Board" | 1 => "House" | 2 => "Asker" | 3 => "World" | 4 => "Tally"
  | 10 => "DrainError" | 11 => "BadHouse" | 12 => "Known" | 13 => "NoHouse" | 14 => "TooMany" | 15 => "LastHouse" | 16 => "BadAsker" | 17 => "BadEdition" | 18 => "BadAsk" | 19 => "Busy" | 20 => "NoLetter" | 21 => "BadCount" | 22 => "BadText"
  | _ => "?"
def clsFld : Nat → List Str
  | 0 => ["now", "lacking", "planned", "known"]
  | 1 => ["name", "now", "owned", "held", "giving", "takings", "newest", "last_answers", "done"]
  | 2 => ["name", "now", "number", "under_way", "last"]
  | 3 => ["board", "first_book", "house_named", "asker_named", "road", "all_deeds", "all_answers"]
  | 4 => ["grown", "numbers", "make"]
  | _ => []
def clsOf (K : PySem.W.Frag) (c : Nat) (C : Addr) : Prop := PySem.W.nsIn K mainGlobals (clsNm c) = some (some (.ref C))
theorem clsOf.one {K : PySem.W.Frag} {c : Nat} {C D : Addr} (h : clsOf K c C) (g : clsOf K c D) : C = D := by
  unfold clsOf at h g
  rw [h] at g
  cases g
  rfl
def kidsV : HO → List V
  | .lst vs => vs
  | .dK kvs => kvs.map (·.2)
  | .frz _ (.dK kvs) => kvs.map (·.2)
  | .ins _ _ fs => fs.map (·.2)
  | _ => []
def Head (K : PySem.W.Frag) (H : Hp) (a : Addr) : HO → S → List Addr → Prop
  | .lst _, .lst _, ex => ex = []
  | .dK kvs, .dct false kss, ex => ex = [] ∧ kvs.map (·.1) = kss.map (·.1)
  | .ins C dx fs, .ins c ss, ex => clsOf K c C ∧ ex = [dx] ∧ H dx = some (.own a) ∧ fs.map (·.1) = (clsFld c).take ss.length ∧ ss.length ≤ (clsFld c).length
  | _, _, _ => False
theorem Head.setKid {K : PySem.W.Frag} {H : Hp} {a : Addr} {o : HO} {s : S} {ex : List Addr} (h : Head K H a o s ex) (i : Nat) (t : S) : Head K H a o (s.setKid i t) ex := by
  unfold S.setKid
  cases s with
  | dat d => exact h
  | con v => exact h
  | lst xs => cases o with
    | lst vs => exact h
    | frz o u => cases u <;> exact h.elim
    | _ => exact h.elim
  | dct l kvs => cases o with
    | dK k => cases l with
      | false => exact ⟨h.1, h.2.trans (setSnd_fst t kvs i).symm⟩
      | true => exact h.elim
    | frz o u => cases u <;> exact h.elim
    | _ => exact h.elim
  | ins C fs => cases o with
    | ins C' dx gs => exact ⟨h.1, h.2.1, h.2.2.1, by rw [List.length_set]; exact h.2.2.2⟩
    | frz o u => cases u <;> exact h.elim
    | _ => exact h.elim
theorem Head.keep {K : PySem.W.Frag} {H H' : Hp} {a : Addr} {o : HO} {s : S} {ex : List Addr} (h : Head K H a o s ex) (k : ∀ b ∈ ex, ∀ u, H b = some u → H' b = some u) : Head K H' a o s ex := by
  cases s with
  | dat d => cases o <;> first | exact h.elim | (rename_i u; cases u <;> exact h.elim)
  | con v => cases o <;> first | exact h.elim | (rename_i u; cases u <;> exact h.elim)
  | lst xs => cases o with
    | lst vs => exact h
    | frz o u => cases u <;> exact h.elim
    | _ => exact h.elim
  | dct l kvs => cases o with
    | dK k => cases l <;> exact h
    | frz o u => cases u <;> exact h.elim
    | _ => exact h.elim
  | ins C fs => cases o with
    | ins C' dx gs =>
      obtain ⟨h1, h2, h3, h4⟩ := h
      exact ⟨h1, h2, k dx (by rw [h2]; exact List.mem_cons_self) _ h3, h4⟩
    | frz o u => cases u <;> exact h.elim
    | _ => exact h.elim
mutual
inductive Dq (K : PySem.W.Frag) (H : Hp) : V → PyData → Prop
  | non : Dq K H .non .none
  | bl (b : Bool) : Dq K H (.bl b) (.bool b)
  | int (i : Int) : Dq K H (.int i) (.int i)
  | str (x : Str) : Dq K H (.str x) (.str x)
  | lst {a : Addr} {xs : List V} {ds : List PyData} : SqL K H a xs → DqAll K H xs ds → Dq K H (.ref a) (.list ds)
  | tup {a : Addr} {xs : List V} {ds : List PyData} : TupQ K H a xs → DqAll K H xs ds → Dq K H (.ref a) (.tuple ds)
inductive DqAll (K : PySem.W.Frag) (H : Hp) : List V → List PyData → Prop
  | nil : DqAll K H [] []
  | cons {v : V} {vs : List V} {d : PyData} {ds : List PyData} : Dq K H v d → DqAll K H vs ds → DqAll K H (v :: vs) (d :: ds)
end
mutual
theorem Dq.dp {K : PySem.W.Frag} {H : Hp} : ∀ {v : V} {d : PyData}, Dq K H v d → Dp K H v d
  | _, _, .non => .non
  | _, _, .bl b => .bl b
  | _, _, .int i => .int i
  | _, _, .str x => .str x
  | _, _, .lst h t => .lst h (DqAll.dp t)
  | _, _, .tup h t => .tup h.sq (DqAll.dp t)
theorem DqAll.dp {K : PySem.W.Frag} {H : Hp} : ∀ {vs : List V} {ds : List PyData}, DqAll K H vs ds → DpAll K H vs ds
  | _, _, .nil => .nil
  | _, _, .cons h t => .cons (Dq.dp h) (DqAll.dp t)
end
mutual
inductive Own (K : PySem.W.Frag) (F H : Hp) : V → S → List Addr → Prop
  | dat {v : V} {d : PyData} : Dq K F v d → Own K F H v (.dat d) []
  | con {v : V} : Own K F H v (.con v) []
  | node {a : Addr} {o : HO} {s : S} {ex fp : List Addr} : H a = some o → Head K H a o s ex → OwnL K F H (kidsV o) s.kids fp → Own K F H (.ref a) s (a :: (ex ++ fp))
  | lck {a : Addr} {o : Obj} {kvs : List (Key × V)} {kss : List (Key × S)} {fp : List Addr} : F a = some (.frz o (.dK kvs)) → H a = some (.frz o (.dK kvs)) → kvs.map (·.1) = kss.map (·.1) → OwnL K F H (kvs.map (·.2)) (kss.map (·.2)) fp → Own K F H (.ref a) (.dct true kss) fp
inductive OwnL (K : PySem.W.Frag) (F H : Hp) : List V → List S → List Addr → Prop
  | nil : OwnL K F H [] [] []
  | cons {v : V} {vs : List V} {s : S} {ss : List S} {fp fq : List Addr} : Own K F H v s fp → OwnL K F H vs ss fq → OwnL K F H (v :: vs) (s :: ss) (fp ++ fq)
end
variable {K : PySem.W.Frag} {F F' H H' : Hp} {v : V} {vs : List V} {s t : S} {ss : List S} {fp fq : List Addr}
theorem Rd.mono {a : Addr} {u : HO} (k : ∀ b o, F b = some o → F' b = some o) (h : Rd F a u) : Rd F' a u := by
  rcases h with h | ⟨o, h⟩
  · exact .inl (k _ _ h)
  · exact .inr ⟨o, k _ _ h⟩
theorem SqL.mono {a : Addr} {xs : List V} (k : ∀ b o, F b = some o → F' b = some o) (h : SqL K F a xs) : SqL K F' a xs := h.imp (Rd.mono k) id
theorem SqT.mono {a : Addr} {xs : List V} (k : ∀ b o, F b = some o → F' b = some o) (h : SqT K F a xs) : SqT K F' a xs := h.imp (Rd.mono k) id
mutual
theorem Dq.mono (k : ∀ b o, F b = some o → F' b = some o) : ∀ {v : V} {d : PyData}, Dq K F v d → Dq K F' v d
  | _, _, .non => .non
  | _, _, .bl b => .bl b
  | _, _, .int i => .int i
  | _, _, .str x => .str x
  | _, _, .lst h t => .lst (SqL.mono k h) (DqAll.mono k t)
  | _, _, .tup h t => .tup (TupQ.mono k h) (DqAll.mono k t)
theorem DqAll.mono (k : ∀ b o, F b = some o → F' b = some o) : ∀ {vs : List V} {ds : List PyData}, DqAll K F vs ds → DqAll K F' vs ds
  | _, _, .nil => .nil
  | _, _, .cons h t => .cons (Dq.mono k h) (DqAll.mono k t)
end
mutual
theorem Own.frame (kF : ∀ b o, F b = some o → F' b = some o) (sub : ∀ b o, F' b = some o → H' b = some o) : ∀ {v : V} {s : S} {fp : List Addr}, Own K F H v s fp → (∀ a ∈ fp, ∀ o, H a = some o → H' a = some o) → Own K F' H' v s fp
  | _, _, _, .dat d, _ => .dat (Dq.mono kF d)
  | _, _, _, .con, _ => .con
  | _, _, _, .node h hd t, k => .node (k _ List.mem_cons_self _ h) (hd.keep fun b m u e => k b (List.mem_cons_of_mem _ (List.mem_append_left _ m)) u e)
      (OwnL.frame kF sub t fun b m o e => k b (List.mem_cons_of_mem _ (List.mem_append_right _ m)) o e)
  | _, _, _, .lck hf hh hk t, k => .lck (kF _ _ hf) (sub _ _ (kF _ _ hf)) hk (OwnL.frame kF sub t k)
theorem OwnL.frame (kF : ∀ b o, F b = some o → F' b = some o) (sub : ∀ b o, F' b = some o → H' b = some o) : ∀ {vs : List V} {ss : List S} {fp : List Addr}, OwnL K F H vs ss fp → (∀ a ∈ fp, ∀ o, H a = some o → H' a = some o) → OwnL K F' H' vs ss fp
  | _, _, _, .nil, _ => .nil
  | _, _, _, .cons h t, k => .cons (Own.frame kF sub h fun a m => k a (List.mem_append_left _ m)) (OwnL.frame kF sub t fun a m => k a (List.mem_append_right _ m))
end
theorem Head.ex_there {a : Addr} {o : HO} {ex : List Addr} (h : Head K H a o s ex) : ∀ b ∈ ex, ∃ u, H b = some u := by
  intro b m
  cases s with
  | dat d => cases o <;> first | exact h.elim | (rename_i u; cases u <;> exact h.elim)
  | con v => cases o <;> first | exact h.elim | (rename_i u; cases u <;> exact h.elim)
  | lst xs => cases o <;> first | exact h.elim | (rw [show ex = [] from h] at m; cases m) | (rename_i u; cases u <;> exact h.elim)
  | dct l kvs => cases o with
    | dK k => cases l with
      | false => rw [h.1] at m; cases m
      | true => exact h.elim
    | frz o u => cases u <;> exact h.elim
    | _ => exact h.elim
  | ins C fs => cases o with
    | ins C' dx gs =>
      rw [h.2.1] at m
      rw [List.mem_singleton.mp m]
      exact ⟨_, h.2.2.1⟩
    | frz o u => cases u <;> exact h.elim
    | _ => exact h.elim
mutual
theorem Own.there : ∀ {v : V} {s : S} {fp : List Addr}, Own K F H v s fp → ∀ a ∈ fp, ∃ o, H a = some o
  | _, _, _, .dat d, _, m => nomatch m
  | _, _, _, .con, _, m => nomatch m
  | _, _, _, .node h hd t, b, m => by
    rcases List.mem_cons.mp m with rfl | m
    · exact ⟨_, h⟩
    · rcases List.mem_append.mp m with m | m
      · exact hd.ex_there b m
      · exact OwnL.there t b m
  | _, _, _, .lck hf hh hk t, b, m => OwnL.there t b m
theorem OwnL.there : ∀ {vs : List V} {ss : List S} {fp : List Addr}, OwnL K F H vs ss fp → ∀ a ∈ fp, ∃ o, H a = some o
  | _, _, _, .nil, _, m => nomatch m
  | _, _, _, .cons h t, b, m => by
    rcases List.mem_append.mp m with m | m
    · exact Own.there h b m
    · exact OwnL.there t b m
end
theorem Head.con_no {a : Addr} {o : HO} {ex : List Addr} (h : Head K H a o (.con v) ex) : False := by
  cases o <;> first | exact h | (rename_i u; cases u <;> exact h)
theorem Head.dat_no {d : PyData} {a : Addr} {o : HO} {ex : List Addr} (h : Head K H a o (.dat d) ex) : False := by
  cases o <;> first | exact h | (rename_i u; cases u <;> exact h)
theorem Own.con_inv {w : V} (h : Own K F H w s fp) (e : s = .con v) : w = v ∧ fp = [] := by
  cases h with
  | dat _ => cases e
  | con => cases e; exact ⟨rfl, rfl⟩
  | node h hd t => subst e; exact hd.con_no.elim
  | lck => cases e
theorem Own.dat_inv {d : PyData} (h : Own K F H v s fp) (e : s = .dat d) : Dq K F v d ∧ fp = [] := by
  cases h with
  | dat q => cases e; exact ⟨q, rfl⟩
  | con => cases e
  | node h hd t => subst e; exact hd.dat_no.elim
  | lck => cases e
theorem OwnL.length : ∀ {vs : List V} {ss : List S} {fp : List Addr}, OwnL K F H vs ss fp → vs.length = ss.length
  | _, _, _, .nil => rfl
  | _, _, _, .cons _ t => by simp only [List.length_cons, OwnL.length t]
theorem OwnL.append : ∀ {vs ws : List V} {ss ts : List S} {fp fq : List Addr}, OwnL K F H vs ss fp → OwnL K F H ws ts fq → OwnL K F H (vs ++ ws) (ss ++ ts) (fp ++ fq)
  | _, _, _, _, _, _, .nil, h => h
  | _, _, _, _, _, _, .cons a t, h => by
    rw [List.append_assoc]
    exact .cons a (OwnL.append t h)
theorem OwnL.take : ∀ {vs : List V} {ss : List S} {fp : List Addr} {i : Nat} {s : S}, OwnL K F H vs ss fp → ss[i]? = some s →
    ∃ v fp1 fp2, vs[i]? = some v ∧ Own K F H v s fp1 ∧ OwnL K F H vs (ss.set i (.con v)) fp2 ∧ fp.Perm (fp1 ++ fp2)
  | _, _, _, i, _, .nil, e => by simp at e
  | _, _, _, 0, s, .cons (v := v) (fp := fp1) (fq := fp2) h t, e => by
    simp only [List.getElem?_cons_zero, Option.some.injEq] at e
    subst e
    exact ⟨v, fp1, fp2, rfl, h, .cons (fp := []) .con t, List.Perm.refl _⟩
  | _, _, _, i + 1, s, .cons (fp := fpa) h t, e => by
    obtain ⟨v, fp1, fp2, e1, o, l, p⟩ := OwnL.take (i := i) (s := s) t (by simpa using e)
    refine ⟨v, fp1, fpa ++ fp2, by simpa using e1, o, .cons h l, ?_⟩
    refine (List.Perm.append_left fpa p).trans ?_
    rw [← List.append_assoc, ← List.append_assoc]
    exact List.Perm.append_right fp2 List.perm_append_comm
theorem OwnL.put : ∀ {vs : List V} {ss : List S} {fp : List Addr} {i : Nat} {v : V} {s : S} {fq : List Addr}, OwnL K F H vs ss fp → ss[i]? = some (.con v) → Own K F H v s fq →
    ∃ fr, OwnL K F H vs (ss.set i s) fr ∧ fr.Perm (fq ++ fp)
  | _, _, _, i, _, _, _, .nil, e, _ => by simp at e
  | _, _, _, 0, v, s, fq, .cons h t, e, o => by
    simp only [List.getElem?_cons_zero, Option.some.injEq] at e
    subst e
    obtain ⟨rfl, rfl⟩ := h.con_inv rfl
    exact ⟨_, .cons o t, List.Perm.refl _⟩
  | _, _, _, i + 1, v, s, fq, .cons (fp := fpa) h t, e, o => by
    obtain ⟨fr, l, p⟩ := OwnL.put (i := i) t (by simpa using e) o
    refine ⟨fpa ++ fr, .cons h l, ?_⟩
    refine (List.Perm.append_left fpa p).trans ?_
    rw [← List.append_assoc, ← List.append_assoc]
    exact List.Perm.append_right _ List.perm_append_comm
end Mv
namespace Mv
open PySem PySem.Spec PyProof.Rows L2
variable {K : PySem.W.Frag} {F F' H H' : Hp} {v u : V} {vs : List V} {s t : S} {ss : List S} {fp fq : List Addr}
theorem S.get_nil (s : S) : s.get [] = some s := by cases s <;> rfl
theorem S.get_cons (s : S) (i : Nat) (p : List Nat) : s.get (i :: p) = (match s.kids[i]? with | some t => t.get p | none => none) := by cases s <;> rfl
theorem S.put_nil (s t : S) : s.put [] t = t := by cases s <;> rfl
theorem S.put_cons (s t : S) (i : Nat) (p : List Nat) : s.put (i :: p) t = (match s.kids[i]? with | some u => s.setKid i (u.put p t) | none => s) := by cases s <;> rfl
theorem S.get_put : ∀ (p : List Nat) (s t u : S), s.get p = some u → (s.put p t).get p = some t
  | [], s, t, u, _ => by rw [S.put_nil, S.get_nil]
  | i :: p, s, t, u, h => by
    rw [S.get_cons] at h
    rw [S.put_cons, S.get_cons]
    cases e : s.kids[i]? with
    | none => rw [e] at h; cases h
    | some w =>
      rw [e] at h
      have hi := (List.getElem?_eq_some_iff.mp e).1
      simp only [S.kids_setKid, List.getElem?_set_self hi]
      exact S.get_put p w t u h
theorem setSnd_set {α β : Type} (b c : β) : ∀ (l : List (α × β)) (i : Nat), setSnd (setSnd l i b) i c = setSnd l i c
  | [], _ => rfl
  | _ :: _, 0 => rfl
  | p :: r, i + 1 => by simp only [setSnd, setSnd_set b c r i]
theorem setSnd_comm {α β : Type} (b c : β) : ∀ (l : List (α × β)) (i j : Nat), i ≠ j → setSnd (setSnd l i b) j c = setSnd (setSnd l j c) i b
  | [], _, _, _ => rfl
  | _ :: _, 0, 0, h => absurd rfl h
  | _ :: _, 0, _ + 1, _ => rfl
  | _ :: _, _ + 1, 0, _ => rfl
  | p :: r, i + 1, j + 1, h => by simp only [setSnd, setSnd_comm b c r i j (fun e => h (by rw [e]))]
theorem S.setKid_set (s t u : S) (i : Nat) : (s.setKid i t).setKid i u = s.setKid i u := by
  cases s with
  | dat d => rfl
  | con v => rfl
  | lst xs => simp [S.setKid]
  | dct l kvs => simp only [S.setKid, setSnd_set]
  | ins C fs => simp [S.setKid]
theorem S.setKid_comm (s t u : S) {i j : Nat} (h : i ≠ j) : (s.setKid i t).setKid j u = (s.setKid j u).setKid i t := by
  cases s with
  | dat d => rfl
  | con v => rfl
  | lst xs => simp only [S.setKid, List.set_comm _ _ h]
  | dct l kvs => simp only [S.setKid, setSnd_comm _ _ _ _ _ h]
  | ins C fs => simp only [S.setKid, List.set_comm _ _ h]
theorem S.put_put : ∀ (p : List Nat) (s t u : S), (s.put p t).put p u = s.put p u
  | [], s, t, u => by rw [S.put_nil, S.put_nil]
  | i :: p, s, t, u => by
    cases e : s.kids[i]? with
    | none => simp only [S.put_cons, e]
    | some w =>
      have hi := (List.getElem?_eq_some_iff.mp e).1
      simp only [S.put_cons, e, S.kids_setKid, List.getElem?_set_self hi, S.setKid_set, S.put_put p w t u]
def apart : List Nat → List Nat → Bool
  | i :: p, j :: q => i != j || apart p q
  | _, _ => false
theorem apart_symm : ∀ (p q : List Nat), apart p q = apart q p
  | [], [] => rfl
  | [], _ :: _ => rfl
  | _ :: _, [] => rfl
  | i :: p, j :: q => by
    simp only [apart, apart_symm p q]
    rw [show (i != j) = (j != i) from bne_comm]
theorem S.get_put_apart : ∀ (p q : List Nat) (s t : S), apart p q = true → (s.put p t).get q = s.get q
  | [], _, _, _, h => by simp [apart] at h
  | _ :: _, [], _, _, h => by simp [apart] at h
  | i :: p, j :: q, s, t, h => by
    rw [S.put_cons, S.get_cons, S.get_cons]
    cases e : s.kids[i]? with
    | none => rfl
    | some w =>
      have hi := (List.getElem?_eq_some_iff.mp e).1
      simp only [S.kids_setKid]
      by_cases ij : i = j
      · subst ij
        simp only [List.getElem?_set_self hi, e]
        simp only [apart, bne_self_eq_false, Bool.false_or] at h
        exact S.get_put_apart p q w t h
      · rw [List.getElem?_set_ne ij]
theorem S.put_comm : ∀ (p q : List Nat) (s t u : S), apart p q = true → (s.put p t).put q u = (s.put q u).put p t
  | [], _, _, _, _, h => by simp [apart] at h
  | _ :: _, [], _, _, _, h => by simp [apart] at h
  | i :: p, j :: q, s, t, u, h => by
    by_cases ij : i = j
    · subst ij
      simp only [apart, bne_self_eq_false, Bool.false_or] at h
      cases e : s.kids[i]? with
      | none => simp only [S.put_cons, e]
      | some w =>
        have hi := (List.getElem?_eq_some_iff.mp e).1
        simp only [S.put_cons, e, S.kids_setKid, List.getElem?_set_self hi, S.setKid_set, S.put_comm p q w t u h]
    · have ji : j ≠ i := fun z => ij z.symm
      cases e : s.kids[i]? with
      | none =>
        cases e2 : s.kids[j]? with
        | none => simp only [S.put_cons, e, e2]
        | some w => simp only [S.put_cons, e, e2, S.kids_setKid, List.getElem?_set_ne ji]
      | some w =>
        cases e2 : s.kids[j]? with
        | none => simp only [S.put_cons, e, e2, S.kids_setKid, List.getElem?_set_ne ij]
        | some x => simp only [S.put_cons, e, e2, S.kids_setKid, List.getElem?_set_ne ij, List.getElem?_set_ne ji, S.setKid_comm _ _ _ ij]
def follow (H : Hp) : V → List Nat → Option V
  | v, [] => some v
  | .ref a, i :: p => match H a with
    | some o => match (kidsV o)[i]? with
      | some w => follow H w p
      | none => none
    | none => none
  | _, _ => none
theorem follow_nil (H : Hp) (v : V) : follow H v [] = some v := by cases v <;> rfl
theorem follow_node {a : Addr} {o : HO} {w : V} {i : Nat} {p : List Nat} (h : H a = some o) (e : (kidsV o)[i]? = some w) : follow H (.ref a) (i :: p) = follow H w p := by
  simp only [follow, h, e]
theorem Own.takeP : ∀ (p : List Nat) {v : V} {s t : S} {fp : List Addr}, Own K F H v s fp → s.get p = some t →
    ∃ u fp1 fp2, follow H v p = some u ∧ Own K F H u t fp1 ∧ Own K F H v (s.put p (.con u)) fp2 ∧ fp.Perm (fp1 ++ fp2)
  | [], v, s, t, fp, o, e => by
    rw [S.get_nil] at e
    cases e
    exact ⟨v, fp, [], follow_nil H v, o, by rw [S.put_nil]; exact .con, by simp⟩
  | i :: p, v, s, t, fp, o, e => by
    rw [S.get_cons] at e
    cases o with
    | dat d => simp [S.kids] at e
    | con => simp [S.kids] at e
    | @node a ob _ ex fp h hd l =>
      cases ek : s.kids[i]? with
      | none => rw [ek] at e; cases e
      | some w =>
        rw [ek] at e
        obtain ⟨x, f1, f2, e1, o1, l2, pm⟩ := l.take ek
        obtain ⟨u, g1, g2, e2, o2, o3, pm2⟩ := Own.takeP p o1 e
        have hi := (List.getElem?_eq_some_iff.mp ek).1
        obtain ⟨fr, l3, pm3⟩ := l2.put (i := i) (v := x) (by rw [List.getElem?_set_self hi]) o3
        rw [List.set_set] at l3
        refine ⟨u, g1, a :: (ex ++ fr), by rw [follow_node h e1]; exact e2, o2, ?_, ?_⟩
        · rw [S.put_cons, ek]
          exact .node h (hd.setKid i _) (by rw [S.kids_setKid]; exact l3)
        · -- a :: (ex ++ fp) ~ g1 ++ a :: (ex ++ fr)
          have p1 : fp.Perm (g1 ++ fr) := (pm.trans (List.Perm.append_right f2 pm2)).trans (by rw [List.append_assoc]; exact List.Perm.append_left g1 pm3.symm)
          have p2 : (ex ++ fp).Perm (g1 ++ (ex ++ fr)) := by
            refine (List.Perm.append_left ex p1).trans ?_
            rw [← List.append_assoc, ← List.append_assoc]
            exact List.Perm.append_right fr List.perm_append_comm
          exact (List.Perm.cons a p2).trans List.perm_middle.symm
    | @lck a ob kvs kss _ hf h hk l =>
      cases ek : (kss.map (·.2))[i]? with
      | none => rw [show (S.dct true kss).kids = kss.map (·.2) from rfl, ek] at e; cases e
      | some w =>
        rw [show (S.dct true kss).kids = kss.map (·.2) from rfl, ek] at e
        obtain ⟨x, f1, f2, e1, o1, l2, pm⟩ := l.take ek
        obtain ⟨u, g1, g2, e2, o2, o3, pm2⟩ := Own.takeP p o1 e
        have hi := (List.getElem?_eq_some_iff.mp ek).1
        obtain ⟨fr, l3, pm3⟩ := l2.put (i := i) (v := x) (by rw [List.getElem?_set_self hi]) o3
        rw [List.set_set, ← setSnd_snd] at l3
        refine ⟨u, g1, fr, by rw [follow_node h e1]; exact e2, o2, ?_, ?_⟩
        · rw [S.put_cons, show (S.dct true kss).kids = kss.map (·.2) from rfl, ek]
          exact .lck hf h (by rw [hk]; exact (setSnd_fst _ kss i).symm) l3
        · exact (pm.trans (List.Perm.append_right f2 pm2)).trans (by rw [List.append_assoc]; exact List.Perm.append_left g1 pm3.symm)
theorem Own.putP : ∀ (p : List Nat) {v u : V} {s t : S} {fp fq : List Addr}, Own K F H v s fp → s.get p = some (.con u) → Own K F H u t fq →
    ∃ fr, Own K F H v (s.put p t) fr ∧ fr.Perm (fq ++ fp)
  | [], v, u, s, t, fp, fq, o, e, q => by
    rw [S.get_nil] at e
    have e := Option.some.inj e
    obtain ⟨rfl, rfl⟩ := o.con_inv e
    exact ⟨fq, by rw [S.put_nil]; exact q, by simp⟩
  | i :: p, v, u, s, t, fp, fq, o, e, q => by
    rw [S.get_cons] at e
    cases o with
    | dat d => simp [S.kids] at e
    | con => simp [S.kids] at e
    | @node a ob _ ex fp h hd l =>
      cases ek : s.kids[i]? with
      | none => rw [ek] at e; cases e
      | some w =>
        rw [ek] at e
        obtain ⟨x, f1, f2, e1, o1, l2, pm⟩ := l.take ek
        obtain ⟨g, o2, pm2⟩ := Own.putP p o1 e q
        have hi := (List.getElem?_eq_some_iff.mp ek).1
        obtain ⟨fr, l3, pm3⟩ := l2.put (i := i) (v := x) (by rw [List.getElem?_set_self hi]) o2
        rw [List.set_set] at l3
        refine ⟨a :: (ex ++ fr), ?_, ?_⟩
        · rw [S.put_cons, ek]
          exact .node h (hd.setKid i _) (by rw [S.kids_setKid]; exact l3)
        · have p1 : fr.Perm (fq ++ fp) := pm3.trans ((List.Perm.append_right f2 pm2).trans (by rw [List.append_assoc]; exact List.Perm.append_left fq pm.symm))
          have p2 : (ex ++ fr).Perm (fq ++ (ex ++ fp)) := by
            refine (List.Perm.append_left ex p1).trans ?_
            rw [← List.append_assoc, ← List.append_assoc]
            exact List.Perm.append_right fp List.perm_append_comm
          exact (List.Perm.cons a p2).trans List.perm_middle.symm
    | @lck a ob kvs kss _ hf h hk l =>
      cases ek : (kss.map (·.2))[i]? with
      | none => rw [show (S.dct true kss).kids = kss.map (·.2) from rfl, ek] at e; cases e
      | some w =>
        rw [show (S.dct true kss).kids = kss.map (·.2) from rfl, ek] at e
        obtain ⟨x, f1, f2, e1, o1, l2, pm⟩ := l.take ek
        obtain ⟨g, o2, pm2⟩ := Own.putP p o1 e q
        have hi := (List.getElem?_eq_some_iff.mp ek).1
        obtain ⟨fr, l3, pm3⟩ := l2.put (i := i) (v := x) (by rw [List.getElem?_set_self hi]) o2
        rw [List.set_set, ← setSnd_snd] at l3
        refine ⟨fr, ?_, ?_⟩
        · rw [S.put_cons, show (S.dct true kss).kids = kss.map (·.2) from rfl, ek]
          exact .lck hf h (by rw [hk]; exact (setSnd_fst _ kss i).symm) l3
        · exact pm3.trans ((List.Perm.append_right f2 pm2).trans (by rw [List.append_assoc]; exact List.Perm.append_left fq pm.symm))
theorem Own.follow_keep (kf : ∀ b o, F b = some o → H' b = some o) : ∀ (p : List Nat) {v : V} {s t : S} {fp : List Addr}, Own K F H v s fp → s.get p = some t → (∀ a ∈ fp, ∀ o, H a = some o → H' a = some o) → follow H' v p = follow H v p
  | [], v, _, _, _, _, _, _ => by rw [follow_nil, follow_nil]
  | i :: p, v, s, t, fp, o, e, k => by
    rw [S.get_cons] at e
    cases o with
    | dat d => simp [S.kids] at e
    | con => simp [S.kids] at e
    | @node a ob _ ex fp h hd l =>
      cases ek : s.kids[i]? with
      | none => rw [ek] at e; cases e
      | some w =>
        rw [ek] at e
        obtain ⟨x, f1, f2, e1, o1, l2, pm⟩ := l.take ek
        rw [follow_node h e1, follow_node (k a List.mem_cons_self _ h) e1]
        exact Own.follow_keep kf p o1 e fun b m => k b (List.mem_cons_of_mem _ (List.mem_append_right _ (pm.mem_iff.mpr (List.mem_append_left _ m))))
    | @lck a ob kvs kss _ hf h hk l =>
      cases ek : (kss.map (·.2))[i]? with
      | none => rw [show (S.dct true kss).kids = kss.map (·.2) from rfl, ek] at e; cases e
      | some w =>
        rw [show (S.dct true kss).kids = kss.map (·.2) from rfl, ek] at e
        obtain ⟨x, f1, f2, e1, o1, l2, pm⟩ := l.take ek
        rw [follow_node h e1, follow_node (kf a _ hf) e1]
        exact Own.follow_keep kf p o1 e fun b m => k b (pm.mem_iff.mpr (List.mem_append_left _ m))
end Mv
namespace Mv
open PySem PySem.Spec PyProof.Rows L2
variable {K : PySem.W.Frag} {F F' H H' : Hp} {v u : V} {vs : List V} {s t : S} {ss : List S} {fp fq : List Addr}
inductive Sl where
  | no
  | own (s : S)
  | bor (p : List Nat)
abbrev En := List Sl
abbrev Ro := List (Option V)
def slS : Option V → Sl → S
  | _, .own s => s
  | v, _ => .con (v.getD .non)
def rootV (ρ : Ro) : List V := ρ.map fun v => v.getD .non
def rootS : Ro → En → List S
  | v :: ρ, e :: E => slS v e :: rootS ρ E
  | _, _ => []
def eget (E : En) : List Nat → Option S
  | i :: p => match E[i]? with
    | some (Sl.own s) => s.get p
    | _ => none
  | [] => none
def eput (E : En) (p : List Nat) (t : S) : En :=
  match p with
  | i :: p => match E[i]? with
    | some (Sl.own s) => E.set i (.own (s.put p t))
    | _ => E
  | [] => E
def within (p q : List Nat) : Bool := p.isPrefixOf q && p.length != q.length
def kill1 (p : List Nat) : Sl → Sl
  | .bor q => if within p q then .no else .bor q
  | e => e
def ekill (E : En) (p : List Nat) : En := E.map (kill1 p)
def followE (H : Hp) (ρ : Ro) : List Nat → Option V
  | i :: p => match ρ[i]? with
    | some (some v) => follow H v p
    | _ => none
  | [] => none
theorem rootS_get : ∀ {ρ : Ro} {E : En} {i : Nat} {s : S}, E.length = ρ.length → E[i]? = some (Sl.own s) → (rootS ρ E)[i]? = some s
  | [], [], _, _, _, h => by simp at h
  | _ :: _, [], _, _, l, _ => by simp at l
  | [], _ :: _, _, _, l, _ => by simp at l
  | v :: ρ, e :: E, 0, s, l, h => by
    simp only [List.getElem?_cons_zero, Option.some.injEq] at h
    subst h; rfl
  | v :: ρ, e :: E, i + 1, s, l, h => by
    simp only [rootS, List.getElem?_cons_succ]
    exact rootS_get (by simpa using l) (by simpa using h)
theorem rootS_set : ∀ {ρ : Ro} {E : En} {i : Nat} {s : S}, E.length = ρ.length → rootS ρ (E.set i (.own s)) = (rootS ρ E).set i s
  | [], [], _, _, _ => by simp [rootS]
  | _ :: _, [], _, _, l => by simp at l
  | [], _ :: _, _, _, l => by simp at l
  | v :: ρ, e :: E, 0, s, l => rfl
  | v :: ρ, e :: E, i + 1, s, l => by
    simp only [rootS, List.set_cons_succ]
    rw [rootS_set (by simpa using l)]
structure Core (K : PySem.W.Frag) (F H : Hp) (ρ : Ro) (E : En) (fp : List Addr) : Prop where
  len : E.length = ρ.length
  own : ∃ fq, OwnL K F H (rootV ρ) (rootS ρ E) fq ∧ fp.Perm fq
  set : ∀ (i : Nat) (s : S), E[i]? = some (Sl.own s) → ∃ v, ρ[i]? = some (some v)
variable {ρ : Ro} {E : En}
theorem Core.perm (c : Core K F H ρ E fp) (p : fp.Perm fq) : Core K F H ρ E fq := ⟨c.len, let ⟨f, o, q⟩ := c.own; ⟨f, o, p.symm.trans q⟩, c.set⟩
theorem Core.frame (c : Core K F H ρ E fp) (kF : ∀ b o, F b = some o → F' b = some o) (sub : ∀ b o, F' b = some o → H' b = some o) (k : ∀ a ∈ fp, ∀ o, H a = some o → H' a = some o) : Core K F' H' ρ E fp :=
  ⟨c.len, let ⟨f, o, q⟩ := c.own; ⟨f, o.frame kF sub fun a m => k a (q.mem_iff.mpr m), q⟩, c.set⟩
theorem Core.there (c : Core K F H ρ E fp) : ∀ a ∈ fp, ∃ o, H a = some o := fun a m => let ⟨f, o, q⟩ := c.own; o.there a (q.mem_iff.mp m)
theorem eput_len (E : En) (p : List Nat) (t : S) : (eput E p t).length = E.length := by
  unfold eput
  split
  · split <;> simp
  · rfl
theorem eget_some {p : List Nat} (h : eget E p = some t) : ∃ i q s, p = i :: q ∧ E[i]? = some (Sl.own s) ∧ s.get q = some t := by
  cases p with
  | nil => cases h
  | cons i q =>
    unfold eget at h
    cases e : E[i]? with
    | none => simp only [e] at h; cases h
    | some sl => cases sl with
      | own s => simp only [e] at h; exact ⟨i, q, s, rfl, e, h⟩
      | no => simp only [e] at h; cases h
      | bor r => simp only [e] at h; cases h
theorem Core.take {p : List Nat} (c : Core K F H ρ E fp) (h : eget E p = some t) :
    ∃ u fp1 fp2, followE H ρ p = some u ∧ Own K F H u t fp1 ∧ Core K F H ρ (eput E p (.con u)) fp2 ∧ fp.Perm (fp1 ++ fp2) := by
  obtain ⟨i, q, s, rfl, ei, hq⟩ := eget_some h
  obtain ⟨f, o, pm⟩ := c.own
  obtain ⟨x, f1, f2, e1, o1, l2, pm1⟩ := o.take (rootS_get c.len ei)
  obtain ⟨u, g1, g2, e2, o2, o3, pm2⟩ := Own.takeP q o1 hq
  obtain ⟨y, ey⟩ := c.set i s ei
  have hx : x = y := by
    unfold rootV at e1
    rw [List.getElem?_map, ey] at e1
    simpa using e1.symm
  subst hx
  have hi : i < (rootS ρ E).length := (List.getElem?_eq_some_iff.mp (rootS_get c.len ei)).1
  obtain ⟨fr, l3, pm3⟩ := l2.put (i := i) (v := x) (by rw [List.getElem?_set_self hi]) o3
  rw [List.set_set] at l3
  refine ⟨u, g1, fr, by simp only [followE, ey]; exact e2, o2, ⟨by rw [eput_len]; exact c.len, ⟨fr, ?_, List.Perm.refl _⟩, fun j w hj => ?_⟩, ?_⟩
  · simp only [eput, ei]
    rw [rootS_set c.len]
    exact l3
  · simp only [eput, ei] at hj
    by_cases ij : i = j
    · subst ij; exact ⟨x, ey⟩
    · rw [List.getElem?_set_ne ij] at hj
      exact c.set j w hj
  · exact pm.trans ((pm1.trans (List.Perm.append_right f2 pm2)).trans (by rw [List.append_assoc]; exact List.Perm.append_left g1 pm3.symm))
theorem Core.put {p : List Nat} (c : Core K F H ρ E fp) (h : eget E p = some (.con u)) (q : Own K F H u t fq) : Core K F H ρ (eput E p t) (fq ++ fp) := by
  obtain ⟨i, r, s, rfl, ei, hq⟩ := eget_some h
  obtain ⟨f, o, pm⟩ := c.own
  obtain ⟨x, f1, f2, e1, o1, l2, pm1⟩ := o.take (rootS_get c.len ei)
  obtain ⟨g, o2, pm2⟩ := Own.putP r o1 hq q
  have hi : i < (rootS ρ E).length := (List.getElem?_eq_some_iff.mp (rootS_get c.len ei)).1
  obtain ⟨fr, l3, pm3⟩ := l2.put (i := i) (v := x) (by rw [List.getElem?_set_self hi]) o2
  rw [List.set_set] at l3
  refine ⟨by rw [eput_len]; exact c.len, ⟨fr, ?_, ?_⟩, fun j w hj => ?_⟩
  · simp only [eput, ei]
    rw [rootS_set c.len]
    exact l3
  · refine (List.Perm.append_left fq (pm.trans pm1)).trans ?_
    rw [← List.append_assoc]
    exact (List.Perm.append_right f2 pm2.symm).trans pm3.symm
  · simp only [eput, ei] at hj
    by_cases ij : i = j
    · subst ij; exact c.set i s ei
    · rw [List.getElem?_set_ne ij] at hj
      exact c.set j w hj
theorem Core.follow_keep {p : List Nat} (c : Core K F H ρ E fp) (kf : ∀ b o, F b = some o → H' b = some o) (h : eget E p = some t) (k : ∀ a ∈ fp, ∀ o, H a = some o → H' a = some o) : followE H' ρ p = followE H ρ p := by
  obtain ⟨i, q, s, rfl, ei, hq⟩ := eget_some h
  obtain ⟨f, o, pm⟩ := c.own
  obtain ⟨x, f1, f2, e1, o1, l2, pm1⟩ := o.take (rootS_get c.len ei)
  obtain ⟨y, ey⟩ := c.set i s ei
  have hx : x = y := by
    unfold rootV at e1
    rw [List.getElem?_map, ey] at e1
    simpa using e1.symm
  subst hx
  simp only [followE, ey]
  exact o1.follow_keep kf q hq fun a m => k a (pm.mem_iff.mpr (pm1.mem_iff.mpr (List.mem_append_left _ m)))
theorem eget_eput {p : List Nat} (h : eget E p = some s) : eget (eput E p t) p = some t := by
  obtain ⟨i, q, w, rfl, ei, hq⟩ := eget_some h
  have hi : i < E.length := (List.getElem?_eq_some_iff.mp ei).1
  simp only [eput, ei, eget, List.getElem?_set_self hi]
  exact S.get_put q w t s hq
theorem eput_eput {p : List Nat} {a b : S} : eput (eput E p a) p b = eput E p b := by
  cases p with
  | nil => rfl
  | cons i q =>
    cases e : E[i]? with
    | none => simp only [eput, e]
    | some sl => cases sl with
      | own s =>
        have hi : i < E.length := (List.getElem?_eq_some_iff.mp e).1
        simp only [eput, e, List.getElem?_set_self hi, List.set_set, S.put_put]
      | no => simp only [eput, e]
      | bor r => simp only [eput, e]
theorem eget_apart {p q : List Nat} (h : apart p q = true) : eget (eput E p t) q = eget E q := by
  cases p with
  | nil => simp [apart] at h
  | cons i p => cases q with
    | nil => simp [apart] at h
    | cons j q =>
      simp only [eput]
      split
      · next s hs =>
        have hi : i < E.length := (List.getElem?_eq_some_iff.mp hs).1
        by_cases ij : i = j
        · subst ij
          simp only [apart, bne_self_eq_false, Bool.false_or] at h
          simp only [eget, List.getElem?_set_self hi, hs]
          exact S.get_put_apart p q s t h
        · simp only [eget, List.getElem?_set_ne ij]
      · rfl
theorem eput_comm {p q : List Nat} {a b : S} (h : apart p q = true) : eput (eput E p a) q b = eput (eput E q b) p a := by
  cases p with
  | nil => simp [apart] at h
  | cons i p => cases q with
    | nil => simp [apart] at h
    | cons j q =>
      by_cases ij : i = j
      · subst ij
        simp only [apart, bne_self_eq_false, Bool.false_or] at h
        cases e : E[i]? with
        | none => simp only [eput, e]
        | some sl => cases sl with
          | own s =>
            have hi : i < E.length := (List.getElem?_eq_some_iff.mp e).1
            simp only [eput, e, List.getElem?_set_self hi, List.set_set, S.put_comm p q s a b h]
          | no => simp only [eput, e]
          | bor r => simp only [eput, e]
      · have ji : j ≠ i := fun z => ij z.symm
        cases e : E[i]? with
        | none => cases e2 : E[j]? with
          | none => simp only [eput, e, e2]
          | some sl => cases sl <;> simp only [eput, e, e2, List.getElem?_set_ne ij, List.getElem?_set_ne ji]
        | some sl => cases sl with
          | own s => cases e2 : E[j]? with
            | none => simp only [eput, e, e2, List.getElem?_set_ne ij, List.getElem?_set_ne ji]
            | some sl2 => cases sl2 <;> simp only [eput, e, e2, List.getElem?_set_ne ij, List.getElem?_set_ne ji] <;> rw [List.set_comm _ _ ij]
          | no => cases e2 : E[j]? with
            | none => simp only [eput, e, e2]
            | some sl2 => cases sl2 <;> simp only [eput, e, e2, List.getElem?_set_ne ij, List.getElem?_set_ne ji]
          | bor r => cases e2 : E[j]? with
            | none => simp only [eput, e, e2]
            | some sl2 => cases sl2 <;> simp only [eput, e, e2, List.getElem?_set_ne ij, List.getElem?_set_ne ji]
theorem ekill_get (p q : List Nat) : eget (ekill E p) q = eget E q := by
  cases q with
  | nil => rfl
  | cons i q =>
    simp only [eget, ekill, List.getElem?_map]
    cases e : E[i]? with
    | none => rfl
    | some sl => cases sl with
      | no => rfl
      | own s => rfl
      | bor r =>
        simp only [Option.map_some, kill1]
        split <;> first | rfl | (split at * <;> simp_all)
theorem rootS_kill (p : List Nat) : ∀ (ρ : Ro) (E : En), rootS ρ (ekill E p) = rootS ρ E
  | [], _ => by simp [rootS]
  | _ :: _, [] => rfl
  | v :: ρ, e :: E => by
    have ih := rootS_kill p ρ E
    unfold ekill at ih
    simp only [ekill, List.map_cons, rootS, ih]
    congr 1
    cases e with
    | no => rfl
    | own s => rfl
    | bor r => simp only [kill1]; split <;> rfl
theorem Core.kill (c : Core K F H ρ E fp) (p : List Nat) : Core K F H ρ (ekill E p) fp := by
  refine ⟨by unfold ekill; rw [List.length_map]; exact c.len, by rw [rootS_kill]; exact c.own, fun i s h => ?_⟩
  unfold ekill at h
  rw [List.getElem?_map] at h
  cases e : E[i]? with
  | none => rw [e] at h; cases h
  | some sl =>
    rw [e] at h
    cases sl with
    | no => cases h
    | own w => cases h; exact c.set i _ e
    | bor r =>
      simp only [Option.map_some, kill1, Option.some.injEq] at h
      split at h <;> cases h
variable {F1 F2 H1 H2 : Hp} {fr fp' fp1 fp2 : List Addr} {E' : En}
theorem apart_or : ∀ (p q : List Nat), within p q = false → p = q ∨ apart p q = true ∨ within q p = true
  | [], [], _ => .inl rfl
  | [], j :: q, h => by simp [within] at h
  | i :: p, [], _ => .inr (.inr (by simp [within]))
  | i :: p, j :: q, h => by
    by_cases ij : i = j
    · subst ij
      have h' : within p q = false := by simpa [within] using h
      rcases apart_or p q h' with e | e | e
      · exact .inl (by rw [e])
      · exact .inr (.inl (by simp [apart, e]))
      · exact .inr (.inr (by simpa [within] using e))
    · exact .inr (.inl (by simp [apart, ij]))
theorem S.get_put_above : ∀ (q p : List Nat) (s t u : S), within q p = true → s.get p = some u → ((s.put p t).get q).isSome = true
  | [], p, s, t, u, _, _ => by rw [S.get_nil]; rfl
  | j :: q, [], s, t, u, h, _ => by simp [within] at h
  | j :: q, i :: p, s, t, u, h, hg => by
    rw [S.get_cons] at hg
    cases e : s.kids[i]? with
    | none => rw [e] at hg; cases hg
    | some w =>
      rw [e] at hg
      have hi := (List.getElem?_eq_some_iff.mp e).1
      have ij : j = i := by
        simp only [within, List.isPrefixOf, Bool.and_eq_true, beq_iff_eq] at h
        exact h.1.1
      subst ij
      have h' : within q p = true := by simpa [within] using h
      rw [S.put_cons, S.get_cons]
      simp only [e, S.kids_setKid, List.getElem?_set_self hi]
      exact S.get_put_above q p w t u h' hg
theorem eget_above {u : S} {q p : List Nat} (q0 : q ≠ []) (h : within q p = true) (hg : eget E p = some u) : (eget (eput E p t) q).isSome = true := by
  obtain ⟨i, r, s, rfl, ei, hr⟩ := eget_some hg
  cases q with
  | nil => exact absurd rfl q0
  | cons j q =>
    have ij : j = i := by
      simp only [within, List.isPrefixOf, Bool.and_eq_true, beq_iff_eq] at h
      exact h.1.1
    subst ij
    have h' : within q r = true := by simpa [within] using h
    have hi : j < E.length := (List.getElem?_eq_some_iff.mp ei).1
    simp only [eput, ei, eget, List.getElem?_set_self hi]
    exact S.get_put_above q r s t u h' hr
structure Rep (K : PySem.W.Frag) (F H : Hp) (ρ : Ro) (E : En) (fp : List Addr) : Prop where
  core : Core K F H ρ E fp
  sub : ∀ a o, F a = some o → H a = some o
  nd : fp.Nodup
  off : ∀ a ∈ fp, F a = none
  bor : ∀ (i : Nat) (p : List Nat), E[i]? = some (Sl.bor p) → ∃ v, ρ[i]? = some (some v) ∧ followE H ρ p = some v ∧ (eget E p).isSome = true
structure Grow (F H : Hp) (fp : List Addr) (F' H' : Hp) (fp' : List Addr) : Prop where
  f : ∀ a o, F a = some o → F' a = some o
  sub : ∀ a o, F' a = some o → H' a = some o
  keep : ∀ a o, H a = some o → a ∉ fp → H' a = some o
  new : ∀ a ∈ fp', a ∈ fp ∨ H a = none
  off : ∀ a, H a ≠ none → a ∉ fp → F a = none → F' a = none
theorem Grow.refl (sub : ∀ a o, F a = some o → H a = some o) (fp : List Addr) : Grow F H fp F H fp := ⟨fun _ _ h => h, sub, fun _ _ h _ => h, fun _ m => .inl m, fun _ _ _ h => h⟩
theorem Grow.trans (g : Grow F H fp F1 H1 fp1) (h : Grow F1 H1 fp1 F2 H2 fp2) : Grow F H fp F2 H2 fp2 := by
  have out : ∀ a, H a ≠ none → a ∉ fp → a ∉ fp1 := fun a h0 n m => (g.new a m).elim n h0
  refine ⟨fun a o e => h.f a o (g.f a o e), h.sub, fun a o e n => h.keep a o (g.keep a o e n) (out a (by rw [e]; exact fun z => nomatch z) n), fun a m => ?_, fun a h0 n e => ?_⟩
  · rcases h.new a m with q | q
    · exact g.new a q
    · by_cases n : a ∈ fp
      · exact .inl n
      · refine .inr ?_
        cases e : H a with
        | none => rfl
        | some o => rw [g.keep a o e n] at q; cases q
  · obtain ⟨o, eo⟩ := Option.ne_none_iff_exists'.mp h0
    exact h.off a (by rw [g.keep a o eo n]; exact fun z => nomatch z) (out a h0 n) (g.off a h0 n e)
theorem Grow.wide (g : Grow F H fp F' H' fp') (h1 : ∀ a ∈ fp, a ∈ fq) (h2 : ∀ a ∈ fr, a ∈ fq ∨ H a = none) : Grow F H fq F' H' fr :=
  ⟨g.f, g.sub, fun a o e n => g.keep a o e fun m => n (h1 a m), h2, fun a h0 n e => g.off a h0 (fun m => n (h1 a m)) e⟩
theorem Grow.less (g : Grow F H fp F' H' fp') (h2 : ∀ a ∈ fr, a ∈ fp') : Grow F H fp F' H' fr := ⟨g.f, g.sub, g.keep, fun a m => g.new a (h2 a m), g.off⟩
theorem Grow.alloc (sub : ∀ a o, F a = some o → H a = some o) {p : Addr} {o : HO} (hp : H p = none) : Grow F H [] F (upd H p o) [p] := by
  refine ⟨fun _ _ h => h, fun a u e => ?_, fun a u e _ => ?_, fun a m => .inr (by rw [List.mem_singleton.mp m]; exact hp), fun _ _ _ h => h⟩
  · rw [upd_ne (ne_of_none (sub a u e) hp)]; exact sub a u e
  · rw [upd_ne (ne_of_none e hp)]; exact e
theorem Grow.share (sub : ∀ a o, F a = some o → H a = some o) {p : Addr} {o : HO} (hp : H p = none) : Grow F H [] (upd F p o) (upd H p o) [] := by
  have hf : F p = none := by
    cases e : F p with
    | none => rfl
    | some u => rw [sub p u e] at hp; cases hp
  refine ⟨fun a u e => ?_, fun a u e => ?_, fun a u e _ => ?_, (fun _ m => nomatch m), fun a h0 _ e => ?_⟩
  · rw [upd_ne (ne_of_none e hf)]; exact e
  · by_cases ap : a = p
    · subst ap; rw [upd_same] at e ⊢; exact e
    · rw [upd_ne ap] at e ⊢; exact sub a u e
  · rw [upd_ne (ne_of_none e hp)]; exact e
  · rw [upd_ne (fun z => h0 (by rw [z]; exact hp))]; exact e
theorem Rep.there (r : Rep K F H ρ E fp) : ∀ a ∈ fp, ∃ o, H a = some o := r.core.there
theorem Rep.grow (r : Rep K F H ρ E fp) (g : Grow F H [] F' H' fr) : Rep K F' H' ρ E fp := by
  have k : ∀ a ∈ fp, ∀ o, H a = some o → H' a = some o := fun a _ o e => g.keep a o e (fun m => nomatch m)
  refine ⟨r.core.frame g.f g.sub k, g.sub, r.nd, fun a m => ?_, fun i p h => ?_⟩
  · obtain ⟨o, e⟩ := r.there a m
    exact g.off a (by rw [e]; exact fun z => nomatch z) (fun m => nomatch m) (r.off a m)
  · obtain ⟨v, h1, h2, h3⟩ := r.bor i p h
    obtain ⟨t, ht⟩ := Option.isSome_iff_exists.mp h3
    exact ⟨v, h1, by rw [r.core.follow_keep (fun b o e => g.sub b o (g.f b o e)) ht k]; exact h2, h3⟩
theorem Own.grow (o : Own K F H v s fq) (g : Grow F H fp F' H' fp') (d : ∀ a ∈ fq, a ∉ fp) : Own K F' H' v s fq := o.frame g.f g.sub fun a m u e => g.keep a u e (d a m)
theorem Rep.focus2 {p : List Nat} (r : Rep K F H ρ E fp) (h : eget E p = some t) :
    ∃ u fp1 fp2, followE H ρ p = some u ∧ Own K F H u t fp1 ∧ fp.Perm (fp1 ++ fp2) ∧
      ∀ F' H' t' fq X Y, Grow F H (X ++ fp1) F' H' (Y ++ fq) → (∀ a ∈ X, a ∉ fp) → Own K F' H' u t' fq → (Y ++ fq).Nodup → (∀ a ∈ fq, F' a = none) →
        Rep K F' H' ρ (ekill (eput E p t') p) (fq ++ fp2) ∧ (Y ++ (fq ++ fp2)).Nodup ∧ Grow F H (X ++ fp) F' H' (Y ++ (fq ++ fp2)) := by
  obtain ⟨u, fp1, fp2, h1, h2, c, pm⟩ := r.core.take h
  have nd : (fp1 ++ fp2).Nodup := pm.nodup_iff.mp r.nd
  have in1 : ∀ a ∈ fp1, a ∈ fp := fun a m => pm.mem_iff.mpr (List.mem_append_left _ m)
  have in2 : ∀ a ∈ fp2, a ∈ fp := fun a m => pm.mem_iff.mpr (List.mem_append_right _ m)
  refine ⟨u, fp1, fp2, h1, h2, pm, fun F' H' t' fq X Y g dX o n off => ?_⟩
  have dj : ∀ a ∈ fp2, a ∉ X ++ fp1 := fun a m2 m1 => by
    rcases List.mem_append.mp m1 with m | m
    · exact dX a m (in2 a m2)
    · exact (List.nodup_append.mp nd).2.2 a m a m2 rfl
  have k : ∀ a ∈ fp2, ∀ o, H a = some o → H' a = some o := fun a m o e => g.keep a o e (dj a m)
  have c1 : Core K F' H' ρ (eput E p (.con u)) fp2 := c.frame g.f g.sub k
  have c2 : Core K F' H' ρ (eput E p t') (fq ++ fp2) := by
    have := c1.put (eget_eput h) o
    rw [eput_eput] at this
    exact this
  have there2 : ∀ a ∈ fp2, ∃ o, H a = some o := fun a m => r.there a (in2 a m)
  have notnew : ∀ a ∈ fp2, a ∉ Y ++ fq := fun a m m2 => by
    obtain ⟨o, eo⟩ := there2 a m
    rcases g.new a m2 with z | z
    · exact dj a m z
    · rw [eo] at z; cases z
  have ndq : (fq ++ fp2).Nodup := List.nodup_append.mpr ⟨(List.nodup_append.mp n).2.1, (List.nodup_append.mp nd).2.1, fun a m b m2 e => by
    subst e; exact notnew a m2 (List.mem_append_right _ m)⟩
  refine ⟨⟨c2.kill p, g.sub, ndq, fun a m => ?_, fun i q hb => ?_⟩, ?_, ?_⟩
  · rcases List.mem_append.mp m with m | m
    · exact off a m
    · obtain ⟨o, eo⟩ := there2 a m
      exact g.off a (by rw [eo]; exact fun z => nomatch z) (dj a m) (r.off a (in2 a m))
  · -- what is borrowed
    have hb' : E[i]? = some (Sl.bor q) ∧ within p q = false := by
      unfold ekill at hb
      rw [List.getElem?_map] at hb
      cases e : (eput E p t')[i]? with
      | none => rw [e] at hb; cases hb
      | some sl =>
        rw [e] at hb
        cases sl with
        | no => cases hb
        | own w => cases hb
        | bor w =>
          simp only [Option.map_some, kill1, Option.some.injEq] at hb
          have hw : within p w = false ∧ w = q := by
            cases hh : within p w with
            | true => rw [hh] at hb; simp at hb
            | false => rw [hh] at hb; simp at hb; exact ⟨rfl, hb⟩
          obtain ⟨hw1, rfl⟩ := hw
          refine ⟨?_, hw1⟩
          obtain ⟨j, r', s', rfl, ej, _⟩ := eget_some h
          simp only [eput, ej] at e
          by_cases ij : j = i
          · subst ij
            have hj := (List.getElem?_eq_some_iff.mp ej).1
            rw [List.getElem?_set_self hj] at e
            cases e
          · rw [List.getElem?_set_ne ij] at e
            exact e
    obtain ⟨hb', hw⟩ := hb'
    obtain ⟨v, e1, e2, e3⟩ := r.bor i q hb'
    obtain ⟨w, ew⟩ := Option.isSome_iff_exists.mp e3
    refine ⟨v, e1, ?_, ?_⟩
    · have : ∃ w', eget (eput E p (.con u)) q = some w' := by
        rcases apart_or p q hw with e | e | e
        · subst e; exact ⟨_, eget_eput h⟩
        · exact ⟨w, by rw [eget_apart e]; exact ew⟩
        · have q0 : q ≠ [] := fun z => by rw [z] at ew; cases ew
          exact Option.isSome_iff_exists.mp (eget_above q0 e h)
      obtain ⟨w', ew'⟩ := this
      rw [c.follow_keep (fun b o e => g.sub b o (g.f b o e)) ew' k]; exact e2
    · rw [ekill_get]
      rcases apart_or p q hw with e | e | e
      · subst e; rw [eget_eput h]; rfl
      · rw [eget_apart e]; exact e3
      · have q0 : q ≠ [] := fun z => by rw [z] at ew; cases ew
        exact eget_above q0 e h
  · exact List.nodup_append.mpr ⟨(List.nodup_append.mp n).1, ndq, fun a m b m2 e => by
      subst e
      rcases List.mem_append.mp m2 with m2 | m2
      · exact (List.nodup_append.mp n).2.2 a m a m2 rfl
      · exact notnew a m2 (List.mem_append_left _ m)⟩
  · refine g.wide (fun a m => ?_) fun a m => ?_
    · rcases List.mem_append.mp m with m | m
      · exact List.mem_append_left _ m
      · exact List.mem_append_right _ (in1 a m)
    · rcases List.mem_append.mp m with m | m
      · rcases g.new a (List.mem_append_left _ m) with z | z
        · exact .inl (List.mem_append.mpr ((List.mem_append.mp z).imp id (in1 a)))
        · exact .inr z
      · rcases List.mem_append.mp m with m | m
        · rcases g.new a (List.mem_append_right _ m) with z | z
          · exact .inl (List.mem_append.mpr ((List.mem_append.mp z).imp id (in1 a)))
          · exact .inr z
        · exact .inl (List.mem_append_right _ (in2 a m))
end Mv
namespace Mv
open PySem PySem.Spec PyProof.Rows L2
variable {K : PySem.W.Frag} {F F' F1 F2 H H' H1 H2 : Hp} {v u x y : V} {vs : List V} {s t : S} {ss : List S} {fp fq fr fp' fp1 fp2 f1 f2 : List Addr} {ρ as : Ro} {E E' : En} {n : Nat}
mutual
def S.toD : S → Option PyData
  | .dat d => some d
  | .lst xs => (S.toDs xs).map .list
  | _ => none
def S.toDs : List S → Option (List PyData)
  | [] => some []
  | s :: ss => match S.toD s, S.toDs ss with
    | some d, some ds => some (d :: ds)
    | _, _ => none
end
mutual
theorem Own.dp (sub : ∀ a o, F a = some o → H a = some o) : ∀ (s : S) {v : V} {fp : List Addr} {d : PyData}, Own K F H v s fp → s.toD = some d → Dq K H v d
  | .dat d, v, fp, d', o, e => by
    simp only [S.toD, Option.some.injEq] at e
    subst e
    exact Dq.mono sub (o.dat_inv rfl).1
  | .lst xs, v, fp, d', o, e => by
    simp only [S.toD, Option.map_eq_some_iff] at e
    obtain ⟨ds, e, rfl⟩ := e
    cases o with
    | @node a ob _ ex fq h hd l =>
      cases ob with
      | lst vs => exact .lst (.inl (.inl h)) (Own.dps sub xs l e)
      | frz o u => cases u <;> exact hd.elim
      | _ => exact hd.elim
  | .con _, _, _, _, _, e => by simp [S.toD] at e
  | .dct _ _, _, _, _, _, e => by simp [S.toD] at e
  | .ins _ _, _, _, _, _, e => by simp [S.toD] at e
theorem Own.dps (sub : ∀ a o, F a = some o → H a = some o) : ∀ (ss : List S) {vs : List V} {fp : List Addr} {ds : List PyData}, OwnL K F H vs ss fp → S.toDs ss = some ds → DqAll K H vs ds
  | [], vs, fp, ds, o, e => by
    simp only [S.toDs, Option.some.injEq] at e
    subst e
    cases o
    exact .nil
  | s :: ss, vs, fp, ds, o, e => by
    cases o with
    | cons a l =>
      simp only [S.toDs] at e
      split at e
      · next d ds' e1 e2 =>
        cases e
        exact .cons (Own.dp sub s a e1) (Own.dps sub ss l e2)
      · cases e
end
inductive Rs where
  | val (s : S)
  | pl (p : List Nat)
def RsAt (K : PySem.W.Frag) (F H : Hp) (ρ : Ro) (E : En) (v : V) : Rs → List Addr → Prop
  | .val s, fr => Own K F H v s fr
  | .pl p, fr => fr = [] ∧ followE H ρ p = some v ∧ (eget E p).isSome = true
def Rs.full (E : En) : Rs → Option PyData
  | .val s => s.toD
  | .pl p => (eget E p).bind S.toD
def Rs.at (E : En) : Rs → Option S
  | .val s => some s
  | .pl p => eget E p
theorem Rs.full_at {r : Rs} : r.full E = (r.at E).bind S.toD := by cases r <;> rfl
theorem Grow.seq0 (g : Grow F H [] F1 H1 f1) (h : Grow F1 H1 [] F2 H2 f2) : Grow F H [] F2 H2 (f1 ++ f2) := by
  have g' := g.less (fr := []) (fun _ m => nomatch m)
  have gh := g'.trans h
  refine ⟨gh.f, gh.sub, gh.keep, fun a m => ?_, gh.off⟩
  rcases List.mem_append.mp m with m | m
  · exact g.new a m
  · exact gh.new a m
theorem Grow.drop (g : Grow F H [] F1 H1 f1) : Grow F H [] F1 H1 [] := g.less fun _ m => nomatch m
theorem RsAt.grow {r : Rs} (R : Rep K F H ρ E fp) (a : RsAt K F H ρ E v r fr) (g : Grow F H [] F' H' f1) : RsAt K F' H' ρ E v r fr := by
  cases r with
  | val s => exact Own.grow (show Own K F H v s fr from a) g (fun _ _ m => nomatch m)
  | pl p =>
    obtain ⟨a1, a2, a3⟩ := a
    obtain ⟨t, ht⟩ := Option.isSome_iff_exists.mp a3
    exact ⟨a1, by rw [R.core.follow_keep (fun b o e => g.sub b o (g.f b o e)) ht fun a _ o e => g.keep a o e (fun m => nomatch m)]; exact a2, a3⟩
theorem RsAt.own {r : Rs} (R : Rep K F H ρ E fp) (a : RsAt K F H ρ E v r fr) (h : r.at E = some s) : ∃ fq, Own K F H v s fq := by
  cases r with
  | val t =>
    cases h
    exact ⟨fr, a⟩
  | pl p =>
    obtain ⟨a1, a2, a3⟩ := a
    obtain ⟨u, f1, f2, e1, o, _⟩ := R.core.take (show eget E p = some s from h)
    rw [a2] at e1
    cases e1
    exact ⟨f1, o⟩
theorem RsAt.dp {r : Rs} {d : PyData} (R : Rep K F H ρ E fp) (a : RsAt K F H ρ E v r fr) (h : r.full E = some d) : Dq K H v d := by
  rw [Rs.full_at] at h
  obtain ⟨s, hs, hd⟩ := Option.bind_eq_some_iff.mp h
  obtain ⟨fq, o⟩ := a.own R hs
  exact Own.dp R.sub s o hd
def EvP (K : PySem.W.Frag) (n : Nat) (as : Ro) (te : TE) (d : En → Option Rs) : Prop :=
  ∀ {F H : Hp} {σ : L2.St} {E : En} {fp : List Addr}, σ.length = n → Rep K F H (σ ++ as) E fp → ∀ {r : Rs}, d E = some r → ∀ {Q : VK},
    (∀ v F' H' fr, Grow F H [] F' H' fr → RsAt K F' H' (σ ++ as) E v r fr → fr.Nodup → (∀ a ∈ fr, F' a = none) → Q v H') → te σ H Q
def EvT (K : PySem.W.Frag) (n : Nat) (as : Ro) (tt : TT) (d : En → Option Bool) : Prop :=
  ∀ {F H : Hp} {σ : L2.St} {E : En} {fp : List Addr}, σ.length = n → Rep K F H (σ ++ as) E fp → ∀ {b : Bool}, d E = some b → ∀ {Q : Bool → Hp → Prop},
    (∀ F' H', Grow F H [] F' H' [] → Q b H') → tt σ H Q
inductive RsAll (K : PySem.W.Frag) (F H : Hp) (ρ : Ro) (E : En) : List V → List Rs → List Addr → Prop
  | nil : RsAll K F H ρ E [] [] []
  | cons {v : V} {vs : List V} {r : Rs} {rs : List Rs} {f g : List Addr} : RsAt K F H ρ E v r f → RsAll K F H ρ E vs rs g → RsAll K F H ρ E (v :: vs) (r :: rs) (f ++ g)
def EvA (K : PySem.W.Frag) (n : Nat) (as : Ro) (ta : TA) (d : En → Option (List Rs)) : Prop :=
  ∀ {F H : Hp} {σ : L2.St} {E : En} {fp : List Addr}, σ.length = n → Rep K F H (σ ++ as) E fp → ∀ {rs : List Rs}, d E = some rs → ∀ {Q : List V → Hp → Prop},
    (∀ vs F' H' fr, Grow F H [] F' H' fr → RsAll K F' H' (σ ++ as) E vs rs fr → fr.Nodup → (∀ a ∈ fr, F' a = none) → Q vs H') → ta σ H Q
theorem Own.fresh (o : RsAt K F H ρ E v r fr) (g : Grow F H [] F1 H1 f1) (z : ∀ a ∈ fr, ∃ o, H a = some o) : ∀ a ∈ fr, ∀ b ∈ f1, a ≠ b := fun a m b m1 e => by
  subst e
  obtain ⟨o, eo⟩ := z a m
  rcases g.new a m1 with q | q
  · cases q
  · rw [eo] at q; cases q
theorem RsAt.there {r : Rs} (a : RsAt K F H ρ E v r fr) : ∀ b ∈ fr, ∃ o, H b = some o := by
  cases r with
  | val s => exact Own.there (show Own K F H v s fr from a)
  | pl p =>
    obtain ⟨a1, _⟩ := a
    subst a1
    exact fun _ m => nomatch m
theorem nodup_two (n1 : f1.Nodup) (n2 : f2.Nodup) (d : ∀ a ∈ f1, ∀ b ∈ f2, a ≠ b) : (f1 ++ f2).Nodup := List.nodup_append.mpr ⟨n1, n2, d⟩
def isSc : PyData → Bool
  | .none => true | .bool _ => true | .int _ => true | .str _ => true
  | _ => false
def scV : PyData → V
  | .bool b => .bl b | .int i => .int i | .str x => .str x
  | _ => .non
theorem scV_dp {d : PyData} (h : isSc d = true) : Dq K F (scV d) d := by
  cases d with
  | none => exact .non
  | bool b => exact .bl b
  | int i => exact .int i
  | str x => exact .str x
  | _ => cases h
def dVar (i : Nat) (E : En) : Option Rs := match E[i]? with
  | some (.own (.dat d)) => some (.val (.dat d))
  | some (.own (.con v)) => some (.val (.con v))
  | some (.own s) => some (.pl [i])
  | some (.bor p) => some (.pl p)
  | _ => none
def dC (d : PyData) (_ : En) : Option Rs := some (.val (.dat d))
def dOp (f : PyData → PyData → Option PyData) (da db : En → Option Rs) (E : En) : Option Rs := match da E, db E with
  | some a, some b => match a.full E, b.full E with
    | some a, some b => (f a b).map fun c => .val (.dat c)
    | _, _ => none
  | _, _ => none
def dTest (d : En → Option Rs) (E : En) : Option Bool := match d E with
  | some (.val (.dat (.bool b))) => some b
  | _ => none
def dOr (dt du : En → Option Bool) (E : En) : Option Bool := match dt E with
  | some false => du E
  | o => o
def dIfE (dt : En → Option Bool) (da db : En → Option Rs) (E : En) : Option Rs := match dt E with
  | some true => da E
  | some false => db E
  | none => none
def dNil (_ : En) : Option (List Rs) := some []
def dCons (da : En → Option Rs) (dr : En → Option (List Rs)) (E : En) : Option (List Rs) := match da E, dr E with
  | some a, some r => some (a :: r)
  | _, _ => none
section
variable {te ta tb : TE} {d da db : En → Option Rs}
theorem p_var {i : Nat} (hi : i < n) : EvP K n as (tVar i) (dVar i) := by
  intro F H σ E fp L R r e Q q
  unfold dVar at e
  have main : ∀ v, (σ ++ as)[i]? = some (some v) → σ[i]? = some (some v) := fun v h => by rwa [List.getElem?_append_left (by omega)] at h
  cases he : E[i]? with
  | none => rw [he] at e; cases e
  | some sl =>
    rw [he] at e
    cases sl with
    | no => cases e
    | bor p =>
      cases e
      obtain ⟨v, h1, h2, h3⟩ := R.bor i p he
      exact ⟨v, main v h1, q v F H [] (.refl R.sub []) ⟨rfl, h2, h3⟩ List.nodup_nil (fun _ m => nomatch m)⟩
    | own s =>
      obtain ⟨v, h1⟩ := R.core.set i s he
      have g : eget E [i] = some s := by simp only [eget, he, S.get_nil]
      obtain ⟨u, g1, g2, e1, o, c, _⟩ := R.core.take g
      have eu : u = v := by simp only [followE, h1, follow_nil] at e1; exact (Option.some.inj e1).symm
      subst eu
      have pl : some (Rs.pl [i]) = some r → Q u H := fun e' => by
        have e2 := Option.some.inj e'
        subst e2
        exact q u F H [] (.refl R.sub []) ⟨rfl, e1, by rw [g]; rfl⟩ List.nodup_nil (fun _ m => nomatch m)
      refine ⟨u, main u h1, ?_⟩
      cases s with
      | dat d =>
        cases e
        exact q u F H [] (.refl R.sub []) (.dat (o.dat_inv rfl).1) List.nodup_nil (fun _ m => nomatch m)
      | con w =>
        cases e
        obtain ⟨rfl, _⟩ := o.con_inv rfl
        exact q u F H [] (.refl R.sub []) .con List.nodup_nil (fun _ m => nomatch m)
      | lst _ => exact pl e
      | dct _ _ => exact pl e
      | ins _ _ => exact pl e
theorem p_c {d : PyData} (h : isSc d = true := by rfl) : EvP K n as (tC (scV d)) (dC d) := by
  intro F H σ E fp L R r e Q q
  cases e
  exact q _ F H [] (.refl R.sub []) (.dat (scV_dp h)) List.nodup_nil (fun _ m => nomatch m)
def Rv2 (K : PySem.W.Frag) (r : R2) (f : PyData → PyData → Option PyData) : Prop :=
  ∀ {H : Hp} {x y : V} {a b c : PyData}, Dq K H x a → Dq K H y b → f a b = some c → ∀ {Q : VK}, (isSc c = true → Q (scV c) H) → r x y H Q
theorem p_op {r : R2} {f : PyData → PyData → Option PyData} (hr : Rv2 K r f) (ha : EvP K n as ta da) (hb : EvP K n as tb db) :
    EvP K n as (tOp r ta tb) (dOp f da db) := by
  intro F H σ E fp L R r' e Q q
  unfold dOp at e
  split at e
  · next a b ea eb =>
    split at e
    · next a' b' ea' eb' =>
      obtain ⟨c, ec, rfl⟩ := Option.map_eq_some_iff.mp e
      refine ha L R ea fun x F1 H1 f1 g1 r1 n1 o1 => hb L (R.grow g1) eb fun y F2 H2 f2 g2 r2 n2 o2 => ?_
      have R2 := (R.grow g1).grow g2
      refine hr ((r1.grow (R.grow g1) g2).dp R2 ea') (r2.dp R2 eb') ec fun hc => ?_
      exact q _ F2 H2 [] ((g1.seq0 g2).drop) (.dat (scV_dp hc)) List.nodup_nil (fun _ m => nomatch m)
    · cases e
  · cases e
theorem p_test (h : EvP K n as te d) : EvT K n as (tTest te) (dTest d) := by
  intro F H σ E fp L R b e Q q
  unfold dTest at e
  split at e
  · next c ed =>
    cases e
    refine h L R ed fun v F1 H1 f1 g1 r1 n1 o1 => ?_
    have := (Own.dat_inv (show Own K F1 H1 v _ f1 from r1) rfl).1
    cases this
    exact ⟨b, rfl, q F1 H1 g1.drop⟩
  · cases e
theorem p_tB (h : EvP K n as te d) : EvT K n as (tB te) (dTest d) := p_test h
variable {tt uu : TT} {dt du : En → Option Bool}
theorem p_or (ht : EvT K n as tt dt) (hu : EvT K n as uu du) : EvT K n as (tOr tt uu) (dOr dt du) := by
  intro F H σ E fp L R b e Q q
  unfold dOr at e
  cases h : dt E with
  | none => rw [h] at e; cases e
  | some c =>
    rw [h] at e
    refine ht L R h fun F1 H1 g1 => ?_
    cases c with
    | false => exact iteF (hu L (R.grow g1) e fun F2 H2 g2 => q F2 H2 (g1.seq0 g2))
    | true =>
      cases e
      exact iteT (q F1 H1 g1)
theorem p_ifE (ht : EvT K n as tt dt) (ha : EvP K n as ta da) (hb : EvP K n as tb db) : EvP K n as (tIf tt ta tb) (dIfE dt da db) := by
  intro F H σ E fp L R r e Q q
  unfold dIfE at e
  cases h : dt E with
  | none => rw [h] at e; cases e
  | some c =>
    rw [h] at e
    refine ht L R h fun F1 H1 g1 => ?_
    cases c with
    | true => exact iteT (ha L (R.grow g1) e fun v F2 H2 f2 g2 a2 n2 o2 => q v F2 H2 f2 (g1.seq0 g2) a2 n2 o2)
    | false => exact iteF (hb L (R.grow g1) e fun v F2 H2 f2 g2 a2 n2 o2 => q v F2 H2 f2 (g1.seq0 g2) a2 n2 o2)
theorem p_nil : EvA K n as tNil dNil := by
  intro F H σ E fp L R r e Q q
  cases e
  exact q [] F H [] (.refl R.sub []) .nil List.nodup_nil (fun _ m => nomatch m)
variable {tr : TA} {dr : En → Option (List Rs)}
theorem p_cons (ha : EvP K n as ta da) (hr : EvA K n as tr dr) : EvA K n as (tCons ta tr) (dCons da dr) := by
  intro F H σ E fp L R r e Q q
  unfold dCons at e
  split at e
  · next a r ea er =>
    cases e
    refine ha L R ea fun x F1 H1 f1 g1 r1 n1 o1 => hr L (R.grow g1) er fun xs F2 H2 f2 g2 r2 n2 o2 => ?_
    refine q _ F2 H2 (f1 ++ f2) (g1.seq0 g2) (.cons (r1.grow (R.grow g1) g2) r2) (nodup_two n1 n2 (Own.fresh r1 g2 r1.there)) fun a m => ?_
    rcases List.mem_append.mp m with m | m
    · obtain ⟨o, eo⟩ := r1.there a m
      exact g2.off a (by rw [eo]; exact fun z => nomatch z) (fun z => nomatch z) (o1 a m)
    · exact o2 a m
  · cases e
end
variable {te ta tb tc : TE} {d da db dc : En → Option Rs} {tr : TA} {dr : En → Option (List Rs)}
theorem DqAll.nth : ∀ {vs : List V} {ds : List PyData} {i : Nat} {d : PyData}, DqAll K F vs ds → ds[i]? = some d → ∃ v, vs[i]? = some v ∧ Dq K F v d
  | _, _, _, _, .nil, e => by simp at e
  | _, _, 0, d, .cons h _, e => by
    simp only [List.getElem?_cons_zero, Option.some.injEq] at e
    subst e
    exact ⟨_, rfl, h⟩
  | _, _, i + 1, d, .cons _ t, e => by
    obtain ⟨v, h1, h2⟩ := DqAll.nth (i := i) t (by simpa using e)
    exact ⟨v, by simpa using h1, h2⟩
theorem DqAll.len : ∀ {vs : List V} {ds : List PyData}, DqAll K F vs ds → vs.length = ds.length
  | _, _, .nil => rfl
  | _, _, .cons _ t => by simp only [List.length_cons, DqAll.len t]
theorem Dq.list_inv {ds : List PyData} (h : Dq K F v (.list ds)) : ∃ a xs, v = .ref a ∧ SqL K F a xs ∧ DqAll K F xs ds := by
  cases h with
  | lst a b => exact ⟨_, _, rfl, a, b⟩
theorem Dq.tuple_inv {ds : List PyData} (h : Dq K F v (.tuple ds)) : ∃ a xs, v = .ref a ∧ SqT K F a xs ∧ DqAll K F xs ds := by
  cases h with
  | tup a b => exact ⟨_, _, rfl, a.sq, b⟩
theorem Own.lst_inv (o : Own K F H v s fp) (e : s = .lst ss) : ∃ a vs fq, v = .ref a ∧ H a = some (.lst vs) ∧ OwnL K F H vs ss fq ∧ fp = a :: fq := by
  cases o with
  | dat _ => cases e
  | con => cases e
  | @node a ob _ ex fq h hd l =>
    subst e
    cases ob with
    | lst vs =>
      have : ex = [] := hd
      subst this
      exact ⟨a, vs, fq, rfl, h, l, rfl⟩
    | frz o u => cases u <;> exact hd.elim
    | _ => exact hd.elim
  | lck => cases e
theorem ixN_at {n : Nat} {i : Int} {j : Nat} (h : ixN n i = some j) : j < n := (ixN_seq h).2.1
def Rs.kid (r : Rs) (j : Nat) (s : S) : Option Rs := match s, r with
  | .dat d, _ => some (.val (.dat d))
  | _, .pl p => some (.pl (p ++ [j]))
  | _, _ => none
theorem followE_snoc {p : List Nat} {a : Addr} {o : HO} {j : Nat} {w : V} (h : followE H ρ p = some (.ref a)) (e : H a = some o) (k : (kidsV o)[j]? = some w) : followE H ρ (p ++ [j]) = some w := by
  have go : ∀ (p : List Nat) (v : V), follow H v p = some (.ref a) → follow H v (p ++ [j]) = some w := by
    intro p
    induction p with
    | nil =>
      intro v h
      rw [follow_nil] at h
      cases h
      rw [List.nil_append, follow_node e k, follow_nil]
    | cons i p ih =>
      intro v h
      cases v with
      | ref b =>
        rw [List.cons_append]
        simp only [follow] at h
        split at h
        · next ob hb =>
          split at h
          · next x hx => rw [follow_node hb hx]; exact ih _ h
          · cases h
        · cases h
      | _ => cases h
  cases p with
  | nil => cases h
  | cons i p =>
    rw [List.cons_append]
    unfold followE at h ⊢
    dsimp only at h ⊢
    split at h
    · exact go p _ h
    · cases h
theorem S.get_snoc {j : Nat} {k : S} : ∀ (p : List Nat) {s t : S}, s.get p = some t → t.kids[j]? = some k → s.get (p ++ [j]) = some k
  | [], s, t, h, e => by
    rw [S.get_nil] at h
    cases h
    rw [List.nil_append, S.get_cons, e]
    exact S.get_nil k
  | i :: p, s, t, h, e => by
    rw [S.get_cons] at h
    rw [List.cons_append, S.get_cons]
    split at h
    · exact S.get_snoc p h e
    · cases h
theorem eget_snoc {p : List Nat} {j : Nat} {k : S} (h : eget E p = some t) (e : t.kids[j]? = some k) : eget E (p ++ [j]) = some k := by
  obtain ⟨i, q, s, rfl, ei, hq⟩ := eget_some h
  simp only [List.cons_append, eget, ei]
  exact S.get_snoc q hq e
theorem RsAt.kid {r r' : Rs} {a : Addr} {o : HO} {j : Nat} {w : V} {f : List Addr} (R : Rep K F H ρ E fp) (h : RsAt K F H ρ E (.ref a) r fr) (ea : r.at E = some t) (ho : H a = some o) (hk : (kidsV o)[j]? = some w) (hs : t.kids[j]? = some s) (ow : Own K F H w s f) (e : r.kid j s = some r') :
    RsAt K F H ρ E w r' [] := by
  cases s with
  | dat d =>
    cases r <;> (cases e; exact .dat (ow.dat_inv rfl).1)
  | _ => cases r with
    | val _ => cases e
    | pl p =>
      cases e
      obtain ⟨_, h2, h3⟩ := h
      exact ⟨rfl, followE_snoc h2 ho hk, by rw [eget_snoc ea hs]; rfl⟩
theorem OwnL.nth : ∀ {vs : List V} {ss : List S} {fp : List Addr} {i : Nat} {s : S}, OwnL K F H vs ss fp → ss[i]? = some s → ∃ v f, vs[i]? = some v ∧ Own K F H v s f
  | _, _, _, _, _, .nil, e => by simp at e
  | _, _, _, 0, s, .cons h _, e => by
    simp only [List.getElem?_cons_zero, Option.some.injEq] at e
    subst e
    exact ⟨_, _, rfl, h⟩
  | _, _, _, i + 1, s, .cons _ t, e => by
    obtain ⟨v, f, h1, h2⟩ := OwnL.nth (i := i) t (by simpa using e)
    exact ⟨v, f, by simpa using h1, h2⟩
def dIxL (da db : En → Option Rs) (E : En) : Option Rs := match da E, db E with
  | some r, some (.val (.dat (.int i))) => match r.at E with
    | some (.lst ss) => match ixN ss.length i with
      | some j => match ss[j]? with
        | some s => r.kid j s
        | none => none
      | none => none
    | some (.dat (.list ds)) => match ixN ds.length i with
      | some j => (ds[j]?).map fun d => .val (.dat d)
      | none => none
    | _ => none
  | _, _ => none
theorem p_ixL (ha : EvP K n as ta da) (hb : EvP K n as tb db) : EvP K n as (tOp (rIxL K) ta tb) (dIxL da db) := by
  intro F H σ E fp L R r' e Q q
  unfold dIxL at e
  split at e
  · next r i ea eb =>
    refine ha L R ea fun x F1 H1 f1 g1 r1 n1 o1 => hb L (R.grow g1) eb fun y F2 H2 f2 g2 r2 n2 o2 => ?_
    have R2 := (R.grow g1).grow g2
    have r1' := r1.grow (R.grow g1) g2
    have gg := (g1.seq0 g2).drop
    cases (Own.dat_inv (show Own K F2 H2 y _ f2 from r2) rfl).1
    split at e
    · next ss es =>
      split at e
      · next j ej =>
        split at e
        · next s hs =>
          obtain ⟨fq, o⟩ := r1'.own R2 es
          obtain ⟨a, vs, fq', rfl, hH, l, _⟩ := o.lst_inv rfl
          obtain ⟨w, f, hw, ow⟩ := l.nth hs
          refine ⟨a, vs, i, w, rfl, rfl, .inl (.inl hH), by unfold atI; rw [l.length, ej]; exact hw, ?_⟩
          exact q w F2 H2 [] gg (r1'.kid R2 es hH hw hs ow e) List.nodup_nil (fun _ m => nomatch m)
        · cases e
      · cases e
    · next ds es =>
      split at e
      · next j ej =>
        obtain ⟨d, hd, rfl⟩ := Option.map_eq_some_iff.mp e
        obtain ⟨fq, o⟩ := r1'.own R2 es
        obtain ⟨a, xs, rfl, hq, da⟩ := Mv.Dq.list_inv (o.dat_inv rfl).1
        obtain ⟨w, hw, dw⟩ := Mv.DqAll.nth da hd
        refine ⟨a, xs, i, w, rfl, rfl, SqL.mono R2.sub hq, by unfold atI; rw [Mv.DqAll.len da, ej]; exact hw, ?_⟩
        exact q w F2 H2 [] gg (.dat dw) List.nodup_nil (fun _ m => nomatch m)
      · cases e
    · cases e
  · cases e
def dIxT (da db : En → Option Rs) (E : En) : Option Rs := match da E, db E with
  | some r, some (.val (.dat (.int i))) => match r.at E with
    | some (.dat (.tuple ds)) => match ixN ds.length i with
      | some j => (ds[j]?).map fun d => .val (.dat d)
      | none => none
    | _ => none
  | _, _ => none
theorem p_ixT (ha : EvP K n as ta da) (hb : EvP K n as tb db) : EvP K n as (tOp (rIxT K) ta tb) (dIxT da db) := by
  intro F H σ E fp L R r' e Q q
  unfold dIxT at e
  split at e
  · next r i ea eb =>
    refine ha L R ea fun x F1 H1 f1 g1 r1 n1 o1 => hb L (R.grow g1) eb fun y F2 H2 f2 g2 r2 n2 o2 => ?_
    have R2 := (R.grow g1).grow g2
    have r1' := r1.grow (R.grow g1) g2
    cases (Own.dat_inv (show Own K F2 H2 y _ f2 from r2) rfl).1
    split at e
    · next ds es =>
      split at e
      · next j ej =>
        obtain ⟨d, hd, rfl⟩ := Option.map_eq_some_iff.mp e
        obtain ⟨fq, o⟩ := r1'.own R2 es
        obtain ⟨a, xs, rfl, hq, da⟩ := Mv.Dq.tuple_inv (o.dat_inv rfl).1
        obtain ⟨w, hw, dw⟩ := Mv.DqAll.nth da hd
        refine ⟨a, xs, i, w, rfl, rfl, SqT.mono R2.sub hq, by unfold atI; rw [Mv.DqAll.len da, ej]; exact hw, ?_⟩
        exact q w F2 H2 [] (g1.seq0 g2).drop (.dat dw) List.nodup_nil (fun _ m => nomatch m)
      · cases e
    · cases e
  · cases e
def dAndV (da db : En → Option Rs) (E : En) : Option Rs := match da E with
  | some (.val (.dat (.bool true))) => db E
  | some (.val (.dat (.bool false))) => some (.val (.dat (.bool false)))
  | _ => none
def dNotV (da : En → Option Rs) (E : En) : Option Rs := match da E with
  | some (.val (.dat (.bool b))) => some (.val (.dat (.bool (!b))))
  | _ => none
theorem p_andV (ha : EvP K n as ta da) (hb : EvP K n as tb db) : EvP K n as (tAndV ta tb) (dAndV da db) := by
  intro F H σ E fp L R r e Q q
  unfold dAndV at e
  split at e
  · next ea =>
    refine ha L R ea fun x F1 H1 f1 g1 r1 n1 o1 => ?_
    cases (Own.dat_inv (show Own K F1 H1 x _ f1 from r1) rfl).1
    exact ⟨true, rfl, iteT (hb L (R.grow g1) e fun v F2 H2 f2 g2 a2 n2 o2 => q v F2 H2 f2 (g1.drop.seq0 g2) a2 n2 o2)⟩
  · next ea =>
    cases e
    refine ha L R ea fun x F1 H1 f1 g1 r1 n1 o1 => ?_
    cases (Own.dat_inv (show Own K F1 H1 x _ f1 from r1) rfl).1
    exact ⟨false, rfl, iteF (q _ F1 H1 [] g1.drop (.dat (.bl false)) List.nodup_nil (fun _ m => nomatch m))⟩
  · cases e
theorem p_notV (ha : EvP K n as ta da) : EvP K n as (tNotV ta) (dNotV da) := by
  intro F H σ E fp L R r e Q q
  unfold dNotV at e
  split at e
  · next b ea =>
    cases e
    refine ha L R ea fun x F1 H1 f1 g1 r1 n1 o1 => ?_
    cases (Own.dat_inv (show Own K F1 H1 x _ f1 from r1) rfl).1
    exact ⟨b, rfl, q _ F1 H1 [] g1.drop (.dat (.bl _)) List.nodup_nil (fun _ m => nomatch m)⟩
  · cases e
end Mv
namespace Mv
open PySem PySem.Spec PyProof.Rows L2
variable {K : PySem.W.Frag} {F F' F1 F2 H H' H1 H2 : Hp} {v u x y : V} {vs : List V} {s t : S} {ss : List S} {fp fq fr fp' fp1 fp2 f1 f2 : List Addr} {ρ as : Ro} {E E' : En} {n : Nat}
variable {W : Value → Option Addr → L2.St → Hp → Prop} {te ta tb tc : TE} {d da db dc : En → Option Rs} {tr : TA} {dr : En → Option (List Rs)} {tt : TT} {dt : En → Option Bool}
def EvE (K : PySem.W.Frag) (n : Nat) (as : Ro) (te : TE) (d : En → Option (S × En)) : Prop :=
  ∀ {F H : Hp} {σ : L2.St} {E : En} {fp : List Addr}, σ.length = n → Rep K F H (σ ++ as) E fp → ∀ {s : S} {E' : En}, d E = some (s, E') → ∀ {Q : VK},
    (∀ v F' H' fr fp', Grow F H fp F' H' (fr ++ fp') → Rep K F' H' (σ ++ as) E' fp' → Own K F' H' v s fr → (fr ++ fp').Nodup → (∀ a ∈ fr, F' a = none) → Q v H') → te σ H Q
def EvTE (K : PySem.W.Frag) (n : Nat) (as : Ro) (tt : TT) (d : En → Option (Bool × En)) : Prop :=
  ∀ {F H : Hp} {σ : L2.St} {E : En} {fp : List Addr}, σ.length = n → Rep K F H (σ ++ as) E fp → ∀ {b : Bool} {E' : En}, d E = some (b, E') → ∀ {Q : Bool → Hp → Prop},
    (∀ F' H' fp', Grow F H fp F' H' fp' → Rep K F' H' (σ ++ as) E' fp' → Q b H') → tt σ H Q
abbrev WXm := Value → Option Addr → L2.St → Hp → Prop
inductive Out where
  | nx (E : En)
  | rt (s : S) (E : En)
  | bk (E : En)
  | ct (E : En)
  | ex (c : Nat) (E : En)
def Out.go (K : PySem.W.Frag) (n : Nat) (as : Ro) (W : WXm) (F H : Hp) (fp : List Addr) (D : Ends) : Out → Prop
  | .nx E' => ∀ (σ' : L2.St) F' H' fp', σ'.length = n → Grow F H fp F' H' fp' → Rep K F' H' (σ' ++ as) E' fp' → D.nx σ' H'
  | .bk E' => ∀ (σ' : L2.St) F' H' fp', σ'.length = n → Grow F H fp F' H' fp' → Rep K F' H' (σ' ++ as) E' fp' → D.bk σ' H'
  | .ct E' => ∀ (σ' : L2.St) F' H' fp', σ'.length = n → Grow F H fp F' H' fp' → Rep K F' H' (σ' ++ as) E' fp' → D.ct σ' H'
  | .ex c E' => ∀ (C : Addr) (σ' : L2.St) F' H' fp', clsOf K c C → σ'.length = n → Grow F H fp F' H' fp' → Rep K F' H' (σ' ++ as) E' fp' → W (.ref C) none σ' H'
  | .rt s E' => ∀ v (σ' : L2.St) F' H' fr fp', σ'.length = n → Grow F H fp F' H' (fr ++ fp') → Rep K F' H' (σ' ++ as) E' fp' → Own K F' H' v s fr → (fr ++ fp').Nodup → (∀ a ∈ fr, F' a = none) → D.rt v H'
theorem Out.go.grow {o : Out} {D : Ends} (h : o.go K n as W F H fp D) (g : Grow F H fp F1 H1 fp1) : o.go K n as W F1 H1 fp1 D := by
  cases o with
  | rt s E' => exact fun v σ' F' H' fr fp' L g' R o nd of => h v σ' F' H' fr fp' L (g.trans g') R o nd of
  | ex c E' => exact fun C σ' F' H' fp' hC L g' R => h C σ' F' H' fp' hC L (g.trans g') R
  | _ => exact fun σ' F' H' fp' L g' R => h σ' F' H' fp' L (g.trans g') R
def EvS (K : PySem.W.Frag) (n : Nat) (as : Ro) (W : WXm) (ts : TS) (d : En → Option Out) : Prop :=
  ∀ {F H : Hp} {σ : L2.St} {E : En} {fp : List Addr}, σ.length = n → Rep K F H (σ ++ as) E fp → ∀ {o : Out}, d E = some o → ∀ {D : Ends}, o.go K n as W F H fp D → ts D σ H
theorem Rep.apart_new (R : Rep K F H ρ E fp) (g : Grow F H [] F' H' fr) (nd : fr.Nodup) : (fr ++ fp).Nodup :=
  nodup_two nd R.nd fun a m b m2 e => by
    subst e
    obtain ⟨o, eo⟩ := R.there a m2
    rcases g.new a m with q | q
    · cases q
    · rw [eo] at q; cases q
theorem Grow.ours (g : Grow F H [] F' H' fr) (fp : List Addr) : Grow F H fp F' H' (fr ++ fp) :=
  g.wide (fun _ m => nomatch m) fun a m => by
    rcases List.mem_append.mp m with m | m
    · exact .inr ((g.new a m).elim (fun z => nomatch z) id)
    · exact .inl m
def ePure (d : En → Option Rs) (E : En) : Option (S × En) := match d E with
  | some (.val s) => some (s, E)
  | _ => none
theorem e_pure (h : EvP K n as te d) : EvE K n as te (ePure d) := by
  intro F H σ E fp L R s E' e Q q
  unfold ePure at e
  split at e
  · next t ed =>
    cases e
    exact h L R ed fun v F1 H1 fr g a nd of => q v F1 H1 fr fp (g.ours fp) (R.grow g) a (R.apart_new g nd) of
  · cases e
def ePureT (d : En → Option Bool) (E : En) : Option (Bool × En) := (d E).map (·, E)
theorem e_pureT (h : EvT K n as tt dt) : EvTE K n as tt (ePureT dt) := by
  intro F H σ E fp L R b E' e Q q
  obtain ⟨c, ec, e2⟩ := Option.map_eq_some_iff.mp e
  cases e2
  exact h L R ec fun F1 H1 g => q F1 H1 fp ((g.ours fp).less fun a m => List.mem_append_right _ m) (R.grow g)
variable {de df : En → Option (S × En)} {dte dtf : En → Option (Bool × En)} {uu : TT}
def eTest (d : En → Option (S × En)) (E : En) : Option (Bool × En) := match d E with
  | some (.dat (.bool b), E') => some (b, E')
  | _ => none
theorem e_test (h : EvE K n as te de) : EvTE K n as (tTest te) (eTest de) := by
  intro F H σ E fp L R b E' e Q q
  unfold eTest at e
  split at e
  · next c E2 ed =>
    cases e
    refine h L R ed fun v F1 H1 fr fp1 g R1 o nd of => ?_
    cases (o.dat_inv rfl).1
    exact ⟨b, rfl, q F1 H1 fp1 (g.less fun a m => List.mem_append_right _ m) R1⟩
  · cases e
theorem e_tB (h : EvE K n as te de) : EvTE K n as (tB te) (eTest de) := e_test h
def eAnd (dt du : En → Option (Bool × En)) (E : En) : Option (Bool × En) := match dt E with
  | some (true, E') => du E'
  | o => o
theorem e_and (ht : EvTE K n as tt dte) (hu : EvTE K n as uu dtf) : EvTE K n as (tAnd tt uu) (eAnd dte dtf) := by
  intro F H σ E fp L R b E' e Q q
  unfold eAnd at e
  cases h : dte E with
  | none => rw [h] at e; cases e
  | some c =>
    obtain ⟨c, E1⟩ := c
    rw [h] at e
    refine ht L R h fun F1 H1 fp1 g1 R1 => ?_
    cases c with
    | true => exact iteT (hu L R1 e fun F2 H2 fp2 g2 R2 => q F2 H2 fp2 (g1.trans g2) R2)
    | false =>
      cases e
      exact iteF (q F1 H1 fp1 g1 R1)
def eOr (dt du : En → Option (Bool × En)) (E : En) : Option (Bool × En) := match dt E with
  | some (false, E') => du E'
  | o => o
theorem e_or (ht : EvTE K n as tt dte) (hu : EvTE K n as uu dtf) : EvTE K n as (tOr tt uu) (eOr dte dtf) := by
  intro F H σ E fp L R b E' e Q q
  unfold eOr at e
  cases h : dte E with
  | none => rw [h] at e; cases e
  | some c =>
    obtain ⟨c, E1⟩ := c
    rw [h] at e
    refine ht L R h fun F1 H1 fp1 g1 R1 => ?_
    cases c with
    | false => exact iteF (hu L R1 e fun F2 H2 fp2 g2 R2 => q F2 H2 fp2 (g1.trans g2) R2)
    | true =>
      cases e
      exact iteT (q F1 H1 fp1 g1 R1)
def eNot (dt : En → Option (Bool × En)) (E : En) : Option (Bool × En) := (dt E).map fun p => (!p.1, p.2)
theorem e_not (ht : EvTE K n as tt dte) : EvTE K n as (tNot tt) (eNot dte) := by
  intro F H σ E fp L R b E' e Q q
  obtain ⟨c, h, e2⟩ := Option.map_eq_some_iff.mp e
  obtain ⟨c, E1⟩ := c
  cases e2
  exact ht L R h fun F1 H1 fp1 g1 R1 => q F1 H1 fp1 g1 R1
def killHead (i : Nat) : Sl → Sl
  | .bor q => if q.head? = some i then .no else .bor q
  | e => e
def slotSet (E : En) (i : Nat) (e : Sl) : En := (E.map (killHead i)).set i e
theorem killHead_get {i : Nat} (E : En) (j : Nat) : (∀ s, (E.map (killHead i))[j]? = some (Sl.own s) ↔ E[j]? = some (Sl.own s)) := by
  intro s
  rw [List.getElem?_map]
  cases h : E[j]? with
  | none => simp
  | some sl => cases sl with
    | no => simp [killHead]
    | own t => simp [killHead]
    | bor q =>
      simp only [Option.map_some, killHead]
      split <;> simp
theorem rootS_killHead (i : Nat) : ∀ (ρ : Ro) (E : En), rootS ρ (E.map (killHead i)) = rootS ρ E
  | [], _ => by simp [rootS]
  | _ :: _, [] => rfl
  | v :: ρ, e :: E => by
    simp only [List.map_cons, rootS, rootS_killHead i ρ E]
    congr 1
    cases e with
    | no => rfl
    | own s => rfl
    | bor r => simp only [killHead]; split <;> rfl
theorem OwnL.replace : ∀ {vs : List V} {ss : List S} {fp : List Addr} {i : Nat} {v : V} {s : S} {fr : List Addr}, OwnL K F H vs ss fp → i < ss.length → Own K F H v s fr →
    ∃ fq f1 f2, OwnL K F H (vs.set i v) (ss.set i s) fq ∧ fq.Perm (fr ++ f2) ∧ fp.Perm (f1 ++ f2)
  | _, _, _, i, _, _, _, .nil, h, _ => by simp at h
  | _, _, _, 0, v, s, fr, .cons (fp := fpa) (fq := fpb) _ t, _, o => ⟨fr ++ fpb, fpa, fpb, .cons o t, List.Perm.refl _, List.Perm.refl _⟩
  | _, _, _, i + 1, v, s, fr, .cons (fp := fpa) h t, l, o => by
    obtain ⟨fq, f1, f2, a, b, c⟩ := OwnL.replace (i := i) t (by simpa using l) o
    refine ⟨fpa ++ fq, f1, fpa ++ f2, .cons h a, ?_, ?_⟩
    · refine (List.Perm.append_left fpa b).trans ?_
      rw [← List.append_assoc, ← List.append_assoc]
      exact List.Perm.append_right _ List.perm_append_comm
    · refine (List.Perm.append_left fpa c).trans ?_
      rw [← List.append_assoc, ← List.append_assoc]
      exact List.Perm.append_right _ List.perm_append_comm
theorem rootS_len : ∀ {ρ : Ro} {E : En}, E.length = ρ.length → (rootS ρ E).length = ρ.length
  | [], [], _ => rfl
  | [], _ :: _, h => by simp at h
  | _ :: _, [], h => by simp at h
  | _ :: ρ, _ :: E, h => by simp only [rootS, List.length_cons, rootS_len (ρ := ρ) (E := E) (by simpa using h)]
theorem rootS_set2 : ∀ {ρ : Ro} {E : En} {i : Nat} {v : Option V} {e : Sl}, E.length = ρ.length → rootS (ρ.set i v) (E.set i e) = (rootS ρ E).set i (slS v e)
  | [], [], _, _, _, _ => by simp [rootS]
  | [], _ :: _, _, _, _, h => by simp at h
  | _ :: _, [], _, _, _, h => by simp at h
  | _ :: ρ, _ :: E, 0, _, _, _ => rfl
  | _ :: ρ, _ :: E, i + 1, v, e, h => by simp only [rootS, List.set_cons_succ, rootS_set2 (ρ := ρ) (E := E) (by simpa using h)]
theorem followE_set {i : Nat} {w : Option V} {q : List Nat} (h : q.head? ≠ some i) : followE H (ρ.set i w) q = followE H ρ q := by
  cases q with
  | nil => rfl
  | cons j q =>
    have : i ≠ j := fun e => h (by rw [e]; rfl)
    simp only [followE, List.getElem?_set_ne this]
theorem eget_set {i : Nat} {e : Sl} {q : List Nat} (h : q.head? ≠ some i) : eget (slotSet E i e) q = eget E q := by
  cases q with
  | nil => rfl
  | cons j q =>
    have ij : i ≠ j := fun e => h (by rw [e]; rfl)
    unfold slotSet
    simp only [eget, List.getElem?_set_ne ij]
    cases hE : E[j]? with
    | none => simp [List.getElem?_map, hE]
    | some sl => cases sl with
      | no => simp [List.getElem?_map, hE, killHead]
      | own s => simp [List.getElem?_map, hE, killHead]
      | bor r =>
        by_cases hr : r.head? = some i
        · simp [List.getElem?_map, hE, killHead, hr]
        · simp [List.getElem?_map, hE, killHead, hr]
def SlOk (K : PySem.W.Frag) (F H : Hp) (ρ : Ro) (E : En) (i : Nat) (v : V) : Sl → List Addr → Prop
  | .own s, fr => Own K F H v s fr
  | .bor p, fr => fr = [] ∧ p.head? ≠ some i ∧ followE H ρ p = some v ∧ (eget E p).isSome = true
  | .no, fr => fr = []
theorem Rep.setSlot {i : Nat} {e : Sl} (R : Rep K F H ρ E fp) (hi : i < ρ.length) (o : SlOk K F H ρ E i v e fr) (nd : (fr ++ fp).Nodup) (of : ∀ a ∈ fr, F a = none) :
    ∃ fq, Rep K F H (ρ.set i (some v)) (slotSet E i e) fq ∧ ∀ a ∈ fq, a ∈ fr ++ fp := by
  obtain ⟨f, l, pm⟩ := R.core.own
  have hl : i < (rootS ρ E).length := by rw [rootS_len R.core.len]; exact hi
  have oo : Own K F H v (slS (some v) e) fr := by
    cases e with
    | own s => exact o
    | bor p => rw [show fr = [] from o.1]; exact .con
    | no => rw [show fr = [] from o]; exact .con
  obtain ⟨fq, g1, g2, l2, p1, p2⟩ := l.replace hl oo
  have sub : ∀ a ∈ fq, a ∈ fr ++ fp := fun a m => by
    rcases List.mem_append.mp (p1.mem_iff.mp m) with m | m
    · exact List.mem_append_left _ m
    · exact List.mem_append_right _ (pm.mem_iff.mpr (p2.mem_iff.mpr (List.mem_append_right _ m)))
  have ndq : fq.Nodup := by
    refine p1.nodup_iff.mpr ?_
    have n1 : (fr ++ (g1 ++ g2)).Nodup := ((List.Perm.append_left fr (pm.trans p2)).nodup_iff).mp nd
    refine List.nodup_append.mpr ⟨(List.nodup_append.mp n1).1, (List.nodup_append.mp (List.nodup_append.mp n1).2.1).2.1, fun a m b m2 => (List.nodup_append.mp n1).2.2 a m b (List.mem_append_right _ m2)⟩
  have hE : i < E.length := by rw [R.core.len]; exact hi
  refine ⟨fq, ⟨⟨by unfold slotSet; rw [List.length_set, List.length_map, List.length_set]; exact R.core.len, ⟨fq, ?_, List.Perm.refl _⟩, fun j w hj => ?_⟩, R.sub, ndq, fun a m => ?_, fun j p hb => ?_⟩, sub⟩
  · unfold slotSet
    rw [rootS_set2 (by rw [List.length_map]; exact R.core.len), rootS_killHead]
    have : rootV (ρ.set i (some v)) = (rootV ρ).set i v := by unfold rootV; rw [List.map_set]; rfl
    rw [this]
    exact l2
  · by_cases ij : i = j
    · subst ij; exact ⟨v, by rw [List.getElem?_set_self hi]⟩
    · unfold slotSet at hj
      rw [List.getElem?_set_ne ij] at hj
      rw [List.getElem?_set_ne ij]
      exact R.core.set j w ((killHead_get E j w).mp hj)
  · rcases List.mem_append.mp (sub a m) with m | m
    · exact of a m
    · exact R.off a m
  · by_cases ij : i = j
    · subst ij
      unfold slotSet at hb
      rw [List.getElem?_set_self (by rw [List.length_map]; exact hE)] at hb
      cases hb
      obtain ⟨_, h1, h2, h3⟩ := o
      exact ⟨v, by rw [List.getElem?_set_self hi], by rw [followE_set h1]; exact h2, by rw [eget_set h1]; exact h3⟩
    · unfold slotSet at hb
      rw [List.getElem?_set_ne ij, List.getElem?_map] at hb
      cases hE2 : E[j]? with
      | none => rw [hE2] at hb; cases hb
      | some sl =>
        rw [hE2] at hb
        cases sl with
        | no => cases hb
        | own w => cases hb
        | bor q =>
          simp only [Option.map_some, killHead, Option.some.injEq] at hb
          by_cases hq : q.head? = some i
          · rw [if_pos hq] at hb; cases hb
          · rw [if_neg hq] at hb
            cases hb
            obtain ⟨w, e1, e2, e3⟩ := R.bor j _ hE2
            exact ⟨w, by rw [List.getElem?_set_ne ij]; exact e1, by rw [followE_set hq]; exact e2, by rw [eget_set hq]; exact e3⟩
variable {t1 t2 : TS} {d1 d2 : En → Option Out} {i : Nat}
def dSeq (d1 d2 : En → Option Out) (E : En) : Option Out := match d1 E with
  | some (.nx E1) => d2 E1
  | o => o
theorem s_seq (h1 : EvS K n as W t1 d1) (h2 : EvS K n as W t2 d2) : EvS K n as W (tSeq t1 t2) (dSeq d1 d2) := by
  intro F H σ E fp L R o e D g
  unfold dSeq at e
  cases h : d1 E with
  | none => rw [h] at e; cases e
  | some o1 =>
    rw [h] at e
    refine h1 L R h ?_
    cases o1 with
    | nx E1 => exact fun σ' F' H' fp' L' g' R' => h2 L' R' e (g.grow g')
    | rt s E1 => cases e; exact g
    | bk E1 => cases e; exact g
    | ct E1 => cases e; exact g
    | ex c E1 => cases e; exact g
def dNext (E : En) : Option Out := some (.nx E)
theorem s_next : EvS K n as W tNext dNext := by
  intro F H σ E fp L R o e D g
  cases e
  exact g σ F H fp L (.refl R.sub fp) R
def dSet (i : Nat) (d : En → Option (S × En)) (E : En) : Option Out := match d E with
  | some (s, E') => some (.nx (slotSet E' i (.own s)))
  | none => none
theorem set_app {σ : L2.St} {w : Option V} (h : i < σ.length) : (σ.set i w) ++ as = (σ ++ as).set i w := by
  rw [List.set_append_left _ _ h]
theorem s_set (hi : i < n) (h : EvE K n as te de) : EvS K n as W (tAsg te (gName i)) (dSet i de) := by
  intro F H σ E fp L R o e D g
  unfold dSet at e
  split at e
  · next s E' ed =>
    cases e
    refine h L R ed fun v F1 H1 fr fp1 g1 R1 ow nd of => ?_
    have hl : i < (σ ++ as).length := by rw [List.length_append]; omega
    obtain ⟨fq, R2, sb⟩ := R1.setSlot (e := .own s) hl ow nd of
    exact g (σ.set i (some v)) F1 H1 fq (by rw [List.length_set]; exact L) (g1.less sb) (by rw [set_app (by omega)]; exact R2)
  · cases e
def dAlias (i : Nat) (d : En → Option Rs) (E : En) : Option Out := match d E with
  | some (.val s) => some (.nx (slotSet E i (.own s)))
  | some (.pl p) => if p.head? = some i then none else some (.nx (slotSet E i (.bor p)))
  | none => none
theorem s_alias (hi : i < n) (h : EvP K n as te d) : EvS K n as W (tAsg te (gName i)) (dAlias i d) := by
  intro F H σ E fp L R o e D g
  unfold dAlias at e
  have hl : i < (σ ++ as).length := by rw [List.length_append]; omega
  split at e
  · next s ed =>
    cases e
    refine h L R ed fun v F1 H1 fr g1 a nd of => ?_
    obtain ⟨fq, R2, sb⟩ := (R.grow g1).setSlot (e := .own s) hl a (R.apart_new g1 nd) of
    exact g (σ.set i (some v)) F1 H1 fq (by rw [List.length_set]; exact L) ((g1.ours fp).less sb) (by rw [set_app (by omega)]; exact R2)
  · next p ed =>
    split at e
    · cases e
    · next hp =>
      cases e
      refine h L R ed fun v F1 H1 fr g1 a nd of => ?_
      obtain ⟨a1, a2, a3⟩ := a
      subst a1
      obtain ⟨fq, R2, sb⟩ := (R.grow g1).setSlot (e := .bor p) (fr := []) hl ⟨rfl, hp, a2, a3⟩ (R.apart_new g1 nd) (fun _ m => nomatch m)
      exact g (σ.set i (some v)) F1 H1 fq (by rw [List.length_set]; exact L) ((g1.ours fp).less sb) (by rw [set_app (by omega)]; exact R2)
  · cases e
def dRet (d : En → Option (S × En)) (E : En) : Option Out := match d E with
  | some (s, E') => some (.rt s E')
  | none => none
theorem s_ret (h : EvE K n as te de) : EvS K n as W (tRet te) (dRet de) := by
  intro F H σ E fp L R o e D g
  unfold dRet at e
  split at e
  · next s E' ed =>
    cases e
    exact h L R ed fun v F1 H1 fr fp1 g1 R1 ow nd of => g v σ F1 H1 fr fp1 L g1 R1 ow nd of
  · cases e
def dDrop (d : En → Option (S × En)) (E : En) : Option Out := match d E with
  | some (_, E') => some (.nx E')
  | none => none
theorem s_drop (h : EvE K n as te de) : EvS K n as W (tDrop te) (dDrop de) := by
  intro F H σ E fp L R o e D g
  unfold dDrop at e
  split at e
  · next s E' ed =>
    cases e
    exact h L R ed fun v F1 H1 fr fp1 g1 R1 ow nd of => g σ F1 H1 fp1 L (g1.less fun a m => List.mem_append_right _ m) R1
  · cases e
def dIf (dt : En → Option (Bool × En)) (d1 d2 : En → Option Out) (E : En) : Option Out := match dt E with
  | some (true, E') => d1 E'
  | some (false, E') => d2 E'
  | none => none
theorem s_if (ht : EvTE K n as tt dte) (h1 : EvS K n as W t1 d1) (h2 : EvS K n as W t2 d2) : EvS K n as W (tIfS tt t1 t2) (dIf dte d1 d2) := by
  intro F H σ E fp L R o e D g
  unfold dIf at e
  split at e
  · next E' et => exact ht L R et fun F1 H1 fp1 g1 R1 => iteT (h1 L R1 e (g.grow g1))
  · next E' et => exact ht L R et fun F1 H1 fp1 g1 R1 => iteF (h2 L R1 e (g.grow g1))
  · cases e
end Mv
namespace Mv
open PySem PySem.Spec PyProof.Rows L2
variable {K : PySem.W.Frag} {F F' F1 F2 H H' H1 H2 : Hp} {v u x y : V} {vs ws : List V} {s t : S} {ss tts : List S} {fp fq fr fp' fp1 fp2 f1 f2 : List Addr} {ρ as : Ro} {E E' : En} {n : Nat}
variable {te ta tb tc : TE} {d da db dc : En → Option Rs} {tr : TA} {dr : En → Option (List Rs)} {tt : TT} {dt : En → Option Bool}
def spMv (K : PySem.W.Frag) (m : Nat) (g : List S → Option (S × List S)) : Sp := fun vs H Q _ => vs.length = m ∧ ∃ F ss fp s ss', (∀ a o, F a = some o → H a = some o) ∧ OwnL K F H vs ss fp ∧ fp.Nodup ∧ (∀ a ∈ fp, F a = none) ∧ g ss = some (s, ss') ∧
  ∀ v F' H' fr fp', Grow F H fp F' H' (fr ++ fp') → OwnL K F' H' vs ss' fp' → Own K F' H' v s fr → (fr ++ fp').Nodup → (∀ a ∈ fr ++ fp', F' a = none) → Q v H'
def parSl (n j : Nat) : S → Sl
  | .dat d => .own (.dat d)
  | .con v => .own (.con v)
  | _ => .bor [n + j]
def parSls (n : Nat) : Nat → List S → En
  | _, [] => []
  | j, s :: ss => parSl n j s :: parSls n (j + 1) ss
def entry (n : Nat) (ss : List S) : En := parSls n 0 ss ++ List.replicate (n - ss.length) .no ++ ss.map Sl.own
def ownSs : En → Option (List S)
  | [] => some []
  | .own s :: E => (ownSs E).map (s :: ·)
  | _ :: _ => none
def fnG (n : Nat) (d : En → Option Out) (ss : List S) : Option (S × List S) := match d (entry n ss) with
  | some (.rt s E) => (ownSs (E.drop n)).map (s, ·)
  | some (.nx E) => (ownSs (E.drop n)).map (.dat .none, ·)
  | _ => none
theorem OwnL.split : ∀ {vs ws : List V} {ss tts : List S} {fp : List Addr}, vs.length = ss.length → OwnL K F H (vs ++ ws) (ss ++ tts) fp → ∃ f1 f2, fp = f1 ++ f2 ∧ OwnL K F H vs ss f1 ∧ OwnL K F H ws tts f2
  | [], ws, [], tts, fp, _, o => ⟨[], fp, rfl, .nil, o⟩
  | [], _, _ :: _, _, _, h, _ => by simp at h
  | _ :: _, _, [], _, _, h, _ => by simp at h
  | v :: vs, ws, s :: ss, tts, fp, h, o => by
    rw [List.cons_append, List.cons_append] at o
    cases o with
    | @cons _ _ _ _ fa fb a l =>
      obtain ⟨f1, f2, rfl, l1, l2⟩ := OwnL.split (by simpa using h) l
      exact ⟨fa ++ f1, f2, by rw [List.append_assoc], .cons a l1, l2⟩
theorem parSls_len (n : Nat) : ∀ (j : Nat) (ss : List S), (parSls n j ss).length = ss.length
  | _, [] => rfl
  | j, s :: ss => by simp only [parSls, List.length_cons, parSls_len n (j + 1) ss]
theorem parSls_get (n : Nat) : ∀ (j : Nat) (ss : List S) (i : Nat), (parSls n j ss)[i]? = (ss[i]?).map (parSl n (j + i))
  | _, [], _ => by simp [parSls]
  | j, s :: ss, 0 => by simp [parSls]
  | j, s :: ss, i + 1 => by
    simp only [parSls, List.getElem?_cons_succ, parSls_get n (j + 1) ss i]
    rw [show j + 1 + i = j + (i + 1) by omega]
theorem rootS_app : ∀ {ρ ρ2 : Ro} {E E2 : En}, E.length = ρ.length → rootS (ρ ++ ρ2) (E ++ E2) = rootS ρ E ++ rootS ρ2 E2
  | [], _, [], _, _ => rfl
  | [], _, _ :: _, _, h => by simp at h
  | _ :: _, _, [], _, h => by simp at h
  | v :: ρ, ρ2, e :: E, E2, h => by simp only [List.cons_append, rootS, rootS_app (ρ := ρ) (E := E) (by simpa using h)]
theorem rootS_own : ∀ {vs : List V} {ss : List S}, vs.length = ss.length → rootS (vs.map some) (ss.map Sl.own) = ss
  | [], [], _ => rfl
  | [], _ :: _, h => by simp at h
  | _ :: _, [], h => by simp at h
  | v :: vs, s :: ss, h => by simp only [List.map_cons, rootS, slS, rootS_own (vs := vs) (ss := ss) (by simpa using h)]
theorem rootS_no : ∀ (k : Nat), OwnL K F H (rootV (List.replicate k none)) (rootS (List.replicate k none) (List.replicate k .no)) []
  | 0 => .nil
  | k + 1 => by
    simp only [List.replicate_succ, rootV, List.map_cons, rootS, slS]
    exact .cons (fp := []) .con (rootS_no k)
theorem rootS_par (n : Nat) : ∀ {vs : List V} {ss : List S} {fp : List Addr} (j : Nat), OwnL K F H vs ss fp → OwnL K F H (rootV (vs.map some)) (rootS (vs.map some) (parSls n j ss)) []
  | _, _, _, _, .nil => .nil
  | v :: vs, s :: ss, _, j, .cons a l => by
    simp only [List.map_cons, parSls, rootS, rootV]
    refine .cons (fp := []) ?_ (rootS_par n (j + 1) l)
    cases s with
    | dat d => exact .dat (a.dat_inv rfl).1
    | con w =>
      obtain ⟨rfl, _⟩ := a.con_inv rfl
      exact .con
    | _ => exact .con
theorem rootV_app (ρ ρ2 : Ro) : rootV (ρ ++ ρ2) = rootV ρ ++ rootV ρ2 := by unfold rootV; exact List.map_append
theorem rootV_some (vs : List V) : rootV (vs.map some) = vs := by
  unfold rootV
  rw [List.map_map]
  exact List.map_id _
theorem start_eq (N : List Str) (vs : List V) : start N vs = vs.map some ++ List.replicate (N.length - vs.length) none := rfl
theorem Rep.entry {N : List Str} (sub : ∀ a o, F a = some o → H a = some o) (l : OwnL K F H vs ss fp) (nd : fp.Nodup) (of : ∀ a ∈ fp, F a = none) (hn : vs.length ≤ N.length) :
    Rep K F H (start N vs ++ vs.map some) (Mv.entry N.length ss) fp := by
  have len := l.length
  have hL : (parSls N.length 0 ss ++ List.replicate (N.length - ss.length) Sl.no).length = (vs.map some ++ List.replicate (N.length - vs.length) (none : Option V)).length := by
    rw [List.length_append, List.length_append, parSls_len, List.length_replicate, List.length_map, List.length_replicate, len]
  have hall : (Mv.entry N.length ss).length = (start N vs ++ vs.map some).length := by
    unfold Mv.entry
    rw [List.length_append, hL, start_eq, List.length_append (as := _ ++ _), List.length_map, List.length_map, len]
  have own : OwnL K F H (rootV (start N vs ++ vs.map some)) (rootS (start N vs ++ vs.map some) (Mv.entry N.length ss)) fp := by
    unfold Mv.entry
    rw [← len] at hL ⊢
    rw [start_eq, rootS_app hL, rootS_app (by rw [parSls_len, List.length_map, len]), rootV_app, rootV_app, rootS_own len, rootV_some vs]
    have h1 := rootS_par N.length 0 l
    rw [rootV_some] at h1
    have h2 := rootS_no (K := K) (F := F) (H := H) (N.length - vs.length)
    have := (h1.append h2).append l
    simpa using this
  have hp : ∀ (i : Nat) (e : Sl), (Mv.entry N.length ss)[i]? = some e → (∃ s, ss[i]? = some s ∧ e = parSl N.length i s ∧ i < ss.length) ∨ (e = .no) ∨ (∃ j s, i = N.length + j ∧ ss[j]? = some s ∧ e = .own s) := by
    intro i e h
    unfold Mv.entry at h
    by_cases h1 : i < ss.length
    · rw [List.append_assoc, List.getElem?_append_left (by rw [parSls_len]; exact h1), parSls_get] at h
      obtain ⟨s, hs, rfl⟩ := Option.map_eq_some_iff.mp h
      exact .inl ⟨s, hs, by rw [Nat.zero_add], h1⟩
    · by_cases h2 : i < N.length
      · rw [List.getElem?_append_left (by rw [List.length_append, parSls_len, List.length_replicate]; omega), List.getElem?_append_right (by rw [parSls_len]; omega), List.getElem?_replicate] at h
        split at h
        · cases h; exact .inr (.inl rfl)
        · cases h
      · rw [List.getElem?_append_right (by rw [List.length_append, parSls_len, List.length_replicate]; omega), List.length_append, parSls_len, List.length_replicate] at h
        rw [List.getElem?_map] at h
        obtain ⟨s, hs, rfl⟩ := Option.map_eq_some_iff.mp h
        exact .inr (.inr ⟨_, s, by omega, hs, rfl⟩)
  have argv : ∀ (j : Nat) (w : V), vs[j]? = some w → (start N vs ++ vs.map some)[N.length + j]? = some (some w) := by
    intro j w h
    rw [start_eq, List.getElem?_append_right (by rw [List.length_append, List.length_map, List.length_replicate]; omega), List.length_append, List.length_map, List.length_replicate, List.getElem?_map]
    rw [show N.length + j - (vs.length + (N.length - vs.length)) = j by omega, h]; rfl
  have parv : ∀ (i : Nat) (w : V), vs[i]? = some w → (start N vs ++ vs.map some)[i]? = some (some w) := by
    intro i w h
    have hi := (List.getElem?_eq_some_iff.mp h).1
    rw [start_eq, List.append_assoc, List.getElem?_append_left (by rw [List.length_map]; exact hi), List.getElem?_map, h]; rfl
  refine ⟨⟨hall, ⟨fp, own, List.Perm.refl _⟩, fun i s h => ?_⟩, sub, nd, of, fun i p h => ?_⟩
  · rcases hp i _ h with ⟨t, ht, _, hi⟩ | e | ⟨j, t, rfl, ht, _⟩
    · exact ⟨vs[i], parv i _ (List.getElem?_eq_getElem (by rw [len]; exact hi))⟩
    · cases e
    · have hj := (List.getElem?_eq_some_iff.mp ht).1
      exact ⟨vs[j], argv j _ (List.getElem?_eq_getElem (by rw [len]; exact hj))⟩
  · rcases hp i _ h with ⟨t, ht, e, hi⟩ | e | ⟨j, t, rfl, ht, e⟩
    · have hv : vs[i]? = some vs[i] := List.getElem?_eq_getElem (by rw [len]; exact hi)
      have hq : p = [N.length + i] := by
        cases t <;> first | cases e; rfl | cases e
      subst hq
      have g : (Mv.entry N.length ss)[N.length + i]? = some (Sl.own t) := by
        unfold Mv.entry
        rw [List.getElem?_append_right (by rw [List.length_append, parSls_len, List.length_replicate]; omega), List.length_append, parSls_len, List.length_replicate, List.getElem?_map]
        rw [show N.length + i - (ss.length + (N.length - ss.length)) = i by omega, ht]; rfl
      exact ⟨vs[i], parv i _ hv, by simp only [followE, argv i _ hv, follow_nil], by simp only [eget, g, S.get_nil]; rfl⟩
    · cases e
    · cases e
theorem ownSs_eq : ∀ {E : En} {ss : List S}, ownSs E = some ss → E = ss.map Sl.own
  | [], ss, h => by cases h; rfl
  | .own s :: E, ss, h => by
    simp only [ownSs] at h
    obtain ⟨r, hr, rfl⟩ := Option.map_eq_some_iff.mp h
    rw [List.map_cons, ← ownSs_eq hr]
  | .no :: E, ss, h => by cases h
  | .bor p :: E, ss, h => by cases h
theorem Rep.args {σ : L2.St} (R : Rep K F H (σ ++ vs.map some) E fp) (L : σ.length = n) (h : ownSs (E.drop n) = some ss) : ∃ fq, OwnL K F H vs ss fq ∧ fq.Nodup ∧ ∀ a ∈ fq, a ∈ fp := by
  obtain ⟨f, l, pm⟩ := R.core.own
  have e := ownSs_eq h
  have hlen : E.length = n + vs.length := by rw [R.core.len, List.length_append, L, List.length_map]
  have hE : E = E.take n ++ ss.map Sl.own := by rw [← e, List.take_append_drop]
  have hl2 : vs.length = ss.length := by
    have := congrArg List.length e
    rw [List.length_drop, List.length_map] at this
    omega
  have ht : (E.take n).length = σ.length := by rw [List.length_take]; omega
  rw [hE, rootS_app ht, rootV_app, rootS_own hl2, rootV_some] at l
  obtain ⟨g1, g2, rfl, l1, l2⟩ := l.split (by rw [rootS_len ht]; unfold rootV; rw [List.length_map])
  refine ⟨g2, l2, ?_, fun a m => pm.mem_iff.mpr (List.mem_append_right _ m)⟩
  exact (List.nodup_append.mp (pm.nodup_iff.mp R.nd)).2.1
section
variable {P : Program} {w : World} {mg : Str → Option Value} {base : Heap}
theorem fn_mv {x qual : Str} {st : Stmt} {f : Addr} {fd : FuncData} {N ps : List Str} {k : Nat} {dd : En → Option Out} (Fn : Fun K x qual st f fd) (Sc : FnScope N ps (defScope st))
    (body : ∀ (cdv : Value) (A : Around) (outer : List Env) (s : Shared) (H : Hp) (E : XK) (as : Ro), Room k (A.deeper (envOfC qual (defScope st) s.heap.objs.size f cdv)) →
      ∃ t, PSs (cxOf CX0 P w K mg base N qual (defScope st) f cdv A outer s H E).nox (defBody st) t ∧ ∀ W, EvS K N.length as W t dd) :
    FnOk P w K mg base CX0 (k + 1) f fd ps (spMv K ps.length (fnG N.length dd)) := by
  have hps : ps.length ≤ N.length := by have := congrArg List.length Sc.pre; rw [List.length_take] at this; omega
  refine Fn.ok Sc (fun vs H Q E h => h.1) (fun cdv A outer s H vs Q E hr h => ?_)
  obtain ⟨hl, F, ss, fp, r, ss', sub, l, nd, of, hg, q⟩ := h
  obtain ⟨t, h1, h2⟩ := body cdv A outer s H E (vs.map some) hr
  refine ⟨t, h1, ?_⟩
  have R := Rep.entry (N := N) sub l nd of (by omega)
  have L : (start N vs).length = N.length := by rw [start_eq, List.length_append, List.length_map, List.length_replicate]; omega
  unfold fnG at hg
  split at hg
  · next r' E' hd =>
    obtain ⟨s2, e1, e2⟩ := Option.map_eq_some_iff.mp hg
    cases e2
    refine h2 (fun _ _ _ _ => True) L R hd fun v σ' F' H' fr fp' L' g R' ow nd' of' => ?_
    obtain ⟨fq, l2, n2, sb⟩ := R'.args L' e1
    have nd2 : (fr ++ fq).Nodup := nodup_two (List.nodup_append.mp nd').1 n2 fun a m b m2 => (List.nodup_append.mp nd').2.2 a m b (sb b m2)
    refine q v F' H' fr fq (g.less fun a m => ?_) l2 ow nd2 fun a m => ?_
    · rcases List.mem_append.mp m with m | m
      · exact List.mem_append_left _ m
      · exact List.mem_append_right _ (sb a m)
    · rcases List.mem_append.mp m with m | m
      · exact of' a m
      · exact R'.off a (sb a m)
  · next E' hd =>
    obtain ⟨s2, e1, e2⟩ := Option.map_eq_some_iff.mp hg
    cases e2
    refine h2 (fun _ _ _ _ => True) L R hd fun σ' F' H' fp' L' g R' => ?_
    obtain ⟨fq, l2, n2, sb⟩ := R'.args L' e1
    exact q .non F' H' [] fq (g.less fun a m => sb a (by simpa using m)) l2 (.dat .non) (by simpa using n2) fun a m => R'.off a (sb a (by simpa using m))
  · cases hg
end
def apartAll (p : List Nat) : List Rs → Bool
  | [] => true
  | .pl q :: rs => apart p q && apartAll p rs
  | .val _ :: rs => apartAll p rs
def placesOk : List Rs → Bool
  | [] => true
  | .pl p :: rs => apartAll p rs && placesOk rs
  | .val _ :: rs => placesOk rs
def argS (E : En) : List Rs → Option (List S)
  | [] => some []
  | r :: rs => match r.at E, argS E rs with
    | some s, some ss => some (s :: ss)
    | _, _ => none
def putAll (E : En) : List Rs → List S → En
  | .pl p :: rs, s :: ss => putAll (eput E p s) rs ss
  | .val _ :: rs, _ :: ss => putAll E rs ss
  | _, _ => E
def killAll (E : En) : List Rs → En
  | .pl p :: rs => killAll (ekill E p) rs
  | .val _ :: rs => killAll E rs
  | [] => E
theorem argS_put {p : List Nat} : ∀ {rs : List Rs}, apartAll p rs = true → argS (eput E p t) rs = argS E rs
  | [], _ => rfl
  | .pl q :: rs, h => by
    simp only [apartAll, Bool.and_eq_true] at h
    simp only [argS, Rs.at, eget_apart h.1, argS_put h.2]
  | .val _ :: rs, h => by
    simp only [apartAll] at h
    simp only [argS, Rs.at, argS_put h]
theorem putAll_comm {p : List Nat} : ∀ {rs : List Rs} {ss : List S} {E : En}, apartAll p rs = true → eput (putAll E rs ss) p t = putAll (eput E p t) rs ss
  | [], _, _, _ => by simp [putAll]
  | .pl q :: rs, [], _, _ => by simp [putAll]
  | .val _ :: rs, [], _, _ => by simp [putAll]
  | .pl q :: rs, s :: ss, E, h => by
    simp only [apartAll, Bool.and_eq_true] at h
    simp only [putAll]
    rw [putAll_comm h.2, eput_comm (by rw [apart_symm]; exact h.1)]
  | .val _ :: rs, s :: ss, E, h => by
    simp only [apartAll] at h
    simp only [putAll]
    exact putAll_comm h
theorem eget_putAll {p : List Nat} : ∀ {rs : List Rs} {ss : List S} {E : En}, apartAll p rs = true → eget (putAll E rs ss) p = eget E p
  | [], _, _, _ => by simp [putAll]
  | .pl q :: rs, [], _, _ => by simp [putAll]
  | .val _ :: rs, [], _, _ => by simp [putAll]
  | .pl q :: rs, s :: ss, E, h => by
    simp only [apartAll, Bool.and_eq_true] at h
    simp only [putAll]
    rw [eget_putAll h.2, eget_apart (by rw [apart_symm]; exact h.1)]
  | .val _ :: rs, s :: ss, E, h => by
    simp only [apartAll] at h
    simp only [putAll]
    exact eget_putAll h
theorem eget_ok {p q : List Nat} (hp : eget E p = some s) (hq : (eget E q).isSome = true) (w : within p q = false) : (eget (eput E p t) q).isSome = true := by
  rcases apart_or p q w with e | e | e
  · subst e; rw [eget_eput hp]; rfl
  · rw [eget_apart e]; exact hq
  · have q0 : q ≠ [] := fun z => by rw [z] at hq; cases hq
    exact eget_above q0 e hp
theorem RsAll.env {rs : List Rs} (a : RsAll K F H ρ E vs rs fr) (k : ∀ q, Rs.pl q ∈ rs → (eget E' q).isSome = true) : RsAll K F H ρ E' vs rs fr := by
  induction a with
  | nil => exact .nil
  | @cons v vs r rs f g h t ih =>
    refine .cons ?_ (ih fun q m => k q (List.mem_cons_of_mem _ m))
    cases r with
    | val s => exact h
    | pl p => exact ⟨h.1, h.2.1, k p List.mem_cons_self⟩
theorem apartAll_mem {p q : List Nat} : ∀ {rs : List Rs}, apartAll p rs = true → Rs.pl q ∈ rs → apart p q = true
  | .pl r :: rs, h, m => by
    simp only [apartAll, Bool.and_eq_true] at h
    rcases List.mem_cons.mp m with e | m
    · cases e; exact h.1
    · exact apartAll_mem h.2 m
  | .val _ :: rs, h, m => by
    simp only [apartAll] at h
    rcases List.mem_cons.mp m with e | m
    · cases e
    · exact apartAll_mem h m
theorem RsAll.places {rs : List Rs} (a : RsAll K F H ρ E vs rs fr) : ∀ q, Rs.pl q ∈ rs → (eget E q).isSome = true := by
  induction a with
  | nil => exact fun _ m => nomatch m
  | @cons v vs r rs f g h t ih =>
    intro q m
    rcases List.mem_cons.mp m with e | m
    · subst e; exact h.2.2
    · exact ih q m
theorem takeAll : ∀ {rs : List Rs} {vs : List V} {fr : List Addr} {E : En} {fp : List Addr} {ss : List S}, RsAll K F H ρ E vs rs fr → Core K F H ρ E fp → placesOk rs = true → argS E rs = some ss →
    ∃ fa fh E1, OwnL K F H vs ss fa ∧ Core K F H ρ E1 fh ∧ (fr ++ fp).Perm (fa ++ fh) ∧ (∀ q, (eget E q).isSome = true → (∀ p, Rs.pl p ∈ rs → within p q = false) → (eget E1 q).isSome = true) ∧
      ∀ F' H' ss' fa', Core K F' H' ρ E1 fh → OwnL K F' H' vs ss' fa' → ∃ fz fd, Core K F' H' ρ (putAll E rs ss') (fz ++ fh) ∧ fa'.Perm (fz ++ fd)
  | _, _, _, E, fp, _, .nil, c, _, e => by
    cases e
    refine ⟨[], fp, E, .nil, c, by simp, fun q h _ => h, fun F' H' ss' fa' c' l => ?_⟩
    cases l
    exact ⟨[], [], by simpa [putAll] using c', by simp⟩
  | r :: rs, v :: vs, _, E, fp, ss0, .cons (f := f) (g := g) a l, c, ok, e => by
    simp only [argS] at e
    split at e
    · next s ss es ess =>
      cases e
      cases r with
      | val s' =>
        cases es
        simp only [placesOk] at ok
        obtain ⟨fa, fh, E1, o1, c1, pm, keep, close⟩ := takeAll l c ok ess
        refine ⟨f ++ fa, fh, E1, .cons a o1, c1, ?_, fun q h k => keep q h fun p m => k p (List.mem_cons_of_mem _ m), fun F' H' ss' fa' c' l' => ?_⟩
        · rw [List.append_assoc, List.append_assoc]
          exact List.Perm.append_left f pm
        · cases l' with
          | @cons _ _ s2 ss2 k1 k2 a2 l2 =>
            obtain ⟨fz, fd, c2, p2⟩ := close F' H' ss2 k2 c' l2
            refine ⟨fz, k1 ++ fd, by simpa only [putAll] using c2, ?_⟩
            refine (List.Perm.append_left k1 p2).trans ?_
            rw [← List.append_assoc, ← List.append_assoc]
            exact List.Perm.append_right fd List.perm_append_comm
      | pl p =>
        simp only [placesOk, Bool.and_eq_true] at ok
        obtain ⟨a1, a2, a3⟩ := a
        subst a1
        obtain ⟨u, fp1, fp2, e1, o, c1, pm1⟩ := c.take (show eget E p = some s from es)
        rw [a2] at e1
        cases e1
        have l' : RsAll K F H ρ (eput E p (.con v)) vs rs g := l.env fun q m => by
          rw [eget_apart (apartAll_mem ok.1 m)]
          exact l.places q m
        obtain ⟨fa, fh, E1, o1, c2, pm, keep, close⟩ := takeAll l' c1 ok.2 (by rw [argS_put ok.1]; exact ess)
        refine ⟨fp1 ++ fa, fh, E1, .cons o o1, c2, ?_, fun q h k => keep q (eget_ok es h (k p List.mem_cons_self)) fun p m => k p (List.mem_cons_of_mem _ m), fun F' H' ss' fa' c' l2 => ?_⟩
        · -- [] ++ g ++ fp ~ fp1 ++ fa ++ fh
          rw [List.nil_append, List.append_assoc]
          refine (List.Perm.append_left g pm1).trans ?_
          rw [← List.append_assoc]
          refine (List.Perm.append_right fp2 List.perm_append_comm).trans ?_
          rw [List.append_assoc]
          exact List.Perm.append_left fp1 pm
        · cases l2 with
          | @cons _ _ s2 ss2 k1 k2 b2 l2 =>
            obtain ⟨fz, fd, c3, p2⟩ := close F' H' ss2 k2 c' l2
            have hole : eget (putAll (eput E p (.con v)) rs ss2) p = some (.con v) := by
              rw [eget_putAll ok.1, eget_eput es]
            have c4 := c3.put hole b2
            rw [putAll_comm ok.1, eput_eput] at c4
            refine ⟨k1 ++ fz, fd, by rw [List.append_assoc]; simpa only [putAll] using c4, ?_⟩
            rw [List.append_assoc]
            exact List.Perm.append_left k1 p2
    · cases e
theorem killAll_core : ∀ {rs : List Rs} {E : En}, Core K F H ρ E fp → Core K F H ρ (killAll E rs) fp
  | [], _, c => c
  | .pl p :: rs, _, c => killAll_core (rs := rs) (c.kill p)
  | .val _ :: rs, _, c => killAll_core (rs := rs) c
theorem killAll_get : ∀ {rs : List Rs} {E : En} (q : List Nat), eget (killAll E rs) q = eget E q
  | [], _, _ => rfl
  | .pl p :: rs, E, q => by simp only [killAll]; rw [killAll_get q, ekill_get]
  | .val _ :: rs, E, q => by simp only [killAll]; exact killAll_get q
theorem killAll_bor : ∀ {rs : List Rs} {E : En} {i : Nat} {q : List Nat}, (killAll E rs)[i]? = some (Sl.bor q) → E[i]? = some (Sl.bor q) ∧ ∀ p, Rs.pl p ∈ rs → within p q = false
  | [], _, _, _, h => ⟨h, fun _ m => nomatch m⟩
  | .val _ :: rs, E, i, q, h => by
    obtain ⟨h1, h2⟩ := killAll_bor (rs := rs) h
    exact ⟨h1, fun p m => (List.mem_cons.mp m).elim (fun e => nomatch e) (h2 p)⟩
  | .pl p :: rs, E, i, q, h => by
    obtain ⟨h1, h2⟩ := killAll_bor (rs := rs) h
    unfold ekill at h1
    rw [List.getElem?_map] at h1
    cases e : E[i]? with
    | none => rw [e] at h1; cases h1
    | some sl =>
      rw [e] at h1
      cases sl with
      | no => cases h1
      | own w => cases h1
      | bor r =>
        simp only [Option.map_some, kill1, Option.some.injEq] at h1
        cases hw : within p r with
        | true => rw [hw] at h1; simp at h1
        | false =>
          rw [hw] at h1
          simp only [Bool.false_eq_true, if_false, Sl.bor.injEq] at h1
          subst h1
          exact ⟨rfl, fun p' m => (List.mem_cons.mp m).elim (fun e => by cases e; exact hw) (h2 p')⟩
theorem putAll_bor : ∀ {rs : List Rs} {ss : List S} {E : En} {i : Nat} {q : List Nat}, (putAll E rs ss)[i]? = some (Sl.bor q) → E[i]? = some (Sl.bor q)
  | [], _, _, _, _, h => by simpa [putAll] using h
  | .pl _ :: _, [], _, _, _, h => by simpa [putAll] using h
  | .val _ :: _, [], _, _, _, h => by simpa [putAll] using h
  | .val _ :: rs, s :: ss, E, i, q, h => putAll_bor (rs := rs) (ss := ss) (by simpa only [putAll] using h)
  | .pl p :: rs, s :: ss, E, i, q, h => by
    have h1 := putAll_bor (rs := rs) (ss := ss) (by simpa only [putAll] using h)
    cases p with
    | nil => exact h1
    | cons j p =>
      simp only [eput] at h1
      cases e : E[j]? with
      | none => rw [e] at h1; exact h1
      | some sl =>
        rw [e] at h1
        cases sl with
        | own w =>
          dsimp only at h1
          by_cases ij : j = i
          · subst ij
            have hj := (List.getElem?_eq_some_iff.mp e).1
            rw [List.getElem?_set_self hj] at h1
            cases h1
          · rwa [List.getElem?_set_ne ij] at h1
        | no => exact h1
        | bor r => exact h1
def eCall (g : List S → Option (S × List S)) (dr : En → Option (List Rs)) (E : En) : Option (S × En) := match dr E with
  | some rs => if placesOk rs = true then match argS E rs with
      | some ss => match g ss with
        | some (s, ss') => some (s, killAll (putAll E rs ss') rs)
        | none => none
      | none => none
    else none
  | none => none
theorem argS_len : ∀ {rs : List Rs} {ss : List S}, argS E rs = some ss → ss.length = rs.length
  | [], ss, h => by cases h; rfl
  | r :: rs, ss, h => by
    simp only [argS] at h
    split at h
    · next s ss' e1 e2 => cases h; simp only [List.length_cons, argS_len e2]
    · cases h
theorem e_call {m : Nat} {g : List S → Option (S × List S)} {EX : XK} (hr : EvA K n as tr dr) (hm : ∀ E rs, dr E = some rs → rs.length = m) : EvE K n as (tCall (spMv K m g) [] EX tr) (eCall g dr) := by
  intro F H σ E fp L R s E' e Q q
  unfold eCall at e
  split at e
  · next rs ers =>
    split at e
    · next ok =>
      split at e
      · next ss ess =>
        split at e
        · next s' ss' eg =>
          cases e
          refine hr L R ers fun vs F1 H1 fr g1 a nd of => ?_
          have R1 := R.grow g1
          obtain ⟨fa, fh, E1, l, c1, pm, keep, close⟩ := takeAll a R1.core ok ess
          have ndall : (fa ++ fh).Nodup := pm.nodup_iff.mp (R.apart_new g1 nd)
          have memA : ∀ b ∈ fa, b ∈ fr ++ fp := fun b m => pm.mem_iff.mpr (List.mem_append_left _ m)
          have memH : ∀ b ∈ fh, b ∈ fr ++ fp := fun b m => pm.mem_iff.mpr (List.mem_append_right _ m)
          have offAll : ∀ b ∈ fr ++ fp, F1 b = none := fun b m => (List.mem_append.mp m).elim (of b) (R1.off b)
          have dj : ∀ b ∈ fh, b ∉ fa := fun b m1 m2 => (List.nodup_append.mp ndall).2.2 b m2 b m1 rfl
          refine ⟨by rw [List.append_nil, l.length, argS_len ess, hm E rs ers], F1, ss, fa, s, ss', g1.sub, by rw [List.append_nil]; exact l, (List.nodup_append.mp ndall).1, fun b m => offAll b (memA b m), eg, fun v F2 H2 fr2 fa2 g2 l2 ow nd2 of2 => ?_⟩
          rw [List.append_nil] at l2
          have keepH : ∀ b ∈ fh, ∀ o, H1 b = some o → H2 b = some o := fun b m o e => g2.keep b o e (dj b m)
          have c2 := c1.frame g2.f g2.sub keepH
          obtain ⟨fz, fd, c3, pz⟩ := close F2 H2 ss' fa2 c2 l2
          have subz : ∀ b ∈ fz, b ∈ fa2 := fun b m => pz.mem_iff.mpr (List.mem_append_left _ m)
          have thereH : ∀ b ∈ fh, ∃ o, H1 b = some o := c1.there
          have notnew : ∀ b ∈ fh, b ∉ fr2 ++ fa2 := fun b m m2 => by
            obtain ⟨o, eo⟩ := thereH b m
            rcases g2.new b m2 with z | z
            · exact dj b m z
            · rw [eo] at z; cases z
          have ndz : (fz ++ fh).Nodup := by
            have n1 := (List.nodup_append.mp nd2).2.1
            exact nodup_two (List.nodup_append.mp (pz.nodup_iff.mp n1)).1 (List.nodup_append.mp ndall).2.1 fun b m c mc e => by
              subst e
              exact notnew b mc (List.mem_append_right _ (subz b m))
          have R2 : Rep K F2 H2 (σ ++ as) (killAll (putAll E rs ss') rs) (fz ++ fh) := by
            refine ⟨killAll_core c3, g2.sub, ndz, fun b m => ?_, fun i p hb => ?_⟩
            · rcases List.mem_append.mp m with m | m
              · exact of2 b (List.mem_append_right _ (subz b m))
              · obtain ⟨o, eo⟩ := thereH b m
                exact g2.off b (by rw [eo]; exact fun z => nomatch z) (dj b m) (offAll b (memH b m))
            · obtain ⟨hb1, hb2⟩ := killAll_bor hb
              have hb3 := putAll_bor hb1
              obtain ⟨w, k1, k2, k3⟩ := R1.bor i p hb3
              have k4 := keep p k3 hb2
              obtain ⟨t4, ht4⟩ := Option.isSome_iff_exists.mp k4
              refine ⟨w, k1, by rw [c1.follow_keep (fun b o e => g2.sub b o (g2.f b o e)) ht4 keepH]; exact k2, ?_⟩
              rw [killAll_get]
              have go : ∀ (rs : List Rs) (ss : List S) (E : En), (eget E p).isSome = true → (∀ q, Rs.pl q ∈ rs → (eget E q).isSome = true) → placesOk rs = true → (∀ q, Rs.pl q ∈ rs → within q p = false) → (eget (putAll E rs ss) p).isSome = true := by
                intro rs
                induction rs with
                | nil => intro ss E h _ _ _; simpa [putAll] using h
                | cons r rs ih =>
                  intro ss E h hp ok hw
                  cases ss with
                  | nil => cases r <;> simpa [putAll] using h
                  | cons s ss =>
                    cases r with
                    | val _ =>
                      simp only [putAll]
                      exact ih ss E h (fun q m => hp q (List.mem_cons_of_mem _ m)) (by simpa only [placesOk] using ok) fun q m => hw q (List.mem_cons_of_mem _ m)
                    | pl q0 =>
                      simp only [placesOk, Bool.and_eq_true] at ok
                      simp only [putAll]
                      obtain ⟨t0, ht0⟩ := Option.isSome_iff_exists.mp (hp q0 List.mem_cons_self)
                      exact ih ss (eput E q0 s) (eget_ok ht0 h (hw q0 List.mem_cons_self)) (fun q m => by rw [eget_apart (apartAll_mem ok.1 m)]; exact hp q (List.mem_cons_of_mem _ m)) ok.2 fun q m => hw q (List.mem_cons_of_mem _ m)
              exact go rs ss' E k3 a.places ok hb2
          have gg : Grow F H fp F2 H2 (fr2 ++ (fz ++ fh)) := by
            have g1' : Grow F H fp F1 H1 (fa ++ fh) := (g1.ours fp).less fun b m => pm.mem_iff.mpr m
            refine g1'.trans (g2.wide (fun b m => List.mem_append_left _ m) fun b m => ?_)
            rcases List.mem_append.mp m with m | m
            · exact (g2.new b (List.mem_append_left _ m)).imp (fun z => List.mem_append_left _ z) id
            · rcases List.mem_append.mp m with m | m
              · exact (g2.new b (List.mem_append_right _ (subz b m))).imp (fun z => List.mem_append_left _ z) id
              · exact .inl (List.mem_append_right _ m)
          refine q v F2 H2 fr2 (fz ++ fh) gg R2 ow ?_ fun b m => of2 b (List.mem_append_left _ m)
          refine nodup_two (List.nodup_append.mp nd2).1 ndz fun b m c mc e => ?_
          subst e
          rcases List.mem_append.mp mc with mc | mc
          · exact (List.nodup_append.mp nd2).2.2 b m b (subz b mc) rfl
          · exact notnew b mc (List.mem_append_left _ m)
        · cases e
      · cases e
    · cases e
  · cases e
variable {de df : En → Option (S × En)}
def fAdd : PyData → PyData → Option PyData | .int i, .int j => some (.int (i + j)) | _, _ => none
def fSub : PyData → PyData → Option PyData | .int i, .int j => some (.int (i - j)) | _, _ => none
def fMul : PyData → PyData → Option PyData | .int i, .int j => if (-(2 ^ 64) < i ∧ i < 2 ^ 64) ∨ (-(2 ^ 64) < j ∧ j < 2 ^ 64) then some (.int (i * j)) else none | _, _ => none
def fDiv : PyData → PyData → Option PyData | .int i, .int j => if 0 < j ∧ j < 1073741824 then some (.int (i / j)) else none | _, _ => none
def fMod : PyData → PyData → Option PyData | .int i, .int j => if 0 < j then some (.int (i % j)) else none | _, _ => none
def fLt : PyData → PyData → Option PyData | .int i, .int j => some (.bool (decide (i < j))) | _, _ => none
def fGt : PyData → PyData → Option PyData | .int i, .int j => some (.bool (decide (j < i))) | _, _ => none
def fGe : PyData → PyData → Option PyData | .int i, .int j => some (.bool (decide (j ≤ i))) | _, _ => none
theorem rv_int {g : Int → Int → PyData} (h : ∀ i j, isSc (g i j) = true) {f : PyData → PyData → Option PyData} (hf : ∀ a b c, f a b = some c → ∃ i j, a = .int i ∧ b = .int j ∧ c = g i j) {gv : Int → Int → V} (hg : ∀ i j, gv i j = scV (g i j)) : Rv2 K (rI0 gv) f := by
  intro H x y a b c ha hb e Q q
  obtain ⟨i, j, rfl, rfl, rfl⟩ := hf a b c e
  cases ha; cases hb
  exact ⟨i, j, rfl, rfl, by rw [hg]; exact q (h i j)⟩
theorem rv_add : Rv2 K (rI0 fun i j => .int (i + j)) fAdd := rv_int (g := fun i j => .int (i + j)) (fun _ _ => rfl) (fun a b c e => by unfold fAdd at e; split at e <;> cases e; exact ⟨_, _, rfl, rfl, rfl⟩) fun _ _ => rfl
theorem rv_sub : Rv2 K (rI0 fun i j => .int (i - j)) fSub := rv_int (g := fun i j => .int (i - j)) (fun _ _ => rfl) (fun a b c e => by unfold fSub at e; split at e <;> cases e; exact ⟨_, _, rfl, rfl, rfl⟩) fun _ _ => rfl
theorem rv_lt : Rv2 K (rI0 fun i j => .bl (decide (i < j))) fLt := rv_int (g := fun i j => .bool (decide (i < j))) (fun _ _ => rfl) (fun a b c e => by unfold fLt at e; split at e <;> cases e; exact ⟨_, _, rfl, rfl, rfl⟩) fun _ _ => rfl
theorem rv_gt : Rv2 K (rI0 fun i j => .bl (decide (j < i))) fGt := rv_int (g := fun i j => .bool (decide (j < i))) (fun _ _ => rfl) (fun a b c e => by unfold fGt at e; split at e <;> cases e; exact ⟨_, _, rfl, rfl, rfl⟩) fun _ _ => rfl
theorem rv_ge : Rv2 K (rI0 fun i j => .bl (decide (j ≤ i))) fGe := rv_int (g := fun i j => .bool (decide (j ≤ i))) (fun _ _ => rfl) (fun a b c e => by unfold fGe at e; split at e <;> cases e; exact ⟨_, _, rfl, rfl, rfl⟩) fun _ _ => rfl
theorem rv_ipadd : Rv2 K (ipI fun i j => i + j) fAdd := by
  intro H x y a b c ha hb e Q q
  unfold fAdd at e
  split at e <;> cases e
  cases ha; cases hb
  exact ⟨_, _, rfl, rfl, q rfl⟩
theorem rv_mul : Rv2 K (rI CMul fun i j => .int (i * j)) fMul := by
  intro H x y a b c ha hb e Q q
  unfold fMul at e
  split at e
  · next i j =>
    split at e
    · next h =>
      cases e
      cases ha; cases hb
      exact ⟨i, j, rfl, rfl, h, q rfl⟩
    · cases e
  · cases e
theorem rv_div : Rv2 K (rI CDiv fun i j => .int (i / j)) fDiv := by
  intro H x y a b c ha hb e Q q
  unfold fDiv at e
  split at e
  · next i j =>
    split at e
    · next h =>
      cases e
      cases ha; cases hb
      exact ⟨i, j, rfl, rfl, h, q rfl⟩
    · cases e
  · cases e
theorem rv_mod : Rv2 K (rI (fun _ j => 0 < j) fun i j => .int (i % j)) fMod := by
  intro H x y a b c ha hb e Q q
  unfold fMod at e
  split at e
  · next i j =>
    split at e
    · next h =>
      cases e
      cases ha; cases hb
      exact ⟨i, j, rfl, rfl, h, q rfl⟩
    · cases e
  · cases e
def fEqS : PyData → PyData → Option PyData
  | .none, .none => some (.bool true)
  | .none, .int _ => some (.bool false) | .int _, .none => some (.bool false)
  | .none, .bool _ => some (.bool false) | .bool _, .none => some (.bool false)
  | .none, .str _ => some (.bool false) | .str _, .none => some (.bool false)
  | .int i, .int j => some (.bool (decide (i = j)))
  | .bool i, .bool j => some (.bool (decide (i = j)))
  | .str i, .str j => some (.bool (decide (i = j)))
  | _, _ => none
def fNeS (a b : PyData) : Option PyData := match fEqS a b with
  | some (.bool k) => some (.bool (!k))
  | _ => none
theorem eqS_of {a b c : PyData} {x y : V} (ha : Dq K H x a) (hb : Dq K H y b) (e : fEqS a b = some c) : scal x y = true ∧ c = .bool (decide (x = y)) := by
  unfold fEqS at e
  split at e <;> cases e <;> cases ha <;> cases hb <;> first | (exact ⟨rfl, rfl⟩) | (refine ⟨rfl, ?_⟩; simp)
theorem rv_eq : Rv2 K rEq fEqS := by
  intro H x y a b c ha hb e Q q
  obtain ⟨h1, rfl⟩ := eqS_of ha hb e
  exact ⟨h1, q rfl⟩
theorem rv_ne : Rv2 K rNe fNeS := by
  intro H x y a b c ha hb e Q q
  unfold fNeS at e
  split at e
  · next k ek =>
    cases e
    obtain ⟨h1, h2⟩ := eqS_of ha hb ek
    cases h2
    exact ⟨h1, q rfl⟩
  · cases e
def fEqD (a b : PyData) : Option PyData := if SeqAt.shaped a = true ∧ SeqAt.shaped b = true then some (.bool (PyData.eqv a b)) else none
def fNeD (a b : PyData) : Option PyData := if SeqAt.shaped a = true ∧ SeqAt.shaped b = true then some (.bool (!PyData.eqv a b)) else none
theorem rv_eqD : Rv2 K (rEqD K) fEqD := by
  intro H x y a b c ha hb e Q q
  unfold fEqD at e
  split at e
  · next h => cases e; exact ⟨a, b, ha.dp, hb.dp, h.1, h.2, q rfl⟩
  · cases e
theorem rv_neD : Rv2 K (rNeD K) fNeD := by
  intro H x y a b c ha hb e Q q
  unfold fNeD at e
  split at e
  · next h => cases e; exact ⟨a, b, ha.dp, hb.dp, h.1, h.2, q rfl⟩
  · cases e
def isNone : PyData → Bool | .none => true | _ => false
def fIsN (a b : PyData) : Option PyData := if isNone b then some (.bool (isNone a)) else none
def fNotN (a b : PyData) : Option PyData := if isNone b then some (.bool (!isNone a)) else none
theorem none_of {a : PyData} (ha : Dq K H x a) : decide (x = .non) = isNone a := by
  cases ha <;> simp [isNone]
theorem rv_isN : Rv2 K (fun x y H Q => y = V.non ∧ Q (.bl (decide (x = .non))) H) fIsN := by
  intro H x y a b c ha hb e Q q
  unfold fIsN at e
  split at e
  · next h =>
    cases e
    cases b <;> first | (cases hb; exact ⟨rfl, by rw [none_of ha]; exact q rfl⟩) | cases h
  · cases e
theorem rv_notN : Rv2 K (fun x y H Q => y = V.non ∧ Q (.bl (!decide (x = .non))) H) fNotN := by
  intro H x y a b c ha hb e Q q
  unfold fNotN at e
  split at e
  · next h =>
    cases e
    cases b <;> first | (cases hb; exact ⟨rfl, by rw [none_of ha]; exact q rfl⟩) | cases h
  · cases e
def dNeg (d : En → Option Rs) (E : En) : Option Rs := match d E with
  | some (.val (.dat (.int i))) => some (.val (.dat (.int (-i))))
  | _ => none
theorem p_neg (h : EvP K n as te d) : EvP K n as (tUn (rU fun i => .int (-i)) te) (dNeg d) := by
  intro F H σ E fp L R r e Q q
  unfold dNeg at e
  split at e
  · next i ed =>
    cases e
    refine h L R ed fun v F1 H1 f1 g1 r1 n1 o1 => ?_
    cases (Own.dat_inv (show Own K F1 H1 v _ f1 from r1) rfl).1
    exact ⟨i, rfl, q _ F1 H1 [] g1.drop (.dat (.int _)) List.nodup_nil (fun _ m => nomatch m)⟩
  · cases e
theorem apartN (nd : (fr ++ fp).Nodup) : ∀ a ∈ fr, a ∉ fp := fun a m m2 => (List.nodup_append.mp nd).2.2 a m a m2 rfl
def eOp (f : PyData → PyData → Option PyData) (da db : En → Option (S × En)) (E : En) : Option (S × En) := match da E with
  | some (a, E1) => match db E1 with
    | some (b, E2) => match a.toD, b.toD with
      | some a, some b => (f a b).map fun c => (.dat c, E2)
      | _, _ => none
    | none => none
  | none => none
theorem e_op {r : R2} {f : PyData → PyData → Option PyData} (hr : Rv2 K r f) (ha : EvE K n as ta de) (hb : EvE K n as tb df) : EvE K n as (tOp r ta tb) (eOp f de df) := by
  intro F H σ E fp L R s E' e Q q
  unfold eOp at e
  split at e
  · next a E1 ea =>
    split at e
    · next b E2 eb =>
      split at e
      · next a' b' ea' eb' =>
        obtain ⟨c, ec, e2⟩ := Option.map_eq_some_iff.mp e
        cases e2
        refine ha L R ea fun x F1 H1 fr1 fp1 g1 R1 o1 nd1 of1 => hb L R1 eb fun y F2 H2 fr2 fp2 g2 R2 o2 nd2 of2 => ?_
        have o1' := o1.grow g2 (apartN nd1)
        refine hr (Own.dp R2.sub a o1' ea') (Own.dp R2.sub b o2 eb') ec fun hc => ?_
        have g12 : Grow F H fp F2 H2 fp2 := (g1.less (fun a m => List.mem_append_right _ m)).trans (g2.less fun a m => List.mem_append_right _ m)
        exact q _ F2 H2 [] fp2 g12 R2 (.dat (scV_dp hc)) R2.nd (fun _ m => nomatch m)
      · cases e
    · cases e
  · cases e
inductive Ty where
  | non | bool | int | str | list | tuple | dict
  deriving DecidableEq
def Ty.name : Ty → String
  | .non => "NoneType" | .bool => "bool" | .int => "int" | .str => "str" | .list => "list" | .tuple => "tuple" | .dict => "dict"
def Ty.sub : Ty → Ty → Bool
  | .bool, .int => true
  | a, b => decide (a = b)
theorem Ty.kit : ∀ a b : Ty, kitB a.name b.name = some (a.sub b) := by
  intro a b
  cases a <;> cases b <;> decide +kernel
def tyName : S → Option Ty
  | .dat .none => some .non | .dat (.bool _) => some .bool | .dat (.int _) => some .int | .dat (.str _) => some .str
  | .dat (.list _) => some .list | .dat (.tuple _) => some .tuple
  | .lst _ => some .list | .dct false _ => some .dict
  | _ => none
theorem tyX_of (sub : ∀ a o, F a = some o → H a = some o) (o : Own K F H v s fp) {T : Ty} (h : tyName s = some T) : TyX K H v (.type T.name) := by
  cases s with
  | dat d =>
    have dp := (o.dat_inv rfl).1
    cases d with
    | none => cases h; cases dp; exact .base .non
    | bool b => cases h; cases dp; exact .base (.bl b)
    | int i => cases h; cases dp; exact .base (.int i)
    | str x => cases h; cases dp; exact .base (.str x)
    | list ds =>
      cases h
      obtain ⟨a, xs, rfl, hq, _⟩ := Mv.Dq.list_inv dp
      rcases hq with (hq | ⟨ob, hq⟩) | ⟨ob, its, k, hk, hc, _⟩
      · exact .base (.lst (sub _ _ hq))
      · exact .base (.frz (sub _ _ hq))
      · exact .kList hk hc
    | tuple ds =>
      cases h
      obtain ⟨a, xs, rfl, hq, _⟩ := Mv.Dq.tuple_inv dp
      rcases hq with (hq | ⟨ob, hq⟩) | ⟨ob, its, k, hk, hc, _⟩
      · exact .base (.tup (sub _ _ hq))
      · exact .fTuple (sub _ _ hq)
      · exact .kTuple hk hc
    | dict kvs => cases h
  | con w => cases h
  | lst xs =>
    cases h
    obtain ⟨a, vs, fq, rfl, hH, _⟩ := o.lst_inv rfl
    exact .base (.lst hH)
  | dct l kvs =>
    cases l with
    | true => cases h
    | false =>
      cases h
      cases o with
      | @node a ob _ ex fq hh hd _ =>
        cases ob with
        | dK k => exact .base (.dK hh)
        | frz o u => cases u <;> exact hd.elim
        | _ => exact hd.elim
  | ins C fs => cases h
def dIsi (T : Ty) (d : En → Option Rs) (E : En) : Option Rs := match d E with
  | some r => match (r.at E).bind tyName with
    | some U => some (.val (.dat (.bool (U.sub T))))
    | none => none
  | none => none
theorem p_isi {T : Ty} (h : EvP K n as te d) : EvP K n as (tCB (rIsi K) (tCons te (tCons (tC (.ty T.name)) tNil))) (dIsi T d) := by
  intro F H σ E fp L R r e Q q
  unfold dIsi at e
  split at e
  · next r1 ed =>
    split at e
    · next U eU =>
      cases e
      obtain ⟨s, hs, hT⟩ := Option.bind_eq_some_iff.mp eU
      refine h L R ed fun v F1 H1 f1 g1 a1 n1 o1 => ?_
      obtain ⟨fq, ow⟩ := a1.own (R.grow g1) hs
      exact ⟨v, .ty T.name, .type U.name, .type T.name, U.sub T, rfl, .ty T.name, tyX_of g1.sub ow hT, kit_ty (Ty.kit U T), q _ F1 H1 [] g1.drop (.dat (.bl _)) List.nodup_nil (fun _ m => nomatch m)⟩
    · cases e
  · cases e
def lenS : S → Option Nat
  | .lst ss => some ss.length
  | .dat (.list ds) => some ds.length
  | .dat (.tuple ds) => some ds.length
  | _ => none
def dLen (d : En → Option Rs) (E : En) : Option Rs := match d E with
  | some r => ((r.at E).bind lenS).map fun k => .val (.dat (.int (k : Nat)))
  | none => none
theorem len_of (sub : ∀ a o, F a = some o → H a = some o) (o : Own K F H v s fp) {k : Nat} (h : lenS s = some k) : ∃ a xs, v = .ref a ∧ (SqL K H a xs ∨ SqT K H a xs) ∧ xs.length = k := by
  cases s with
  | lst ss =>
    cases h
    obtain ⟨a, vs, fq, rfl, hH, l, _⟩ := o.lst_inv rfl
    exact ⟨a, vs, rfl, .inl (.inl (.inl hH)), l.length⟩
  | dat d => cases d with
    | list ds =>
      cases h
      obtain ⟨a, xs, rfl, hq, da⟩ := Mv.Dq.list_inv (o.dat_inv rfl).1
      exact ⟨a, xs, rfl, .inl (SqL.mono sub hq), Mv.DqAll.len da⟩
    | tuple ds =>
      cases h
      obtain ⟨a, xs, rfl, hq, da⟩ := Mv.Dq.tuple_inv (o.dat_inv rfl).1
      exact ⟨a, xs, rfl, .inr (SqT.mono sub hq), Mv.DqAll.len da⟩
    | _ => cases h
  | con w => cases h
  | dct l kvs => cases h
  | ins C fs => cases h
theorem p_len (h : EvP K n as te d) : EvP K n as (tCB (fun xs H Q => ∃ p ys, xs = [.ref p] ∧ (SqL K H p ys ∨ SqT K H p ys) ∧ Q (.int ys.length) H) (tCons te tNil)) (dLen d) := by
  intro F H σ E fp L R r e Q q
  unfold dLen at e
  split at e
  · next r1 ed =>
    obtain ⟨k, hk, rfl⟩ := Option.map_eq_some_iff.mp e
    obtain ⟨s, hs, hl⟩ := Option.bind_eq_some_iff.mp hk
    refine h L R ed fun v F1 H1 f1 g1 a1 n1 o1 => ?_
    obtain ⟨fq, ow⟩ := a1.own (R.grow g1) hs
    obtain ⟨a, xs, rfl, hq, hx⟩ := len_of g1.sub ow hl
    exact ⟨a, xs, rfl, hq, by rw [hx]; exact q _ F1 H1 [] g1.drop (.dat (.int _)) List.nodup_nil (fun _ m => nomatch m)⟩
  · cases e
def RvC (K : PySem.W.Frag) (r : List V → Hp → VK → Prop) (f : List PyData → Option PyData) : Prop :=
  ∀ {H : Hp} {vs : List V} {ds : List PyData} {c : PyData}, DqAll K H vs ds → f ds = some c → ∀ {Q : VK}, (isSc c = true → Q (scV c) H) → r vs H Q
def fulls (E : En) : List Rs → Option (List PyData)
  | [] => some []
  | r :: rs => match r.full E, fulls E rs with
    | some d, some ds => some (d :: ds)
    | _, _ => none
theorem RsAll.dps {rs : List Rs} {ds : List PyData} (R : Rep K F H ρ E fp) (a : RsAll K F H ρ E vs rs fr) (h : fulls E rs = some ds) : DqAll K H vs ds := by
  induction a generalizing ds with
  | nil => cases h; exact .nil
  | @cons v vs r rs f g a t ih =>
    simp only [fulls] at h
    split at h
    · next d ds' e1 e2 => cases h; exact .cons (a.dp R e1) (ih e2)
    · cases h
def dCB (f : List PyData → Option PyData) (dr : En → Option (List Rs)) (E : En) : Option Rs := match dr E with
  | some rs => match fulls E rs with
    | some ds => (f ds).map fun c => .val (.dat c)
    | none => none
  | none => none
theorem p_cb {r : List V → Hp → VK → Prop} {f : List PyData → Option PyData} (hr : RvC K r f) (h : EvA K n as tr dr) : EvP K n as (tCB r tr) (dCB f dr) := by
  intro F H σ E fp L R r1 e Q q
  unfold dCB at e
  split at e
  · next rs er =>
    split at e
    · next ds eds =>
      obtain ⟨c, ec, rfl⟩ := Option.map_eq_some_iff.mp e
      refine h L R er fun vs F1 H1 f1 g1 a1 n1 o1 => hr (a1.dps (R.grow g1) eds) ec fun hc => ?_
      exact q _ F1 H1 [] g1.drop (.dat (scV_dp hc)) List.nodup_nil (fun _ m => nomatch m)
    · cases e
  · cases e
def intsD : List PyData → Option (List Int)
  | [] => some []
  | .int i :: ds => (intsD ds).map (i :: ·)
  | _ => none
theorem intsD_dp : ∀ {ds : List PyData} {xs : List V} {ns : List Int}, DqAll K H xs ds → intsD ds = some ns → xs = ns.map V.int
  | [], _, _, .nil, e => by cases e; rfl
  | .int i :: ds, _, _, .cons (.int _) t, e => by
    simp only [intsD] at e
    obtain ⟨r, hr, rfl⟩ := Option.map_eq_some_iff.mp e
    rw [List.map_cons, intsD_dp t hr]
  | .none :: _, _, _, _, e => by simp [intsD] at e
  | .bool _ :: _, _, _, _, e => by simp [intsD] at e
  | .str _ :: _, _, _, _, e => by simp [intsD] at e
  | .list _ :: _, _, _, _, e => by simp [intsD] at e
  | .tuple _ :: _, _, _, _, e => by simp [intsD] at e
  | .dict _ :: _, _, _, _, e => by simp [intsD] at e
def fInt : List PyData → Option PyData
  | [.int i] => some (.int i)
  | [.bool b] => some (.int (if b then 1 else 0))
  | _ => none
theorem rc_int : RvC K (fun xs H Q => (∃ i, xs = [.int i] ∧ Q (.int i) H) ∨ ∃ k, xs = [.bl k] ∧ Q (.int (if k then 1 else 0)) H) fInt := by
  intro H vs ds c hd e Q q
  unfold fInt at e
  split at e <;> cases e
  · cases hd with
    | cons h t => cases t; cases h; exact .inl ⟨_, rfl, q rfl⟩
  · cases hd with
    | cons h t => cases t; cases h; exact .inr ⟨_, rfl, q rfl⟩
end Mv
namespace Mv
open PySem PySem.Spec PyProof.Rows L2
variable {K : PySem.W.Frag} {F F' F1 F2 H H' H1 H2 : Hp} {v u x y : V} {vs ws : List V} {s t : S} {ss tts : List S} {fp fq fr fp' fp1 fp2 f1 f2 : List Addr} {ρ as : Ro} {E E' : En} {n : Nat}
variable {W : WXm} {te ta tb tc : TE} {d da db dc : En → Option Rs} {tr : TA} {dr : En → Option (List Rs)} {de df : En → Option (S × En)}
def EvG (K : PySem.W.Frag) (n : Nat) (g : TG) (bd : Rs → En → Option En) : Prop :=
  ∀ {as : Ro} {F H : Hp} {σ : L2.St} {E E' : En} {fp : List Addr} {v : V} {r : Rs}, σ.length = n → Rep K F H (σ ++ as) E fp → RsAt K F H (σ ++ as) E v r [] → bd r E = some E' → ∀ {Q : L2.St → Hp → Prop},
    (∀ (σ' : L2.St) F' H' fp', σ'.length = n → Grow F H fp F' H' fp' → Rep K F' H' (σ' ++ as) E' fp' → Q σ' H') → g v σ H Q
def bName (i : Nat) (r : Rs) (E : En) : Option En := match r with
  | .val s => some (slotSet E i (.own s))
  | .pl p => if p.head? = some i then none else some (slotSet E i (.bor p))
theorem g_name {i : Nat} (hi : i < n) : EvG K n (gName i) (bName i) := by
  intro as F H σ E E' fp v r L R a e Q q
  have hl : i < (σ ++ as).length := by rw [List.length_append]; omega
  cases r with
  | val s =>
    cases e
    obtain ⟨fq, R2, sb⟩ := R.setSlot (e := .own s) (fr := []) hl a R.nd (fun _ m => nomatch m)
    exact q _ F H fq (by rw [List.length_set]; exact L) ((Grow.refl R.sub fp).less fun a m => by simpa using sb a m) (by rw [set_app (by omega)]; exact R2)
  | pl p =>
    unfold bName at e
    dsimp only at e
    split at e
    · cases e
    · next hp =>
      cases e
      obtain ⟨a1, a2, a3⟩ := a
      obtain ⟨fq, R2, sb⟩ := R.setSlot (e := .bor p) (fr := []) hl ⟨rfl, hp, a2, a3⟩ R.nd (fun _ m => nomatch m)
      exact q _ F H fq (by rw [List.length_set]; exact L) ((Grow.refl R.sub fp).less fun a m => by simpa using sb a m) (by rw [set_app (by omega)]; exact R2)
def EvGs (K : PySem.W.Frag) (n : Nat) (g : TGs) (bd : List PyData → En → Option En) : Prop :=
  ∀ {as : Ro} {F H : Hp} {σ : L2.St} {E E' : En} {fp : List Addr} {vs : List V} {ds : List PyData}, σ.length = n → Rep K F H (σ ++ as) E fp → DqAll K F vs ds → bd ds E = some E' → ∀ {Q : L2.St → Hp → Prop},
    (∀ (σ' : L2.St) F' H' fp', σ'.length = n → Grow F H fp F' H' fp' → Rep K F' H' (σ' ++ as) E' fp' → Q σ' H') → g vs σ H Q
def bNil (ds : List PyData) (E : En) : Option En := match ds with
  | [] => some E
  | _ => none
def bCons (b : Rs → En → Option En) (bs : List PyData → En → Option En) (ds : List PyData) (E : En) : Option En := match ds with
  | d :: ds => match b (.val (.dat d)) E with
    | some E1 => bs ds E1
    | none => none
  | [] => none
def bTup (k : Nat) (bs : List PyData → En → Option En) (r : Rs) (E : En) : Option En := match r with
  | .val (.dat (.tuple ds)) => if ds.length = k then bs ds E else none
  | _ => none
theorem gs_nil : EvGs K n gNil bNil := by
  intro as F H σ E E' fp vs ds L R a e Q q
  cases a with
  | nil => cases e; exact ⟨rfl, q σ F H fp L (.refl R.sub fp) R⟩
  | cons _ _ => cases e
theorem gs_cons {g : TG} {gs : TGs} {b : Rs → En → Option En} {bs : List PyData → En → Option En} (hg : EvG K n g b) (hs : EvGs K n gs bs) : EvGs K n (gCons g gs) (bCons b bs) := by
  intro as F H σ E E' fp vs ds L R a e Q q
  cases a with
  | nil => cases e
  | @cons v vs d ds h t =>
    simp only [bCons] at e
    split at e
    · next E1 e1 =>
      exact ⟨v, vs, rfl, hg L R (r := .val (.dat d)) (Own.dat h) e1 fun σ1 F1 H1 fp1 L1 g1 R1 => hs L1 R1 (DqAll.mono g1.f t) e fun σ2 F2 H2 fp2 L2 g2 R2 => q σ2 F2 H2 fp2 L2 (g1.trans g2) R2⟩
    · cases e
theorem g_tup {gs : TGs} {bs : List PyData → En → Option En} {k : Nat} (hs : EvGs K n gs bs) : EvG K n (gTup K k gs) (bTup k bs) := by
  intro as F H σ E E' fp v r L R a e Q q
  unfold bTup at e
  split at e
  · next ds =>
    split at e
    · next hk =>
      obtain ⟨ad, xs, rfl, hq, da⟩ := Mv.Dq.tuple_inv ((show Own K F H v _ [] from a).dat_inv rfl).1
      exact ⟨ad, xs, rfl, SqT.mono R.sub hq, (Mv.DqAll.len da).trans hk, hs L R da e q⟩
    · cases e
  · cases e
def dAsg (b : Rs → En → Option En) (d : En → Option (S × En)) (E : En) : Option Out := match d E with
  | some (.dat x, E') => (b (.val (.dat x)) E').map .nx
  | _ => none
theorem s_asg {g : TG} {b : Rs → En → Option En} (hg : EvG K n g b) (h : EvE K n as te de) : EvS K n as W (tAsg te g) (dAsg b de) := by
  intro F H σ E fp L R o e D gg
  unfold dAsg at e
  split at e
  · next x E' ed =>
    obtain ⟨E2, e2, rfl⟩ := Option.map_eq_some_iff.mp e
    refine h L R ed fun v F1 H1 fr fp1 g1 R1 ow nd of => ?_
    exact hg L R1 (r := .val (.dat x)) (Own.dat (ow.dat_inv rfl).1) e2 fun σ2 F2 H2 fp2 L2 g2 R2 => gg σ2 F2 H2 fp2 L2 ((g1.less fun a m => List.mem_append_right _ m).trans g2) R2
  · cases e
theorem Grow.mine (g : Grow F H [] F' H' fr) : Grow F H fp F' H' fp := (g.ours fp).less fun a m => List.mem_append_right _ m
structure Src where
  /-- what stands behind it -/
  env : En
  /-- roots more, that hold what is walked -/
  exE : En
  /-- item i, if there is one; none: stuck -/
  rd : En → Nat → Option (Option Rs)
  fuel : Nat
def EvI (K : PySem.W.Frag) (n : Nat) (as : Ro) (wi : TI) (src : En → Option Src) : Prop :=
  ∀ {F H : Hp} {σ : L2.St} {E : En} {fp : List Addr}, σ.length = n → Rep K F H (σ ++ as) E fp → ∀ {c : Src}, src E = some c → ∀ {R : It → Hp → Prop},
    (∀ (J : It) F1 H1 (ex : List V) fp1, Grow F H fp F1 H1 fp1 → Rep K F1 H1 (σ ++ (as ++ ex.map some)) (c.env ++ c.exE) fp1 → ex.length = c.exE.length →
      (∀ F2 H2 (σ2 : L2.St) E2 fp2, σ2.length = n → Grow F1 H1 fp1 F2 H2 fp2 → Rep K F2 H2 (σ2 ++ (as ++ ex.map some)) E2 fp2 → ∀ i,
        (∀ r, c.rd E2 i = some (some r) → J.go i H2 ∧ ∀ x H', J.yld i H2 x H' → H' = H2 ∧ RsAt K F2 H2 (σ2 ++ (as ++ ex.map some)) E2 x r []) ∧ (c.rd E2 i = some none → J.stop i H2)) → R J H1) → wi σ H R
def rdD (ds : List PyData) (_ : En) (i : Nat) : Option (Option Rs) := some ((ds[i]?).map fun d => .val (.dat d))
def iRange (d : En → Option Rs) (E : En) : Option Src := match d E with
  | some (.val (.dat (.int j))) => if j < 2 ^ 62 ∧ -(2 ^ 62) ≤ j then some ⟨E, [], fun _ i => some (if i < j.toNat then some (.val (.dat (.int (i : Nat)))) else none), j.toNat⟩ else none
  | _ => none
theorem i_range (h : EvP K n as te d) : EvI K n as (iRng1 (tCons te tNil)) (iRange d) := by
  intro F H σ E fp L R c e Rr q
  unfold iRange at e
  split at e
  · next j ed =>
    split at e
    · next hj =>
      cases e
      refine h L R ed fun v F1 H1 f1 g1 a1 n1 o1 => ?_
      cases (Own.dat_inv (show Own K F1 H1 v _ f1 from a1) rfl).1
      refine ⟨j, rfl, hj.2, hj.1, q _ F1 H1 [] fp g1.mine (by simpa using R.grow g1) rfl fun F2 H2 σ2 E2 fp2 L2 g2 R2 i => ⟨fun r hr => ?_, fun hr => ?_⟩⟩
      · have hr := Option.some.inj hr
        by_cases hi : i < j.toNat
        · rw [if_pos hi] at hr
          cases hr
          refine ⟨hi, fun x H' hy => ⟨hy.1, ?_⟩⟩
          rw [hy.2]
          have : (0 : Int) + (i : Int) = ((i : Nat) : Int) := by omega
          rw [this]
          exact .dat (.int _)
        · rw [if_neg hi] at hr; cases hr
      · have hr := Option.some.inj hr
        by_cases hi : i < j.toNat
        · rw [if_pos hi] at hr; cases hr
        · exact Nat.le_of_not_lt hi
    · cases e
  · cases e
def datsS : List S → Option (List PyData)
  | [] => some []
  | .dat d :: ss => (datsS ss).map (d :: ·)
  | _ => none
theorem datsS_dp : ∀ {ss : List S} {vs : List V} {fp : List Addr} {ds : List PyData}, OwnL K F H vs ss fp → datsS ss = some ds → DqAll K F vs ds ∧ fp = []
  | [], _, _, _, .nil, e => by cases e; exact ⟨.nil, rfl⟩
  | .dat d :: ss, _, _, _, .cons a l, e => by
    simp only [datsS] at e
    obtain ⟨r, hr, rfl⟩ := Option.map_eq_some_iff.mp e
    obtain ⟨h1, h2⟩ := a.dat_inv rfl
    obtain ⟨h3, h4⟩ := datsS_dp l hr
    subst h2 h4
    exact ⟨.cons h1 h3, rfl⟩
  | .con _ :: _, _, _, _, _, e => by simp [datsS] at e
  | .lst _ :: _, _, _, _, _, e => by simp [datsS] at e
  | .dct _ _ :: _, _, _, _, _, e => by simp [datsS] at e
  | .ins _ _ :: _, _, _, _, _, e => by simp [datsS] at e
def iLst (d : En → Option Rs) (E : En) : Option Src := match d E with
  | some (.val (.dat (.list ds))) => some ⟨E, [], rdD ds, ds.length⟩
  | some (.val (.lst ss)) => (datsS ss).map fun ds => ⟨E, [], rdD ds, ds.length⟩
  | some (.pl p) => match eget E p with
    | some (.lst ss) => some ⟨E, [.bor p], fun E2 i => match E2.getLast? with
      | some (.bor p) => match eget E2 p with
        | some (.lst ss) => match ss[i]? with
          | some s => ((Rs.pl p).kid i s).map some
          | none => some none
        | _ => none
      | _ => none, ss.length⟩
    | _ => none
  | _ => none
theorem rdD_go {ds : List PyData} {xs : List V} {i : Nat} {r : Rs} (da : DqAll K F xs ds) (h : rdD ds E i = some (some r)) : ∃ w, xs[i]? = some w ∧ RsAt K F H ρ E w r [] := by
  have h := Option.some.inj h
  obtain ⟨d, hd, rfl⟩ := Option.map_eq_some_iff.mp h
  obtain ⟨w, h1, h2⟩ := Mv.DqAll.nth da hd
  exact ⟨w, h1, .dat h2⟩
theorem rdD_stop {ds : List PyData} {i : Nat} (h : rdD ds E i = some none) : ds.length ≤ i := by
  have h := Option.some.inj h
  cases e : ds[i]? with
  | none => exact List.getElem?_eq_none_iff.mp e
  | some d => rw [e] at h; cases h
theorem Rep.hold {σ : L2.St} {p : List Nat} (R : Rep K F H (σ ++ as) E fp) (h1 : followE H (σ ++ as) p = some v) (h2 : (eget E p).isSome = true) : Rep K F H (σ ++ (as ++ [some v])) (E ++ [.bor p]) fp := by
  obtain ⟨f, l, pm⟩ := R.core.own
  have p0 : p ≠ [] := fun z => by rw [z] at h2; cases h2
  have eg : ∀ q, (eget E q).isSome = true → eget (E ++ [Sl.bor p]) q = eget E q := by
    intro q hq
    obtain ⟨t, ht⟩ := Option.isSome_iff_exists.mp hq
    obtain ⟨i, r, s, rfl, ei, _⟩ := eget_some ht
    have hi := (List.getElem?_eq_some_iff.mp ei).1
    simp only [eget, List.getElem?_append_left hi]
  have fo : ∀ q, (∃ w, followE H (σ ++ as) q = some w) → followE H (σ ++ (as ++ [some v])) q = followE H (σ ++ as) q := by
    intro q ⟨w, hw⟩
    cases q with
    | nil => rfl
    | cons i q =>
      unfold followE at hw ⊢
      dsimp only at hw ⊢
      cases e : (σ ++ as)[i]? with
      | none => rw [e] at hw; cases hw
      | some z =>
        have hi := (List.getElem?_eq_some_iff.mp e).1
        rw [← List.append_assoc, List.getElem?_append_left hi, e]
  have len := R.core.len
  refine ⟨⟨by rw [← List.append_assoc, List.length_append, List.length_append, len]; rfl, ⟨f, ?_, pm⟩, fun i s h => ?_⟩, R.sub, R.nd, R.off, fun i q h => ?_⟩
  · rw [← List.append_assoc, rootS_app len, rootV_app]
    have := l.append (OwnL.cons (fp := []) (K := K) (F := F) (H := H) (Own.con (v := v)) .nil)
    simp only [List.append_nil] at this
    exact this
  · by_cases hi : i < E.length
    · rw [List.getElem?_append_left hi] at h
      obtain ⟨w, hw⟩ := R.core.set i s h
      exact ⟨w, by rw [← List.append_assoc, List.getElem?_append_left (by rw [← len]; exact hi)]; exact hw⟩
    · rw [List.getElem?_append_right (by omega)] at h
      cases hk : i - E.length with
      | zero => rw [hk] at h; cases h
      | succ k => rw [hk] at h; cases h
  · by_cases hi : i < E.length
    · rw [List.getElem?_append_left hi] at h
      obtain ⟨w, e1, e2, e3⟩ := R.bor i q h
      exact ⟨w, by rw [← List.append_assoc, List.getElem?_append_left (by rw [← len]; exact hi)]; exact e1, by rw [fo q ⟨w, e2⟩]; exact e2, by rw [eg q e3]; exact e3⟩
    · rw [List.getElem?_append_right (by omega)] at h
      cases hk : i - E.length with
      | zero =>
        rw [hk] at h
        cases h
        refine ⟨v, ?_, by rw [fo p ⟨v, h1⟩]; exact h1, by rw [eg p h2]; exact h2⟩
        rw [← List.append_assoc, List.getElem?_append_right (by rw [← len]; omega), ← len, hk]; rfl
      | succ k => rw [hk] at h; cases h
def stripOk (E : En) : Bool := match E.getLast? with
  | some (.own _) => false
  | some _ => true
  | none => false
theorem Rep.strip {σ : L2.St} {w : V} (R : Rep K F H (σ ++ (as ++ [some w])) E fp) (ok : stripOk E = true) : Rep K F H (σ ++ as) E.dropLast fp := by
  have len := R.core.len
  have hE : E ≠ [] := fun z => by rw [z] at len; simp at len
  have hd : E = E.dropLast ++ [E.getLast hE] := (List.dropLast_concat_getLast hE).symm
  have hl : E.dropLast.length = (σ ++ as).length := by rw [List.length_dropLast, len]; simp
  have hlast : ∀ s, E.getLast hE ≠ .own s := fun s z => by
    unfold stripOk at ok
    rw [List.getLast?_eq_some_getLast hE, z] at ok
    cases ok
  obtain ⟨f, l, pm⟩ := R.core.own
  have sl : slS (some w) (E.getLast hE) = .con w := by
    cases e : E.getLast hE with
    | own s => exact absurd e (hlast s)
    | no => rfl
    | bor p => rfl
  have eg : ∀ q, eget E q = eget E.dropLast q := by
    intro q
    cases q with
    | nil => rfl
    | cons i q =>
      by_cases hi : i < E.dropLast.length
      · simp only [eget]
        rw [show E[i]? = E.dropLast[i]? by rw [hd, List.getElem?_append_left (by simpa using hi)]; simp]
      · simp only [eget]
        rw [List.getElem?_eq_none_iff.mpr (Nat.le_of_not_lt hi)]
        cases e : E[i]? with
        | none => rfl
        | some sl =>
          have hi2 := (List.getElem?_eq_some_iff.mp e).1
          have : i = E.length - 1 := by rw [List.length_dropLast] at hi; omega
          have e2 : sl = E.getLast hE := by
            rw [List.getLast_eq_getElem]
            subst this
            exact (List.getElem?_eq_some_iff.mp e).2.symm
          cases sl with
          | own s => exact absurd e2.symm (hlast s)
          | no => rfl
          | bor p => rfl
  have gi : ∀ (i : Nat) (e : Sl), E.dropLast[i]? = some e → E[i]? = some e := fun i e h => by
    have hi := (List.getElem?_eq_some_iff.mp h).1
    rw [hd, List.getElem?_append_left hi]
    exact h
  have rr : ∀ (i : Nat), i < (σ ++ as).length → (σ ++ (as ++ [some w]))[i]? = (σ ++ as)[i]? := fun i h => by rw [← List.append_assoc, List.getElem?_append_left h]
  refine ⟨⟨hl, ?_, fun i s h => ?_⟩, R.sub, R.nd, R.off, fun i q h => ?_⟩
  · rw [hd, ← List.append_assoc, rootS_app hl, rootV_app] at l
    obtain ⟨g1, g2, rfl, l1, l2⟩ := l.split (by rw [rootS_len hl]; unfold rootV; rw [List.length_map])
    have : g2 = [] := by
      simp only [rootV, List.map_cons, List.map_nil, rootS] at l2
      rw [sl] at l2
      cases l2 with
      | cons a t => cases t; rw [(a.con_inv rfl).2]; rfl
    subst this
    exact ⟨g1, l1, by simpa using pm⟩
  · obtain ⟨z, hz⟩ := R.core.set i s (gi i _ h)
    have hi := (List.getElem?_eq_some_iff.mp h).1
    exact ⟨z, by rw [← rr i (by omega)]; exact hz⟩
  · obtain ⟨z, e1, e2, e3⟩ := R.bor i q (gi i _ h)
    have hi := (List.getElem?_eq_some_iff.mp h).1
    refine ⟨z, by rw [← rr i (by omega)]; exact e1, ?_, by rw [← eg q]; exact e3⟩
    rw [eg q] at e3
    obtain ⟨t, ht⟩ := Option.isSome_iff_exists.mp e3
    obtain ⟨j, r, s, rfl, ej, _⟩ := eget_some ht
    have hj := (List.getElem?_eq_some_iff.mp ej).1
    unfold followE at e2 ⊢
    dsimp only at e2 ⊢
    rw [rr j (by omega)] at e2
    exact e2
def strip1 (E : En) : En := (slotSet E (E.length - 1) .no).dropLast
def stripN : Nat → En → En
  | 0, E => E
  | k + 1, E => stripN k (strip1 E)
theorem Rep.strip1 {σ : L2.St} {w : V} (R : Rep K F H (σ ++ (as ++ [some w])) E fp) : ∃ fq, Rep K F H (σ ++ as) (strip1 E) fq ∧ ∀ a ∈ fq, a ∈ fp := by
  have len := R.core.len
  have hi : E.length - 1 < (σ ++ (as ++ [some w])).length := by rw [← len]; simp at len; omega
  obtain ⟨fq, R2, sb⟩ := R.setSlot (e := .no) (v := .non) (fr := []) hi rfl R.nd (fun _ m => nomatch m)
  have e1 : (σ ++ (as ++ [some w])).set (E.length - 1) (some V.non) = σ ++ (as ++ [some V.non]) := by
    rw [← List.append_assoc, ← List.append_assoc]
    have : E.length - 1 = (σ ++ as).length := by rw [len]; simp
    rw [this, List.set_append_right _ _ (Nat.le_refl _)]
    simp
  rw [e1] at R2
  have ok : stripOk (slotSet E (E.length - 1) .no) = true := by
    unfold stripOk
    rw [List.getLast?_eq_getElem?]
    have : (slotSet E (E.length - 1) Sl.no).length = E.length := by unfold slotSet; simp
    rw [this]
    unfold slotSet
    rw [List.getElem?_set_self (by rw [List.length_map]; omega)]
  exact ⟨fq, R2.strip ok, fun a m => by simpa using sb a m⟩
theorem Rep.stripN {σ : L2.St} : ∀ (k : Nat) {ex : List V} {E : En} {fp : List Addr}, ex.length = k → Rep K F H (σ ++ (as ++ ex.map some)) E fp → ∃ fq, Rep K F H (σ ++ as) (stripN k E) fq ∧ ∀ a ∈ fq, a ∈ fp
  | 0, ex, E, fp, h, R => by
    have : ex = [] := List.eq_nil_of_length_eq_zero h
    subst this
    refine ⟨fp, ?_, fun _ m => m⟩
    show Rep K F H (σ ++ as) E fp
    simpa using R
  | k + 1, ex, E, fp, h, R => by
    rcases List.eq_nil_or_concat ex with z | ⟨ys, w, rfl⟩
    · rw [z] at h; cases h
    · rw [List.concat_eq_append] at h
      rw [List.concat_eq_append, List.map_append, ← List.append_assoc as] at R
      obtain ⟨f1, R1, h1⟩ := Rep.strip1 (as := as ++ ys.map some) (w := w) R
      obtain ⟨f2, R2, h2⟩ := Rep.stripN k (ex := ys) (by simpa using h) R1
      exact ⟨f2, R2, fun a m => h1 a (h2 a m)⟩
theorem i_lst (h : EvP K n as te d) : EvI K n as (iList K te) (iLst d) := by
  intro F H σ E fp L R c e Rr q
  unfold iLst at e
  split at e
  · next ds ed =>
    cases e
    refine h L R ed fun v F1 H1 f1 g1 a1 n1 o1 => ?_
    obtain ⟨a, xs, rfl, hq, da⟩ := Mv.Dq.list_inv (Own.dat_inv (show Own K F1 H1 v _ f1 from a1) rfl).1
    refine ⟨a, rfl, ⟨xs, SqL.mono g1.sub hq⟩, q _ F1 H1 [] fp g1.mine (by simpa using R.grow g1) rfl fun F2 H2 σ2 E2 fp2 L2 g2 R2 i => ?_⟩
    have hq2 : SqL K H2 a xs := SqL.mono g2.sub (SqL.mono g2.f hq)
    have da2 := Mv.DqAll.mono g2.f da
    refine ⟨fun r hr => ?_, fun hr => ⟨xs, hq2, by rw [Mv.DqAll.len da]; exact rdD_stop (E := E2) hr⟩⟩
    obtain ⟨w, hw, ar⟩ := rdD_go (K := K) (H := H2) (E := E2) (ρ := σ2 ++ (as ++ ([] : List V).map some)) da2 hr
    exact ⟨⟨xs, w, hq2, hw⟩, fun x H' hy => ⟨hy.1, by rw [Option.some.inj ((hy.2 xs hq2).symm.trans hw)]; exact ar⟩⟩
  · next ss ed =>
    obtain ⟨ds, hd, rfl⟩ := Option.map_eq_some_iff.mp e
    refine h L R ed fun v F1 H1 f1 g1 a1 n1 o1 => ?_
    obtain ⟨a, xs, fq, rfl, hH, l, hf⟩ := Own.lst_inv (show Own K F1 H1 v _ f1 from a1) rfl
    obtain ⟨da, rfl⟩ := datsS_dp l hd
    refine ⟨a, rfl, ⟨xs, .inl (.inl hH)⟩, q _ F1 H1 [] fp g1.mine (by simpa using R.grow g1) rfl fun F2 H2 σ2 E2 fp2 L2 g2 R2 i => ?_⟩
    have na : a ∉ fp := by
      have := R.apart_new g1 n1
      rw [hf] at this
      exact fun m => (List.nodup_append.mp this).2.2 a List.mem_cons_self a m rfl
    have hq2 : SqL K H2 a xs := .inl (.inl (g2.keep a _ hH na))
    have da2 := Mv.DqAll.mono g2.f da
    refine ⟨fun r hr => ?_, fun hr => ⟨xs, hq2, by rw [Mv.DqAll.len da]; exact rdD_stop (E := E2) hr⟩⟩
    obtain ⟨w, hw, ar⟩ := rdD_go (K := K) (H := H2) (E := E2) (ρ := σ2 ++ (as ++ ([] : List V).map some)) da2 hr
    exact ⟨⟨xs, w, hq2, hw⟩, fun x H' hy => ⟨hy.1, by rw [Option.some.inj ((hy.2 xs hq2).symm.trans hw)]; exact ar⟩⟩
  · next p ed =>
    split at e
    · next ss es =>
      cases e
      refine h L R ed fun v F1 H1 f1 g1 a1 n1 o1 => ?_
      have R1 := R.grow g1
      obtain ⟨fq, ow⟩ := a1.own R1 (show (Rs.pl p).at E = some (.lst ss) from es)
      obtain ⟨a, xs, fq', rfl, hH, l, hf⟩ := ow.lst_inv rfl
      obtain ⟨b1, b2, b3⟩ := a1
      refine ⟨a, rfl, ⟨xs, .inl (.inl hH)⟩, q _ F1 H1 [.ref a] fp g1.mine (R1.hold b2 b3) rfl fun F2 H2 σ2 E2 fp2 L2 g2 R2 i => ?_⟩
      have len := R2.core.len
      have lastv : (σ2 ++ (as ++ [V.ref a].map some))[E2.length - 1]? = some (some (.ref a)) := by
        rw [← List.append_assoc, List.getElem?_append_right (by rw [len]; simp), len]
        simp
      have key : ∀ p2 ss2, E2.getLast? = some (Sl.bor p2) → eget E2 p2 = some (.lst ss2) → ∃ xs2 f2, H2 a = some (.lst xs2) ∧ OwnL K F2 H2 xs2 ss2 f2 ∧ RsAt K F2 H2 (σ2 ++ (as ++ [V.ref a].map some)) E2 (.ref a) (.pl p2) [] := by
        intro p2 ss2 hl hg
        rw [List.getLast?_eq_getElem?] at hl
        obtain ⟨w, e1, e2, e3⟩ := R2.bor _ p2 hl
        rw [lastv] at e1
        cases e1
        have at2 : RsAt K F2 H2 (σ2 ++ (as ++ [V.ref a].map some)) E2 (.ref a) (.pl p2) [] := ⟨rfl, e2, e3⟩
        obtain ⟨f2, ow2⟩ := at2.own R2 (show (Rs.pl p2).at E2 = some (.lst ss2) from hg)
        obtain ⟨a', xs2, f3, ea, hH2, l2, _⟩ := ow2.lst_inv rfl
        cases ea
        exact ⟨xs2, f3, hH2, l2, at2⟩
      refine ⟨fun r hr => ?_, fun hr => ?_⟩
      · dsimp only at hr
        split at hr
        · next p2 hl =>
          split at hr
          · next ss2 hg =>
            obtain ⟨xs2, f2, hH2, l2, at2⟩ := key p2 ss2 hl hg
            split at hr
            · next s hs =>
              obtain ⟨r', hr', er⟩ := Option.map_eq_some_iff.mp hr
              cases er
              obtain ⟨w, f, hw, ow⟩ := l2.nth hs
              have hq2 : SqL K H2 a xs2 := .inl (.inl hH2)
              exact ⟨⟨xs2, w, hq2, hw⟩, fun x H' hy => ⟨hy.1, by rw [Option.some.inj ((hy.2 xs2 hq2).symm.trans hw)]; exact at2.kid R2 hg hH2 hw hs ow hr'⟩⟩
            · cases hr
          · cases hr
        · cases hr
      · dsimp only at hr
        split at hr
        · next p2 hl =>
          split at hr
          · next ss2 hg =>
            obtain ⟨xs2, f2, hH2, l2, at2⟩ := key p2 ss2 hl hg
            split at hr
            · next s hs =>
              cases hk : (Rs.pl p2).kid i s with
              | none => rw [hk] at hr; cases hr
              | some r' => rw [hk] at hr; cases hr
            · next hs => exact ⟨xs2, .inl (.inl hH2), by rw [l2.length]; exact List.getElem?_eq_none_iff.mp hs⟩
          · cases hr
        · cases hr
    · cases e
  · cases e
def dLoop (rd : En → Nat → Option (Option Rs)) (bd : Rs → En → Option En) (db : En → Option Out) : Nat → Nat → En → Option Out
  | fuel, i, E => match rd E i with
    | none => none
    | some none => some (.nx E)
    | some (some r) => match fuel with
      | 0 => none
      | fuel + 1 => match bd r E with
        | none => none
        | some E1 => match db E1 with
          | some (.nx E2) => dLoop rd bd db fuel (i + 1) E2
          | some (.ct E2) => dLoop rd bd db fuel (i + 1) E2
          | some (.bk E2) => some (.nx E2)
          | some (.rt s E2) => some (.rt s E2)
          | some (.ex c E2) => some (.ex c E2)
          | none => none
def stripE (c : Src) (E : En) : En := stripN c.exE.length E
def stripO (c : Src) : Option Out → Option Out
  | some (.nx E) => some (.nx (stripE c E))
  | some (.rt s E) => some (.rt s (stripE c E))
  | some (.bk E) => some (.bk (stripE c E))
  | some (.ct E) => some (.ct (stripE c E))
  | some (.ex x E) => some (.ex x (stripE c E))
  | none => none
def dFor (src : En → Option Src) (bd : Rs → En → Option En) (db : En → Option Out) (E : En) : Option Out := match src E with
  | some c => stripO c (dLoop c.rd bd db c.fuel 0 (c.env ++ c.exE))
  | none => none
theorem stripE_rep {σ : L2.St} {c : Src} {ex : List V} (R : Rep K F H (σ ++ (as ++ ex.map some)) E fp) (hl : ex.length = c.exE.length) : ∃ fq, Rep K F H (σ ++ as) (stripE c E) fq ∧ ∀ a ∈ fq, a ∈ fp := R.stripN _ hl
theorem s_for {wi : TI} {g : TG} {tb : TS} {src : En → Option Src} {bd : Rs → En → Option En} {db : En → Option Out} (hi : EvI K n as wi src) (hg : EvG K n g bd) (hb : ∀ as, EvS K n as W tb db) : EvS K n as W (tFor wi g tb) (dFor src bd db) := by
  intro F H σ E fp L R o e D gg
  unfold dFor at e
  split at e
  · next c ec =>
    refine hi L R ec fun J F1 H1 ex fpx g1' R1 hx spec => ?_
    generalize hd : dLoop c.rd bd db c.fuel 0 (c.env ++ c.exE) = o1 at e
    refine ⟨fun i m σ2 H2 => ∃ F2 E2 fp2, σ2.length = n ∧ Grow F1 H1 fpx F2 H2 fp2 ∧ Rep K F2 H2 (σ2 ++ (as ++ ex.map some)) E2 fp2 ∧ dLoop c.rd bd db m i E2 = o1,
      ⟨c.fuel, F1, _, fpx, L, .refl R1.sub fpx, R1, hd⟩, fun i m σ2 H2 hW => ?_⟩
    obtain ⟨F2, E2, fp2, L2, g2, R2, h2⟩ := hW
    obtain ⟨sp1, sp2⟩ := spec F2 H2 σ2 E2 fp2 L2 g2 R2 i
    rw [dLoop.eq_def] at h2
    dsimp only at h2
    cases hr : c.rd E2 i with
    | none => rw [hr] at h2; dsimp only at h2; rw [← h2] at e; cases e
    | some r0 => cases r0 with
      | none =>
        rw [hr] at h2
        dsimp only at h2
        rw [← h2] at e
        cases e
        obtain ⟨fq, R3, sb⟩ := stripE_rep R2 hx
        exact .inl ⟨sp2 hr, gg σ2 F2 H2 fq L2 ((g1'.trans g2).less sb) R3⟩
      | some r =>
        rw [hr] at h2
        dsimp only at h2
        obtain ⟨go, yl⟩ := sp1 r hr
        cases m with
        | zero => dsimp only at h2; rw [← h2] at e; cases e
        | succ m =>
          dsimp only at h2
          refine .inr ⟨go, fun σ' H' => ∃ F2 E2 fp2, σ'.length = n ∧ Grow F1 H1 fpx F2 H' fp2 ∧ Rep K F2 H' (σ' ++ (as ++ ex.map some)) E2 fp2 ∧ dLoop c.rd bd db m (i + 1) E2 = o1, fun σ' H' hN => ⟨m, Nat.lt_succ_self m, hN⟩, fun x H' hy => ?_⟩
          obtain ⟨rfl, ar⟩ := yl x H' hy
          split at h2
          · rw [← h2] at e; cases e
          · next E3 e3 =>
            refine hg L2 R2 ar e3 fun σ3 F3 H3 fp3 L3 g3 R3 => ?_
            have g23 := g2.trans g3
            split at h2
            · next E4 e4 => exact hb _ L3 R3 e4 fun σ' F' H' fp' L' g' R' => ⟨F', E4, fp', L', g23.trans g', R', h2⟩
            · next E4 e4 => exact hb _ L3 R3 e4 fun σ' F' H' fp' L' g' R' => ⟨F', E4, fp', L', g23.trans g', R', h2⟩
            · next E4 e4 =>
              rw [← h2] at e
              cases e
              refine hb _ L3 R3 e4 fun σ' F' H' fp' L' g' R' => ?_
              obtain ⟨fq, R5, sb⟩ := stripE_rep R' hx
              exact gg σ' F' H' fq L' ((g1'.trans (g23.trans g')).less sb) R5
            · next s E4 e4 =>
              rw [← h2] at e
              cases e
              refine hb _ L3 R3 e4 fun v σ' F' H' fr fp' L' g' R' ow nd of => ?_
              obtain ⟨fq, R5, sb⟩ := stripE_rep R' hx
              refine gg v σ' F' H' fr fq L' ((g1'.trans (g23.trans g')).less fun a m => ?_) R5 ow ?_ of
              · exact List.mem_append.mpr ((List.mem_append.mp m).imp id (sb a))
              · exact List.nodup_append.mpr ⟨(List.nodup_append.mp nd).1, R5.nd, fun a m b m2 => (List.nodup_append.mp nd).2.2 a m b (sb b m2)⟩
            · next x E4 e4 =>
              rw [← h2] at e
              cases e
              refine hb _ L3 R3 e4 fun C σ' F' H' fp' hC L' g' R' => ?_
              obtain ⟨fq, R5, sb⟩ := stripE_rep R' hx
              exact gg C σ' F' H' fq hC L' ((g1'.trans (g23.trans g')).less sb) R5
            · rw [← h2] at e; cases e
  · cases e
variable {tt : TT} {dte : En → Option (Bool × En)}
theorem OwnL.recon {w : V} : ∀ {vs : List V} {ss : List S} {fp : List Addr} {j : Nat} {c : V}, OwnL K F H vs ss fp → ss[j]? = some (.con c) → OwnL K F H (vs.set j w) (ss.set j (.con w)) fp
  | _, _, _, j, _, .nil, e => by simp at e
  | _, _, _, 0, c, .cons (fq := fq) h t, e => by
    simp only [List.getElem?_cons_zero, Option.some.injEq] at e
    obtain ⟨_, h2⟩ := h.con_inv e
    subst h2
    exact .cons (fp := []) .con t
  | _, _, _, j + 1, c, .cons h t, e => .cons h (OwnL.recon (j := j) t (by simpa using e))
theorem rootS_no_at : ∀ {ρ : Ro} {E : En} {j : Nat}, E.length = ρ.length → E[j]? = some Sl.no → ∃ c, (rootS ρ E)[j]? = some (.con c)
  | [], [], _, _, h => by simp at h
  | [], _ :: _, _, l, _ => by simp at l
  | _ :: _, [], _, l, _ => by simp at l
  | a :: ρ, b :: E, 0, l, h => by
    simp only [List.getElem?_cons_zero, Option.some.injEq] at h
    subst h
    exact ⟨_, rfl⟩
  | a :: ρ, b :: E, j + 1, l, h => by
    simp only [rootS, List.getElem?_cons_succ]
    exact rootS_no_at (by simpa using l) (by simpa using h)
theorem Rep.forget {j : Nat} (w : Option V) (R : Rep K F H ρ E fp) (h : E[j]? = some Sl.no) : Rep K F H (ρ.set j w) E fp := by
  have hj : j < E.length := (List.getElem?_eq_some_iff.mp h).1
  have len := R.core.len
  obtain ⟨f, l, pm⟩ := R.core.own
  obtain ⟨c, hc⟩ := rootS_no_at len h
  have hn : E.set j Sl.no = E := by
    apply List.ext_getElem?
    intro i
    by_cases ij : j = i
    · subst ij; rw [List.getElem?_set_self hj, h]
    · rw [List.getElem?_set_ne ij]
  have hs : rootS (ρ.set j w) E = (rootS ρ E).set j (.con (w.getD .non)) := by
    have := rootS_set2 (ρ := ρ) (E := E) (i := j) (v := w) (e := Sl.no) len
    rw [hn] at this
    rw [this]
    cases w <;> rfl
  have hv : rootV (ρ.set j w) = (rootV ρ).set j (w.getD .non) := by unfold rootV; rw [List.map_set]
  refine ⟨⟨by rw [List.length_set]; exact len, ⟨f, by rw [hs, hv]; exact l.recon hc, pm⟩, fun i s hi => ?_⟩, R.sub, R.nd, R.off, fun i p hb => ?_⟩
  · have ij : j ≠ i := fun z => by rw [← z, h] at hi; cases hi
    rw [List.getElem?_set_ne ij]
    exact R.core.set i s hi
  · have ij : j ≠ i := fun z => by rw [← z, h] at hb; cases hb
    obtain ⟨z, e1, e2, e3⟩ := R.bor i p hb
    refine ⟨z, by rw [List.getElem?_set_ne ij]; exact e1, ?_, e3⟩
    have hp : p.head? ≠ some j := fun z => by
      obtain ⟨t, ht⟩ := Option.isSome_iff_exists.mp e3
      obtain ⟨k, r, s, rfl, ek, _⟩ := eget_some ht
      simp only [List.head?_cons, Option.some.injEq] at z
      subst z
      rw [h] at ek; cases ek
    rw [followE_set hp]
    exact e2
theorem Rep.grow2 (r : Rep K F H ρ E fp) (g : Grow F H fq F' H' fr) (dj : ∀ a ∈ fp, a ∉ fq) : Rep K F' H' ρ E fp := by
  have k : ∀ a ∈ fp, ∀ o, H a = some o → H' a = some o := fun a m o e => g.keep a o e (dj a m)
  refine ⟨r.core.frame g.f g.sub k, g.sub, r.nd, fun a m => ?_, fun i p h => ?_⟩
  · obtain ⟨o, e⟩ := r.there a m
    exact g.off a (by rw [e]; exact fun z => nomatch z) (dj a m) (r.off a m)
  · obtain ⟨v, h1, h2, h3⟩ := r.bor i p h
    obtain ⟨t, ht⟩ := Option.isSome_iff_exists.mp h3
    exact ⟨v, h1, by rw [r.core.follow_keep (fun b o e => g.sub b o (g.f b o e)) ht k]; exact h2, h3⟩
theorem Grow.beside (g : Grow F H fp F' H' fp') (X : List Addr) : Grow F H (X ++ fp) F' H' (X ++ fp') :=
  g.wide (fun a m => List.mem_append_right _ m) fun a m => by
    rcases List.mem_append.mp m with m | m
    · exact .inl (List.mem_append_left _ m)
    · exact (g.new a m).imp (List.mem_append_right _) id
theorem Grow.write {D : Addr} {o : HO} (sub : ∀ a o, F a = some o → H a = some o) (hF : F D = none) : Grow F H [D] F (upd H D o) [D] := by
  refine ⟨fun _ _ h => h, fun a u e => ?_, fun a u e m => ?_, fun a m => .inl m, fun _ _ _ h => h⟩
  · have : a ≠ D := fun z => by rw [z, hF] at e; cases e
    rw [upd_ne this]; exact sub a u e
  · have : a ≠ D := fun z => m (by rw [z]; exact List.mem_cons_self)
    rw [upd_ne this]; exact e
theorem Rep.wipe {j : Nat} (R : Rep K F H ρ E fp) (hj : j < ρ.length) (w : Option V) : ∃ fq, Rep K F H (ρ.set j w) (slotSet E j .no) fq ∧ ∀ a ∈ fq, a ∈ fp := by
  obtain ⟨fq, R2, sb⟩ := R.setSlot (e := .no) (v := .non) (fr := []) hj rfl R.nd (fun _ m => nomatch m)
  have hE : (slotSet E j .no)[j]? = some Sl.no := by
    unfold slotSet
    rw [List.getElem?_set_self (by rw [List.length_map, R.core.len]; exact hj)]
  have := R2.forget w hE
  rw [List.set_set] at this
  exact ⟨fq, this, fun a m => by simpa using sb a m⟩
def dLcLoop (rd : En → Nat → Option (Option Rs)) (j : Nat) (dt : En → Option (Bool × En)) (de : En → Option (S × En)) : Nat → Nat → List S → En → Option (List S × En)
  | fuel, i, acc, E => match rd E i with
    | none => none
    | some none => some (acc, E)
    | some (some r) => match fuel with
      | 0 => none
      | fuel + 1 => match bName j r E with
        | none => none
        | some E1 => match dt E1 with
          | some (true, E2) => match de E2 with
            | some (s, E3) => if acc.length < 100000 then dLcLoop rd j dt de fuel (i + 1) (acc ++ [s]) (slotSet E3 j .no) else none
            | none => none
          | some (false, E2) => dLcLoop rd j dt de fuel (i + 1) acc (slotSet E2 j .no)
          | none => none
def eLc (src : En → Option Src) (j : Nat) (dt : En → Option (Bool × En)) (de : En → Option (S × En)) (E : En) : Option (S × En) := match src E with
  | some c => match dLcLoop c.rd j dt de c.fuel 0 [] (slotSet (c.env ++ c.exE) j .no) with
    | some (acc, E') => some (.lst acc, stripE c E')
    | none => none
  | none => none
def eYes (E : En) : Option (Bool × En) := some (true, E)
theorem e_yes : EvTE K n as tYes eYes := by
  intro F H σ E fp L R b E' e Q q
  cases e
  exact q F H fp (.refl R.sub fp) R
theorem e_lc {wi : TI} {src : En → Option Src} {j : Nat} (hj : j < n) (hi : EvI K n as wi src) (ht : ∀ as, EvTE K n as tt dte) (he : ∀ as, EvE K n as te de) : EvE K n as (tLc wi (gName j) tt te [j]) (eLc src j dte de) := by
  intro F H σ E fp L R s0 E0 e Q q
  unfold eLc at e
  split at e
  · next c ec =>
    split at e
    · next acc0 E9 hd =>
      cases e
      refine hi L R ec fun J F1 H1 ex fpx g1' R1 hx spec => fun D hD => ?_
      have hjl : j < (σ ++ (as ++ ex.map some)).length := by rw [List.length_append]; omega
      have wl : ∀ w, (σ.set j w) ++ (as ++ ex.map some) = (σ ++ (as ++ ex.map some)).set j w := fun w => set_app (by omega)
      have gD : Grow F1 H1 [] F1 (upd H1 D (.lst [])) [D] := Grow.alloc R1.sub hD
      obtain ⟨fw, Rw, sbw⟩ := (R1.grow gD).wipe hjl none
      rw [← wl none] at Rw
      have back : ((σ.set j none) ++ (as ++ ex.map some)).set j (σ[j]?.getD none) = σ ++ (as ++ ex.map some) := by
        rw [wl none, List.set_set]
        apply List.ext_getElem?
        intro i
        by_cases ij : j = i
        · subst ij
          have h1 : j < σ.length := by omega
          rw [List.getElem?_set_self hjl, List.getElem?_append_left h1, List.getElem?_eq_getElem h1]; rfl
        · rw [List.getElem?_set_ne ij]
      -- the invariant
      refine ⟨fun i m Hm => ∃ Fm Em fpm accV accS fa, Grow F1 H1 fpx Fm Hm (D :: (fa ++ fpm)) ∧ Rep K Fm Hm ((σ.set j none) ++ (as ++ ex.map some)) Em fpm ∧ Em[j]? = some Sl.no ∧ Hm D = some (.lst accV) ∧ OwnL K Fm Hm accV accS fa ∧
          (D :: (fa ++ fpm)).Nodup ∧ (∀ a ∈ D :: fa, Fm a = none) ∧ dLcLoop c.rd j dte de m i accS Em = some (acc0, E9),
        ⟨c.fuel, F1, _, fw, [], [], [], ?_, Rw, ?_, upd_same, .nil, ?_, ?_, hd⟩, fun i m Hm hW => ?_⟩
      · have := gD.wide (fq := fpx) (fr := D :: ([] ++ fw)) (fun _ m => nomatch m) fun a m => ?_
        · exact this
        · rcases List.mem_cons.mp m with rfl | m
          · exact .inr hD
          · exact .inl (sbw a (by simpa using m))
      · unfold slotSet
        rw [List.getElem?_set_self]
        rw [List.length_map, R1.core.len]; exact hjl
      · refine List.nodup_cons.mpr ⟨fun m => ?_, by simpa using Rw.nd⟩
        obtain ⟨o, eo⟩ := R1.there D (sbw D (by simpa using m))
        rw [hD] at eo; cases eo
      · intro a m
        rw [List.mem_singleton.mp m]
        cases h : F1 D with
        | none => rfl
        | some o => rw [R1.sub D o h] at hD; cases hD
      · obtain ⟨Fm, Em, fpm, accV, accS, fa, gm, Rm, hno, hHD, lacc, nd, off, hl⟩ := hW
        have gm' : Grow F1 H1 fpx Fm Hm fpm := gm.less fun a m => List.mem_cons_of_mem _ (List.mem_append_right _ m)
        obtain ⟨sp1, sp2⟩ := spec Fm Hm (σ.set j none) Em fpm (by rw [List.length_set]; exact L) gm' Rm i
        rw [dLcLoop.eq_def] at hl
        dsimp only at hl
        have subD : (D :: fa ++ fpm).Nodup := by simpa using nd
        cases hr : c.rd Em i with
        | none => rw [hr] at hl; cases hl
        | some r0 => cases r0 with
          | none =>
            rw [hr] at hl
            cases hl
            refine .inl ⟨sp2 hr, ?_⟩
            have R3 : Rep K Fm Hm (σ ++ (as ++ ex.map some)) E9 fpm := by
              have := Rm.forget (σ[j]?.getD none) hno
              rw [back] at this
              exact this
            obtain ⟨fq9, R4, sb9⟩ := stripE_rep R3 hx
            refine q (.ref D) Fm Hm (D :: fa) fq9 (g1'.trans (gm.less fun a m => (List.mem_append.mp m).elim (fun m => (List.mem_cons.mp m).elim (fun z => by rw [z]; exact List.mem_cons_self) fun m => List.mem_cons_of_mem _ (List.mem_append_left _ m)) fun m => List.mem_cons_of_mem _ (List.mem_append_right _ (sb9 a m)))) R4 (Own.node (s := .lst acc0) (ex := []) hHD (show Head _ Hm D (.lst accV) (.lst acc0) [] from rfl) lacc) ?_ off
            have nd' := List.nodup_append.mp (show (D :: fa ++ fpm).Nodup by simpa using nd)
            exact List.nodup_append.mpr ⟨nd'.1, R4.nd, fun a m b m2 => nd'.2.2 a m b (sb9 b m2)⟩
          | some r =>
            rw [hr] at hl
            dsimp only at hl
            obtain ⟨go, yl⟩ := sp1 r hr
            cases m with
            | zero => cases hl
            | succ m =>
              dsimp only at hl
              refine .inr ⟨go, fun H' => ∃ Fm Em fpm accV accS fa, Grow F1 H1 fpx Fm H' (D :: (fa ++ fpm)) ∧ Rep K Fm H' ((σ.set j none) ++ (as ++ ex.map some)) Em fpm ∧ Em[j]? = some Sl.no ∧ H' D = some (.lst accV) ∧ OwnL K Fm H' accV accS fa ∧
                (D :: (fa ++ fpm)).Nodup ∧ (∀ a ∈ D :: fa, Fm a = none) ∧ dLcLoop c.rd j dte de m (i + 1) accS Em = some (acc0, E9), fun H' hN => ⟨m, Nat.lt_succ_self m, hN⟩, fun x H' hy => ?_⟩
              obtain ⟨rfl, ar⟩ := yl x H' hy
              split at hl
              · cases hl
              · next E1 e1 =>
                show wipe ((σ.set j none).set j (some x)) [j] = wipe σ [j] ∧ _
                refine ⟨by show ((σ.set j none).set j (some x)).set j none = σ.set j none; rw [List.set_set, List.set_set], ?_⟩
                have hLw : ((σ.set j none).set j (some x)).length = n := by rw [List.length_set, List.length_set]; exact L
                have hjw : j < (σ.set j none ++ (as ++ ex.map some)).length := by rw [List.length_append, List.length_set]; omega
                have hR1 : ∃ fq, Rep K Fm H' (((σ.set j none).set j (some x)) ++ (as ++ ex.map some)) E1 fq ∧ ∀ a ∈ fq, a ∈ fpm := by
                  rw [show ((σ.set j none).set j (some x)) ++ (as ++ ex.map some) = (σ.set j none ++ (as ++ ex.map some)).set j (some x) from set_app (by rw [List.length_set]; omega)]
                  cases r with
                  | val s =>
                    cases e1
                    obtain ⟨fq, k1, k2⟩ := Rm.setSlot (e := .own s) (fr := []) hjw ar Rm.nd (fun _ m => nomatch m)
                    exact ⟨fq, k1, fun a m => by simpa using k2 a m⟩
                  | pl p =>
                    unfold bName at e1
                    dsimp only at e1
                    split at e1
                    · cases e1
                    · next hp =>
                      cases e1
                      obtain ⟨a1, a2, a3⟩ := ar
                      obtain ⟨fq, k1, k2⟩ := Rm.setSlot (e := .bor p) (fr := []) hjw ⟨rfl, hp, a2, a3⟩ Rm.nd (fun _ m => nomatch m)
                      exact ⟨fq, k1, fun a m => by simpa using k2 a m⟩
                obtain ⟨fq, R1', sb1⟩ := hR1
                -- D and what is made so far stand aside
                have asideD : ∀ a ∈ D :: fa, a ∉ fq := fun a m m2 => (List.nodup_append.mp (show (D :: fa ++ fpm).Nodup by simpa using nd)).2.2 a m a (sb1 a m2) rfl
                have thD : ∀ a ∈ D :: fa, ∃ o, H' a = some o := fun a m => by
                  rcases List.mem_cons.mp m with rfl | m
                  · exact ⟨_, hHD⟩
                  · exact lacc.there a m
                have gfq : Grow F1 H1 fpx Fm H' (D :: fa ++ fq) := gm.less fun a m => by
                  rcases List.mem_append.mp m with m | m
                  · rcases List.mem_cons.mp m with rfl | m
                    · exact List.mem_cons_self
                    · exact List.mem_cons_of_mem _ (List.mem_append_left _ m)
                  · exact List.mem_cons_of_mem _ (List.mem_append_right _ (sb1 a m))
                have keepD : ∀ {F3 H3 fp3}, Grow Fm H' fq F3 H3 fp3 → H3 D = some (.lst accV) ∧ OwnL K F3 H3 accV accS fa ∧ (∀ a ∈ D :: fa, F3 a = none) ∧ (∀ a ∈ D :: fa, a ∉ fp3) := fun {F3 H3 fp3} g3 => by
                  refine ⟨g3.keep D _ hHD (asideD D List.mem_cons_self), lacc.frame g3.f g3.sub fun a m o e => g3.keep a o e (asideD a (List.mem_cons_of_mem _ m)), fun a m => ?_, fun a m m2 => ?_⟩
                  · obtain ⟨o, eo⟩ := thD a m
                    exact g3.off a (by rw [eo]; exact fun z => nomatch z) (asideD a m) (off a m)
                  · rcases g3.new a m2 with z | z
                    · exact asideD a m z
                    · obtain ⟨o, eo⟩ := thD a m
                      rw [eo] at z; cases z
                have ndD : (D :: fa).Nodup := (List.nodup_append.mp (show (D :: fa ++ fpm).Nodup by simpa using nd)).1
                split at hl
                · next E2 e2 =>
                  split at hl
                  · next s3 E3 e3 =>
                    split at hl
                    · next hlen =>
                      refine ht _ hLw R1' e2 fun F3 H3 fp3 g3 R3 => iteT (he _ hLw R3 e3 fun y F4 H4 fr fp4 g4 R4 ow nd4 of4 => ?_)
                      have g34 : Grow Fm H' fq F4 H4 (fr ++ fp4) := g3.trans g4
                      obtain ⟨kD, kacc, koff, kas⟩ := keepD g34
                      refine ⟨accV, kD, by rw [lacc.length, sizeLine_eq]; omega, ?_⟩
                      have hjw4 : j < (((σ.set j none).set j (some x)) ++ (as ++ ex.map some)).length := by rw [List.length_append, hLw]; omega
                      obtain ⟨fq5, R5, sb5⟩ := R4.wipe hjw4 none
                      rw [← show (((σ.set j none).set j (some x)).set j none) ++ (as ++ ex.map some) = (((σ.set j none).set j (some x)) ++ (as ++ ex.map some)).set j none from set_app (by omega), List.set_set, List.set_set] at R5
                      have gw : Grow F4 H4 [D] F4 (upd H4 D (.lst (accV ++ [y]))) [D] := Grow.write R4.sub (koff D List.mem_cons_self)
                      have D4 : D ∉ fr ++ fp4 := kas D List.mem_cons_self
                      have R6 := R5.grow2 gw (fun a m m2 => D4 (by rw [← List.mem_singleton.mp m2]; exact List.mem_append_right _ (sb5 a m)))
                      have nDfa : D ∉ fa := (List.nodup_cons.mp ndD).1
                      have ow6 : Own K F4 (upd H4 D (.lst (accV ++ [y]))) y s3 fr := ow.grow gw fun a m m2 => D4 (by rw [← List.mem_singleton.mp m2]; exact List.mem_append_left _ m)
                      have acc6 : OwnL K F4 (upd H4 D (.lst (accV ++ [y]))) accV accS fa := kacc.frame gw.f gw.sub fun a m o e => gw.keep a o e fun m2 => nDfa (by rw [← List.mem_singleton.mp m2]; exact m)
                      have lall := acc6.append (OwnL.cons ow6 .nil)
                      rw [List.append_nil] at lall
                      refine ⟨F4, slotSet E3 j .no, fq5, accV ++ [y], accS ++ [s3], fa ++ fr, ?_, R6, ?_, upd_same, lall, ?_, ?_, hl⟩
                      · have ga : Grow F1 H1 fpx F4 H4 (D :: fa ++ (fr ++ fp4)) := gfq.trans (g34.beside (D :: fa))
                        have gb : Grow F4 H4 (D :: fa ++ (fr ++ fp4)) F4 (upd H4 D (.lst (accV ++ [y]))) (D :: (fa ++ fr ++ fq5)) := gw.wide (fun a m => by rw [List.mem_singleton.mp m]; exact List.mem_append_left _ List.mem_cons_self) fun a m => by
                          left
                          rcases List.mem_cons.mp m with rfl | m
                          · exact List.mem_append_left _ List.mem_cons_self
                          · rcases List.mem_append.mp m with m | m
                            · rcases List.mem_append.mp m with m | m
                              · exact List.mem_append_left _ (List.mem_cons_of_mem _ m)
                              · exact List.mem_append_right _ (List.mem_append_left _ m)
                            · exact List.mem_append_right _ (List.mem_append_right _ (sb5 a m))
                        exact ga.trans gb
                      · unfold slotSet
                        rw [List.getElem?_set_self]
                        rw [List.length_map, R4.core.len]; exact hjw4
                      · refine List.nodup_cons.mpr ⟨fun m => ?_, ?_⟩
                        · rcases List.mem_append.mp m with m | m
                          · rcases List.mem_append.mp m with m | m
                            · exact nDfa m
                            · exact D4 (List.mem_append_left _ m)
                          · exact D4 (List.mem_append_right _ (sb5 D m))
                        · refine nodup_two (nodup_two (List.nodup_cons.mp ndD).2 (List.nodup_append.mp nd4).1 fun a m b m2 z => ?_) R5.nd fun a m b m2 z => ?_
                          · subst z; exact kas a (List.mem_cons_of_mem _ m) (List.mem_append_left _ m2)
                          · subst z
                            rcases List.mem_append.mp m with m | m
                            · exact kas a (List.mem_cons_of_mem _ m) (List.mem_append_right _ (sb5 a m2))
                            · exact (List.nodup_append.mp nd4).2.2 a m a (sb5 a m2) rfl
                      · intro a m
                        rcases List.mem_cons.mp m with rfl | m
                        · exact koff a List.mem_cons_self
                        · rcases List.mem_append.mp m with m | m
                          · exact koff a (List.mem_cons_of_mem _ m)
                          · exact of4 a m
                    · cases hl
                  · cases hl
                · next E2 e2 =>
                  refine ht _ hLw R1' e2 fun F3 H3 fp3 g3 R3 => iteF ?_
                  obtain ⟨kD, kacc, koff, kas⟩ := keepD g3
                  have hjw4 : j < (((σ.set j none).set j (some x)) ++ (as ++ ex.map some)).length := by rw [List.length_append, hLw]; omega
                  obtain ⟨fq5, R5, sb5⟩ := R3.wipe hjw4 none
                  rw [← show (((σ.set j none).set j (some x)).set j none) ++ (as ++ ex.map some) = (((σ.set j none).set j (some x)) ++ (as ++ ex.map some)).set j none from set_app (by omega), List.set_set, List.set_set] at R5
                  refine ⟨F3, slotSet E2 j .no, fq5, accV, accS, fa, ?_, R5, ?_, kD, kacc, ?_, koff, hl⟩
                  · exact (gfq.trans (g3.beside (D :: fa))).less fun a m => by
                      rcases List.mem_cons.mp m with rfl | m
                      · exact List.mem_append_left _ List.mem_cons_self
                      · rcases List.mem_append.mp m with m | m
                        · exact List.mem_append_left _ (List.mem_cons_of_mem _ m)
                        · exact List.mem_append_right _ (sb5 a m)
                  · unfold slotSet
                    rw [List.getElem?_set_self]
                    rw [List.length_map, R3.core.len]; exact hjw4
                  · have : (D :: fa ++ fq5).Nodup := nodup_two ndD R5.nd fun a m b m2 z => by subst z; exact kas a m (sb5 a m2)
                    simpa using this
                · cases hl
    · cases e
  · cases e
def Nd1 (K : PySem.W.Frag) (r : V → V → Hp → VK → Prop) (op : S → S → Option (S × S)) : Prop :=
  ∀ {F H : Hp} {u y : V} {t s t' c : S} {fp1 fr : List Addr}, (∀ a o, F a = some o → H a = some o) → Own K F H u t fp1 → Own K F H y s fr → (fr ++ fp1).Nodup → (∀ a ∈ fr ++ fp1, F a = none) → op t s = some (t', c) → ∀ {Q : VK},
    (∀ v F' H' fv fq, Grow F H (fr ++ fp1) F' H' (fv ++ fq) → Own K F' H' u t' fq → Own K F' H' v c fv → (fv ++ fq).Nodup → (∀ a ∈ fv ++ fq, F' a = none) → Q v H') → r u y H Q
def eMut1 (op : S → S → Option (S × S)) (da db : En → Option Rs) (E : En) : Option (S × En) := match da E, db E with
  | some (.pl p), some (.val s) => match eget E p with
    | some t => match op t s with
      | some (t', c) => some (c, ekill (eput E p t') p)
      | none => none
    | none => none
  | _, _ => none
theorem mut1 {r : V → V → Hp → VK → Prop} {op : S → S → Option (S × S)} (hr : Nd1 K r op) {σ : L2.St} {p : List Nat} {t' c : S} (R : Rep K F H (σ ++ as) E fp) (a1 : RsAt K F H (σ ++ as) E u (.pl p) f1) (o2 : Own K F H y s fr) (nd : (fr ++ fp).Nodup) (of : ∀ a ∈ fr, F a = none)
    (ht : eget E p = some t) (ho : op t s = some (t', c)) {Q : VK} (q : ∀ v F' H' fv fp', Grow F H (fr ++ fp) F' H' (fv ++ fp') → Rep K F' H' (σ ++ as) (ekill (eput E p t') p) fp' → Own K F' H' v c fv → (fv ++ fp').Nodup → (∀ a ∈ fv, F' a = none) → Q v H') : r u y H Q := by
  obtain ⟨w, fp1, fp2, h1, h2, pm, close⟩ := R.focus2 ht
  rw [a1.2.1] at h1
  cases h1
  have in1 : ∀ a ∈ fp1, a ∈ fp := fun a m => pm.mem_iff.mpr (List.mem_append_left _ m)
  have nd1 : (fr ++ fp1).Nodup := nodup_two (List.nodup_append.mp nd).1 (List.nodup_append.mp (pm.nodup_iff.mp R.nd)).1 fun a m b m2 e => (List.nodup_append.mp nd).2.2 a m b (in1 b m2) e
  refine hr R.sub h2 o2 nd1 (fun a m => (List.mem_append.mp m).elim (of a) fun m => R.off a (in1 a m)) ho fun v F' H' fv fq g ou ov ndv ofv => ?_
  obtain ⟨R', nd', g'⟩ := close F' H' t' fq fr fv g (fun a m m2 => (List.nodup_append.mp nd).2.2 a m a m2 rfl) ou ndv fun a m => ofv a (List.mem_append_right _ m)
  exact q v F' H' fv _ g' R' ov nd' fun a m => ofv a (List.mem_append_left _ m)
theorem tyV_list {a : Addr} {xs : List V} (h : H a = some (.lst xs)) : tyV K "list" (.ref a) H := .inl ⟨rfl, xs, .inl (.inl h)⟩
def eBM1 (op : S → S → Option (S × S)) (da db : En → Option Rs) (E : En) : Option (S × En) := match da E with
  | some (.pl p) => match eget E p with
    | some (.lst _) => eMut1 op da db E
    | _ => none
  | _ => none
theorem e_bm1 {r : V → List V → Hp → VK → Prop} {op : S → S → Option (S × S)} (hr : Nd1 K (fun u y H Q => r u [y] H Q) op) (ha : EvP K n as ta da) (hb : EvP K n as tb db) : EvE K n as (tBM K "list" r ta (tCons tb tNil)) (eBM1 op da db) := by
  intro F H σ E fp L R s0 E0 e Q q
  unfold eBM1 at e
  split at e
  · next p ea =>
    split at e
    · next ss es =>
      unfold eMut1 at e
      rw [ea] at e
      split at e
      · next p' s hp eb =>
        cases hp
        rw [es] at e
        dsimp only at e
        split at e
        · next t' c ho =>
          cases e
          refine ha L R ea fun u F1 H1 f1 g1 a1 n1 o1 => ?_
          have R1 := R.grow g1
          obtain ⟨fq, ow⟩ := a1.own R1 (show (Rs.pl p).at E = some (.lst ss) from es)
          obtain ⟨a, xs, _, rfl, hH, _⟩ := ow.lst_inv rfl
          refine ⟨tyV_list hH, hb L R1 eb fun y F2 H2 f2 g2 a2 n2 o2 => ?_⟩
          have R2 := R1.grow g2
          exact mut1 hr R2 (a1.grow R1 g2) a2 (R1.apart_new g2 n2) o2 es ho fun v F' H' fv fp' g R' ov nd' of' => q v F' H' fv fp' (((g1.ours fp).less fun a m => List.mem_append_right _ m).trans ((g2.ours fp).trans g)) R' ov nd' of'
        · cases e
      · cases e
    · cases e
  · cases e
def oAppend : S → S → Option (S × S)
  | .lst ss, s => if ss.length < 100000 then some (.lst (ss ++ [s]), .dat .none) else none
  | _, _ => none
theorem lst_write {a : Addr} {ys : List V} {f : List Addr} (o : OwnL K F (upd H a (.lst ys)) ys ss f) : Own K F (upd H a (.lst ys)) (.ref a) (.lst ss) (a :: f) := by
  have := Own.node (K := K) (F := F) (H := upd H a (.lst ys)) (s := .lst ss) (ex := []) upd_same (show Head _ _ a (.lst ys) (.lst ss) [] from rfl) o
  simpa using this
theorem upd_sub (sub : ∀ b u, F b = some u → H b = some u) {a : Addr} {o : HO} (fa : F a = none) : ∀ b u, F b = some u → upd H a o b = some u := fun b u e => by
  rw [upd_ne (ne_of_none e fa)]; exact sub b u e
theorem OwnL.off (l : OwnL K F H vs ss fp) (sub : ∀ b u, F b = some u → H b = some u) {a : Addr} {o : HO} (fa : F a = none) (h : a ∉ fp) : OwnL K F (upd H a o) vs ss fp := l.frame (fun _ _ h => h) (upd_sub sub fa) fun b m u e => by
  rw [upd_ne (fun z => h (by rw [← z]; exact m))]; exact e
theorem Own.off (l : Own K F H v s fp) (sub : ∀ b u, F b = some u → H b = some u) {a : Addr} {o : HO} (fa : F a = none) (h : a ∉ fp) : Own K F (upd H a o) v s fp := l.frame (fun _ _ h => h) (upd_sub sub fa) fun b m u e => by
  rw [upd_ne (fun z => h (by rw [← z]; exact m))]; exact e
theorem nd_append : Nd1 K (fun u y H Q => rAppend u [y] H Q) oAppend := by
  intro F H u y t s t' c fp1 fr sub ot os nd of e Q q
  unfold oAppend at e
  split at e
  · next ss s =>
    split at e
    · next hl =>
      cases e
      obtain ⟨a, vs, fq, rfl, hH, l, rfl⟩ := ot.lst_inv rfl
      have na : a ∉ fr := fun m => (List.nodup_append.mp nd).2.2 a m a List.mem_cons_self rfl
      have nq : a ∉ fq := (List.nodup_cons.mp (List.nodup_append.mp nd).2.1).1
      refine ⟨a, vs, y, rfl, rfl, hH, by rw [l.length, sizeLine_eq]; omega, ?_⟩
      have l2 := (l.off sub (o := .lst (vs ++ [y])) (of a (List.mem_append_right _ List.mem_cons_self)) nq).append (OwnL.cons (os.off sub (o := .lst (vs ++ [y])) (of a (List.mem_append_right _ List.mem_cons_self)) na) .nil)
      rw [List.append_nil] at l2
      have g0 : Grow F H [a] F (upd H a (.lst (vs ++ [y]))) [a] := Grow.write sub (of a (List.mem_append_right _ List.mem_cons_self))
      refine q .non F _ [] (a :: (fq ++ fr)) (g0.wide (fun b m => by rw [List.mem_singleton.mp m]; exact List.mem_append_right _ List.mem_cons_self) fun b m => ?_) (lst_write l2) (.dat .non) ?_ fun b m => ?_
      · left
        rw [List.nil_append] at m
        rcases List.mem_cons.mp m with rfl | m
        · exact List.mem_append_right _ List.mem_cons_self
        · rcases List.mem_append.mp m with m | m
          · exact List.mem_append_right _ (List.mem_cons_of_mem _ m)
          · exact List.mem_append_left _ m
      · rw [List.nil_append]
        have p : (fr ++ a :: fq).Perm (a :: (fq ++ fr)) := List.perm_middle.trans (List.Perm.cons a List.perm_append_comm)
        exact p.nodup_iff.mp nd
      · rw [List.nil_append] at m
        rcases List.mem_cons.mp m with rfl | m
        · exact of _ (List.mem_append_right _ List.mem_cons_self)
        · rcases List.mem_append.mp m with m | m
          · exact of b (List.mem_append_right _ (List.mem_cons_of_mem _ m))
          · exact of b (List.mem_append_left _ m)
    · cases e
  · cases e
def oPopAt : S → S → Option (S × S)
  | .lst ss, .dat (.int i) => match ixN ss.length i with
    | some j => match ss[j]? with
      | some s => if ss.length < 100000 then some (.lst (ss.eraseIdx j), s) else none
      | none => none
    | none => none
  | _, _ => none
theorem OwnL.erase : ∀ {vs : List V} {ss : List S} {fp : List Addr} {j : Nat} {s : S}, OwnL K F H vs ss fp → ss[j]? = some s → ∃ v f1 f2, vs[j]? = some v ∧ Own K F H v s f1 ∧ OwnL K F H (vs.eraseIdx j) (ss.eraseIdx j) f2 ∧ fp.Perm (f1 ++ f2)
  | _, _, _, j, _, .nil, e => by simp at e
  | _, _, _, 0, s, .cons h t, e => by
    simp only [List.getElem?_cons_zero, Option.some.injEq] at e
    subst e
    exact ⟨_, _, _, rfl, h, t, List.Perm.refl _⟩
  | _, _, _, j + 1, s, .cons (fp := fa) h t, e => by
    obtain ⟨v, f1, f2, e1, o, l, p⟩ := OwnL.erase (j := j) t (by simpa using e)
    refine ⟨v, f1, fa ++ f2, by simpa using e1, o, .cons h l, ?_⟩
    refine (List.Perm.append_left fa p).trans ?_
    rw [← List.append_assoc, ← List.append_assoc]
    exact List.Perm.append_right _ List.perm_append_comm
theorem nd_popAt : Nd1 K (fun u y H Q => rPopAt u [y] H Q) oPopAt := by
  intro F H u y t s t' c fp1 fr sub ot os nd of e Q q
  unfold oPopAt at e
  split at e
  · next ss i =>
    split at e
    · next j ej =>
      split at e
      · next s hs =>
        split at e
        · next hl =>
          cases e
          obtain ⟨hd, rfl⟩ := os.dat_inv rfl
          cases hd
          obtain ⟨a, vs, fq, rfl, hH, l, rfl⟩ := ot.lst_inv rfl
          obtain ⟨w, g1, g2, e1, ow, l2, pm⟩ := l.erase hs
          rw [List.nil_append] at nd of
          have nq : a ∉ fq := (List.nodup_cons.mp nd).1
          have n1 : a ∉ g1 := fun m => nq (pm.mem_iff.mpr (List.mem_append_left _ m))
          have n2 : a ∉ g2 := fun m => nq (pm.mem_iff.mpr (List.mem_append_right _ m))
          obtain ⟨k1, k2, k3, k4⟩ := ixN_seq ej
          refine ⟨a, vs, i, j, w, rfl, rfl, hH, ?_, ?_, by rw [l.length]; exact k1, e1, ?_⟩
          · have : (ss.length : Int) < 100000 := by omega
            omega
          · have : (ss.length : Int) < 100000 := by omega
            omega
          · have g0 : Grow F H [a] F (upd H a (.lst (vs.eraseIdx j))) [a] := Grow.write sub (of a List.mem_cons_self)
            refine q w F _ g1 (a :: g2) (g0.wide (fun b m => by rw [List.mem_singleton.mp m]; exact List.mem_cons_self) fun b m => ?_) (lst_write (l2.off sub (of a List.mem_cons_self) n2)) (ow.off sub (of a List.mem_cons_self) n1) ?_ fun b m => ?_
            · left
              rcases List.mem_append.mp m with m | m
              · exact List.mem_cons_of_mem _ (pm.mem_iff.mpr (List.mem_append_left _ m))
              · rcases List.mem_cons.mp m with rfl | m
                · exact List.mem_cons_self
                · exact List.mem_cons_of_mem _ (pm.mem_iff.mpr (List.mem_append_right _ m))
            · have p : (a :: fq).Perm (g1 ++ a :: g2) := (List.Perm.cons a pm).trans List.perm_middle.symm
              exact p.nodup_iff.mp nd
            · rcases List.mem_append.mp m with m | m
              · exact of b (List.mem_cons_of_mem _ (pm.mem_iff.mpr (List.mem_append_left _ m)))
              · rcases List.mem_cons.mp m with rfl | m
                · exact of _ List.mem_cons_self
                · exact of b (List.mem_cons_of_mem _ (pm.mem_iff.mpr (List.mem_append_right _ m)))
        · cases e
      · cases e
    · cases e
  · cases e
def kix : List Key → Key → Option Nat
  | [], _ => none
  | a :: r, k => if a = k then some 0 else (kix r k).map (· + 1)
theorem valV_kix (k : Key) : ∀ kvs : List (Key × V), valV kvs k = (kix (kvs.map (·.1)) k).bind fun i => (kvs.map (·.2))[i]?
  | [] => rfl
  | p :: r => by
    by_cases e : p.1 = k
    · rw [valV_pos e]; simp [kix, e]
    · rw [valV_neg e, valV_kix k r, List.map_cons, List.map_cons, kix, if_neg e]
      cases kix (r.map (·.1)) k with
      | none => rfl
      | some i => simp
theorem kix_lt {k : Key} : ∀ {ks : List Key} {i : Nat}, kix ks k = some i → i < ks.length
  | [], _, h => by simp [kix] at h
  | a :: r, i, h => by
    unfold kix at h
    split at h
    · cases h; simp
    · obtain ⟨j, hj, rfl⟩ := Option.map_eq_some_iff.mp h
      have := kix_lt hj
      simp only [List.length_cons]; omega
def putS {α : Type} (kss : List (Key × α)) (k : Key) (s : α) : List (Key × α) := match kix (kss.map (·.1)) k with
  | some i => setSnd kss i s
  | none => kss ++ [(k, s)]
theorem putK_kix {k : Key} (b : V) : ∀ (kvs : List (Key × V)), (kvs.map (·.1)).Nodup → putK kvs k b = putS kvs k b := by
  have map_no : ∀ (r : List (Key × V)), k ∉ r.map (·.1) → r.map (fun kv => if kv.1 = k then (kv.1, b) else kv) = r := by
    intro r h
    induction r with
    | nil => rfl
    | cons p r ih =>
      simp only [List.map_cons, List.mem_cons, not_or] at h
      rw [List.map_cons, if_neg (fun z => h.1 z.symm), ih h.2]
  have yes : ∀ (kvs : List (Key × V)) (i : Nat), (kvs.map (·.1)).Nodup → kix (kvs.map (·.1)) k = some i → kvs.map (fun kv => if kv.1 = k then (kv.1, b) else kv) = setSnd kvs i b := by
    intro kvs
    induction kvs with
    | nil => intro i _ h; simp [kix] at h
    | cons p r ih =>
      intro i nd h
      rw [List.map_cons, List.nodup_cons] at nd
      rw [List.map_cons, kix] at h
      by_cases e : p.1 = k
      · rw [if_pos e] at h
        cases h
        rw [List.map_cons, if_pos e]
        simp only [setSnd]
        rw [map_no r (by rw [← e]; exact nd.1)]
      · rw [if_neg e] at h
        obtain ⟨j, hj, rfl⟩ := Option.map_eq_some_iff.mp h
        rw [List.map_cons, if_neg e]
        simp only [setSnd]
        rw [ih j nd.2 hj]
  intro kvs nd
  unfold putK putS
  rw [valV_any, valV_kix]
  cases h : kix (kvs.map (·.1)) k with
  | none => simp
  | some i =>
    have hi := kix_lt h
    rw [List.length_map] at hi
    simp only [Option.bind_some, List.getElem?_map, List.getElem?_eq_getElem hi, Option.map_some, Option.isSome_some, if_true]
    exact yes kvs i nd h
theorem putK_nodup_map {k : Key} {b : V} {c : S} {kvs : List (Key × V)} {kss : List (Key × S)} (e : kvs.map (·.1) = kss.map (·.1)) : (putS kvs k b).map (·.1) = (putS kss k c).map (·.1) := by
  unfold putS
  rw [e]
  split
  · rw [setSnd_fst, setSnd_fst, e]
  · rw [List.map_append, List.map_append, e]; rfl
theorem Own.dct_inv {l : Bool} {kss : List (Key × S)} (o : Own K F H v s fp) (e : s = .dct l kss) :
    ∃ a kvs u fq, v = .ref a ∧ H a = some u ∧ kidsV u = kvs.map (·.2) ∧ Rd H a (.dK kvs) ∧ kvs.map (·.1) = kss.map (·.1) ∧ OwnL K F H (kvs.map (·.2)) (kss.map (·.2)) fq ∧ (l = false → H a = some (.dK kvs) ∧ fp = a :: fq) := by
  cases o with
  | dat _ => cases e
  | con => cases e
  | @node a ob _ ex fq h hd ll =>
    subst e
    cases ob with
    | dK kvs => cases l with
      | false =>
        obtain ⟨rfl, hk⟩ := hd
        exact ⟨a, kvs, _, fq, rfl, h, rfl, .inl h, hk, ll, fun _ => ⟨h, rfl⟩⟩
      | true => exact hd.elim
    | frz o u => cases u <;> exact hd.elim
    | _ => exact hd.elim
  | @lck a ob kvs kss' fq hf h hk ll =>
    cases e
    exact ⟨a, kvs, _, fp, rfl, h, rfl, .inr ⟨_, h⟩, hk, ll, fun z => nomatch z⟩
def keyS : S → Option Key
  | .dat (.int i) => some (.inl i)
  | .dat (.str x) => some (.inr x)
  | _ => none
def Rs.key : Rs → Option Key
  | .val s => keyS s
  | _ => none
theorem RsAt.key {r : Rs} {k : Key} (a : RsAt K F H ρ E v r fr) (h : r.key = some k) : v = kV k := by
  cases r with
  | pl p => cases h
  | val s =>
    have o : Own K F H v s fr := a
    cases s with
    | dat d =>
      have dp := (o.dat_inv rfl).1
      cases d with
      | int i => cases h; cases dp; rfl
      | str x => cases h; cases dp; rfl
      | _ => cases h
    | _ => cases h
def dDGet (da db : En → Option Rs) (E : En) : Option Rs := match da E, db E with
  | some r, some rk => match r.at E, rk.key with
    | some (.dct _ kss), some k => match kix (kss.map (·.1)) k with
      | some i => match (kss.map (·.2))[i]? with
        | some s => r.kid i s
        | none => none
      | none => none
    | _, _ => none
  | _, _ => none
theorem p_dget (ha : EvP K n as ta da) (hb : EvP K n as tb db) : EvP K n as (tDGet ta tb) (dDGet da db) := by
  intro F H σ E fp L R r' e Q q
  unfold dDGet at e
  split at e
  · next r rk ea eb =>
    refine ha L R ea fun x F1 H1 f1 g1 r1 n1 o1 => hb L (R.grow g1) eb fun y F2 H2 f2 g2 r2 n2 o2 => ?_
    have R2 := (R.grow g1).grow g2
    have r1' := r1.grow (R.grow g1) g2
    have gg := (g1.seq0 g2).drop
    split at e
    · next l kss k es ek =>
      split at e
      · next i ei =>
        split at e
        · next s hs =>
          obtain ⟨fq, o⟩ := r1'.own R2 es
          obtain ⟨a, kvs, u, fq', rfl, hH, hk, rd, hkk, ll, _⟩ := o.dct_inv rfl
          obtain ⟨w, f, hw, ow⟩ := ll.nth hs
          refine ⟨a, w, rfl, .inl ⟨kvs, k, rd, r2.key ek, ?_⟩, ?_⟩
          · rw [valV_kix, hkk, ei]; exact hw.symm
          · exact q w F2 H2 [] gg (r1'.kid R2 es hH (by rw [hk]; exact hw) hs ow e) List.nodup_nil (fun _ m => nomatch m)
        · cases e
      · cases e
    · cases e
  · cases e
def nodupK : List Key → Bool
  | [] => true
  | k :: r => (kix r k).isNone && nodupK r
theorem kix_mem {k : Key} : ∀ {ks : List Key}, kix ks k = none → k ∉ ks
  | [], _, h => by simp at h
  | a :: r, e, h => by
    unfold kix at e
    split at e
    · cases e
    · next ne =>
      rcases List.mem_cons.mp h with z | z
      · exact ne z.symm
      · exact kix_mem (by cases hh : kix r k with | none => rfl | some i => rw [hh] at e; cases e) z
theorem nodupK_ok : ∀ {ks : List Key}, nodupK ks = true → ks.Nodup
  | [], _ => List.nodup_nil
  | k :: r, h => by
    simp only [nodupK, Bool.and_eq_true, Option.isNone_iff_eq_none] at h
    exact List.nodup_cons.mpr ⟨kix_mem h.1, nodupK_ok h.2⟩
def oDPut (k : Key) (t s : S) : Option (S × S) := match t with
  | .dct false kss => if nodupK (kss.map (·.1)) = true then if kss.length < 100000 then some (.dct false (putS kss k s), .dat .none) else none else none
  | _ => none
def rDPut (k : Key) (u y : V) (H : Hp) (Q : VK) : Prop := ∃ a H4, u = .ref a ∧ DPut H a (kV k) y H4 ∧ Q .non H4
theorem dct_write {a : Addr} {kvs : List (Key × V)} {kss : List (Key × S)} {f : List Addr} (hk : kvs.map (·.1) = kss.map (·.1)) (o : OwnL K F (upd H a (.dK kvs)) (kvs.map (·.2)) (kss.map (·.2)) f) : Own K F (upd H a (.dK kvs)) (.ref a) (.dct false kss) (a :: f) := by
  have := Own.node (K := K) (F := F) (H := upd H a (.dK kvs)) (s := .dct false kss) (ex := []) upd_same (show Head _ _ a (.dK kvs) (.dct false kss) [] from ⟨rfl, hk⟩) o
  simpa using this
theorem OwnL.repl : ∀ {vs : List V} {ss : List S} {fp : List Addr} {i : Nat} {y : V} {s : S} {fr : List Addr}, OwnL K F H vs ss fp → i < vs.length → Own K F H y s fr →
    ∃ f1 f2 g, OwnL K F H (vs.set i y) (ss.set i s) g ∧ g.Perm (fr ++ f2) ∧ fp.Perm (f1 ++ f2)
  | _, _, _, i, _, _, _, .nil, h, _ => by simp at h
  | _, _, _, 0, y, s, fr, .cons (fp := fa) (fq := fb) h t, _, o => ⟨fa, fb, _, .cons o t, List.Perm.refl _, List.Perm.refl _⟩
  | _, _, _, i + 1, y, s, fr, .cons (fp := fa) h t, hi, o => by
    obtain ⟨f1, f2, g, l, p1, p2⟩ := OwnL.repl (i := i) t (by simpa using hi) o
    refine ⟨f1, fa ++ f2, fa ++ g, .cons h l, ?_, ?_⟩
    · refine (List.Perm.append_left fa p1).trans ?_
      rw [← List.append_assoc, ← List.append_assoc]
      exact List.Perm.append_right _ List.perm_append_comm
    · refine (List.Perm.append_left fa p2).trans ?_
      rw [← List.append_assoc, ← List.append_assoc]
      exact List.Perm.append_right _ List.perm_append_comm
theorem nd_dput (k : Key) : Nd1 K (rDPut k) (oDPut k) := by
  intro F H u y t s t' c fp1 fr sub ot os nd of e Q q
  unfold oDPut at e
  split at e
  · next kss =>
    split at e
    · next hn =>
      split at e
      · next hl =>
        cases e
        obtain ⟨a, kvs, _, fq, rfl, _, _, _, hkk, l, z⟩ := ot.dct_inv rfl
        obtain ⟨hH, rfl⟩ := z rfl
        have na : a ∉ fr := fun m => (List.nodup_append.mp nd).2.2 a m a List.mem_cons_self rfl
        have nq : a ∉ fq := (List.nodup_cons.mp (List.nodup_append.mp nd).2.1).1
        have fa : F a = none := of a (List.mem_append_right _ List.mem_cons_self)
        have len : kvs.length = kss.length := by have := congrArg List.length hkk; simpa using this
        refine ⟨a, _, rfl, DPut.k hH (by rw [len, sizeLine_eq]; omega), ?_⟩
        rw [putK_kix y kvs (by rw [hkk]; exact nodupK_ok hn)]
        have g0 : Grow F H [a] F (upd H a (.dK (putS kvs k y))) [a] := Grow.write sub fa
        have fin : ∃ g, OwnL K F H ((putS kvs k y).map (·.2)) ((putS kss k s).map (·.2)) g ∧ (∀ b ∈ g, b ∈ fr ∨ b ∈ fq) ∧ g.Nodup := by
          unfold putS
          rw [hkk]
          have ndf := List.nodup_append.mp nd
          have ndq := (List.nodup_cons.mp ndf.2.1).2
          split
          · next i hi =>
            have hi' := kix_lt hi
            rw [List.length_map, ← len] at hi'
            obtain ⟨f1, f2, g, l2, p1, p2⟩ := l.repl (i := i) (by simpa using hi') os
            refine ⟨g, by rw [setSnd_snd, setSnd_snd]; exact l2, fun b m => ?_, p1.nodup_iff.mpr (List.nodup_append.mpr ⟨ndf.1, (List.nodup_append.mp (p2.nodup_iff.mp ndq)).2.1, fun b m c m2 e => ?_⟩)⟩
            · rcases List.mem_append.mp (p1.mem_iff.mp m) with m | m
              · exact .inl m
              · exact .inr (p2.mem_iff.mpr (List.mem_append_right _ m))
            · exact ndf.2.2 b m c (List.mem_cons_of_mem _ (p2.mem_iff.mpr (List.mem_append_right _ m2))) e
          · have l2 := l.append (OwnL.cons os .nil)
            rw [List.append_nil] at l2
            refine ⟨fq ++ fr, by simpa using l2, fun b m => (List.mem_append.mp m).symm, ?_⟩
            exact List.perm_append_comm.nodup_iff.mp (List.nodup_append.mpr ⟨ndf.1, ndq, fun b m c m2 e => ndf.2.2 b m c (List.mem_cons_of_mem _ m2) e⟩)
        obtain ⟨g, lg, hg, ng⟩ := fin
        have nag : a ∉ g := fun m => (hg a m).elim na nq
        refine q .non F _ [] (a :: g) (g0.wide (fun b m => by rw [List.mem_singleton.mp m]; exact List.mem_append_right _ List.mem_cons_self) fun b m => ?_) (dct_write (putK_nodup_map hkk) (lg.off sub fa nag)) (.dat .non) ?_ fun b m => ?_
        · left
          rw [List.nil_append] at m
          rcases List.mem_cons.mp m with rfl | m
          · exact List.mem_append_right _ List.mem_cons_self
          · exact (hg b m).elim (fun m => List.mem_append_left _ m) fun m => List.mem_append_right _ (List.mem_cons_of_mem _ m)
        · rw [List.nil_append]; exact List.nodup_cons.mpr ⟨nag, ng⟩
        · rw [List.nil_append] at m
          rcases List.mem_cons.mp m with rfl | m
          · exact fa
          · exact (hg b m).elim (fun m => of b (List.mem_append_left _ m)) fun m => of b (List.mem_append_right _ (List.mem_cons_of_mem _ m))
      · cases e
    · cases e
  · cases e
def stepAt (op : S → S → Option (S × S)) (E : En) (p : List Nat) (s : S) : Option Out := match eget E p with
  | some t => match op t s with
    | some (t', _) => some (.nx (ekill (eput E p t') p))
    | none => none
  | none => none
def dDPut (da db : En → Option Rs) (de : En → Option (S × En)) (E : En) : Option Out := match de E with
  | some (s, E1) => match da E1, db E1 with
    | some (.pl p), some rk => match rk.key with
      | some k => stepAt (oDPut k) E1 p s
      | none => none
    | _, _ => none
  | none => none
theorem s_dput (ha : EvP K n as ta da) (hb : EvP K n as tb db) (he : EvE K n as te de) : EvS K n as W (sDPut ta tb te) (dDPut da db de) := by
  intro F H σ E fp L R o e D g
  unfold dDPut at e
  split at e
  · next s E1 ee =>
    split at e
    · next p rk ea eb =>
      split at e
      · next k ek =>
        refine he L R ee fun v F1 H1 fr fp1 g1 R1 ov nd of => ha L R1 ea fun x F2 H2 f2 g2 r2 n2 o2 => hb L (R1.grow g2) eb fun y F3 H3 f3 g3 r3 n3 o3 => ?_
        have R3 := (R1.grow g2).grow g3
        have g23 : Grow F1 H1 [] F3 H3 [] := (g2.seq0 g3).drop
        have ov3 : Own K F3 H3 v s fr := ov.grow g23 fun _ _ m => nomatch m
        have of3 : ∀ a ∈ fr, F3 a = none := fun a m => by
          obtain ⟨o, eo⟩ := ov.there a m
          exact g23.off a (by rw [eo]; exact fun z => nomatch z) (fun z => nomatch z) (of a m)
        have r2' := r2.grow (R1.grow g2) g3
        unfold stepAt at e
        split at e
        · next t et =>
          split at e
          · next t' c eo =>
            cases e
            have ky := r3.key ek
            subst ky
            have gg : Grow F H fp F3 H3 (fr ++ fp1) := by
              have := g1.trans (g23.ours (fr ++ fp1))
              simpa using this
            have fin := mut1 (nd_dput k) R3 r2' ov3 nd of3 et eo (Q := fun _ H4 => D.nx σ H4) fun v F' H' fv fp' g4 R4 ov4 nd4 of4 => ?_
            · obtain ⟨a, H4, rfl, hp, hq⟩ := fin
              exact ⟨a, H4, rfl, hp, hq⟩
            · exact g σ F' H' fp' L ((gg.trans g4).less fun a m => List.mem_append_right _ m) R4
          · cases e
        · cases e
      · cases e
    · cases e
  · cases e
end Mv
namespace Mv
open PySem PySem.Spec PyProof.Rows L2
end Mv
namespace Mv
open PySem PySem.Spec PyProof.Rows L2
variable {K : PySem.W.Frag} {F F' F1 F2 F3 H H' H1 H2 H3 : Hp} {v u x y : V} {vs ws : List V} {s t : S} {ss tts : List S} {fp fq fr fp' fp1 fp2 f1 f2 : List Addr} {ρ as : Ro} {E E' : En} {n : Nat}
variable {te ta tb tc : TE} {d da db dc : En → Option Rs} {tr : TA} {dr : En → Option (List Rs)} {de df : En → Option (S × En)} {tt : TT} {dte : En → Option (Bool × En)}
mutual
theorem Own.dpIn (kF : ∀ b o, F b = some o → F' b = some o) : ∀ (s : S) {v : V} {fp : List Addr} {d : PyData}, Own K F H v s fp → (∀ a ∈ fp, ∀ o, H a = some o → F' a = some o) → s.toD = some d → Dq K F' v d
  | .dat d, v, fp, d', o, k, e => by
    simp only [S.toD, Option.some.injEq] at e
    subst e
    exact Dq.mono kF (o.dat_inv rfl).1
  | .lst xs, v, fp, d', o, k, e => by
    simp only [S.toD, Option.map_eq_some_iff] at e
    obtain ⟨ds, e, rfl⟩ := e
    obtain ⟨a, vs, fq, rfl, h, l, rfl⟩ := o.lst_inv rfl
    exact .lst (.inl (.inl (k a List.mem_cons_self _ h))) (Own.dpsIn kF xs l (fun b m => k b (List.mem_cons_of_mem _ m)) e)
  | .con _, _, _, _, _, _, e => by simp [S.toD] at e
  | .dct _ _, _, _, _, _, _, e => by simp [S.toD] at e
  | .ins _ _, _, _, _, _, _, e => by simp [S.toD] at e
theorem Own.dpsIn (kF : ∀ b o, F b = some o → F' b = some o) : ∀ (ss : List S) {vs : List V} {fp : List Addr} {ds : List PyData}, OwnL K F H vs ss fp → (∀ a ∈ fp, ∀ o, H a = some o → F' a = some o) → S.toDs ss = some ds → DqAll K F' vs ds
  | [], vs, fp, ds, o, k, e => by
    simp only [S.toDs, Option.some.injEq] at e
    subst e
    cases o
    exact .nil
  | s :: ss, vs, fp, ds, o, k, e => by
    cases o with
    | cons a l =>
      simp only [S.toDs] at e
      split at e
      · next d ds' e1 e2 =>
        cases e
        exact .cons (Own.dpIn kF s a (fun b m => k b (List.mem_append_left _ m)) e1) (Own.dpsIn kF ss l (fun b m => k b (List.mem_append_right _ m)) e2)
      · cases e
end
theorem Rep.seal {d : PyData} (R : Rep K F H ρ E fp) (ov : Own K F H v s fr) (nd : (fr ++ fp).Nodup) (of : ∀ a ∈ fr, F a = none) (e : s.toD = some d) :
    ∃ F', Rep K F' H ρ E fp ∧ Dq K F' v d ∧ Grow F H (fr ++ fp) F' H fp := by
  have ff : ∀ b o, F b = some o → (fun a => if a ∈ fr then H a else F a) b = some o := fun b o e => by
    dsimp only
    rw [if_neg fun m => by rw [of b m] at e; cases e]; exact e
  have sub : ∀ b o, (fun a => if a ∈ fr then H a else F a) b = some o → H b = some o := fun b o e => by
    dsimp only at e
    split at e
    · exact e
    · exact R.sub b o e
  refine ⟨fun a => if a ∈ fr then H a else F a, ⟨R.core.frame ff sub fun _ _ _ h => h, sub, R.nd, fun a m => ?_, R.bor⟩, Own.dpIn ff s ov (fun a m o h => ?_) e, ⟨ff, sub, fun _ _ h _ => h, fun a m => .inl (List.mem_append_right _ m), fun a h0 m e => ?_⟩⟩
  · have : a ∉ fr := fun m2 => (List.nodup_append.mp nd).2.2 a m2 a m rfl
    rw [if_neg this]; exact R.off a m
  · rw [if_pos m]; exact h
  · rw [if_neg fun m2 => m (List.mem_append_left _ m2)]; exact e
def eSeal (de : En → Option (S × En)) (E : En) : Option (S × En) := match de E with
  | some (s, E1) => match s.toD with
    | some d => some (.dat d, E1)
    | none => none
  | none => none
theorem e_seal (h : EvE K n as te de) : EvE K n as te (eSeal de) := by
  intro F H σ E fp L R s0 E0 e Q q
  unfold eSeal at e
  split at e
  · next s E1 ee =>
    split at e
    · next d ed =>
      cases e
      refine h L R ee fun v F1 H1 fr fp1 g1 R1 ov nd of => ?_
      obtain ⟨F2, R2, dp, g2⟩ := R1.seal ov nd of ed
      exact q v F2 H1 [] fp1 (by simpa using g1.trans g2) R2 (.dat dp) (by simpa using R2.nd) (fun _ m => nomatch m)
    · cases e
  · cases e
theorem Rep.push {σ : L2.St} (R : Rep K F H (σ ++ as) E fp) (ov : Own K F H v s fr) (nd : (fr ++ fp).Nodup) (of : ∀ a ∈ fr, F a = none) : Rep K F H (σ ++ (as ++ [some v])) (E ++ [.own s]) (fr ++ fp) := by
  obtain ⟨f, l, pm⟩ := R.core.own
  have len := R.core.len
  have eg : ∀ q, (eget E q).isSome = true → eget (E ++ [Sl.own s]) q = eget E q := by
    intro q hq
    obtain ⟨t, ht⟩ := Option.isSome_iff_exists.mp hq
    obtain ⟨i, r, s, rfl, ei, _⟩ := eget_some ht
    have hi := (List.getElem?_eq_some_iff.mp ei).1
    simp only [eget, List.getElem?_append_left hi]
  have fo : ∀ q, (∃ w, followE H (σ ++ as) q = some w) → followE H (σ ++ (as ++ [some v])) q = followE H (σ ++ as) q := by
    intro q ⟨w, hw⟩
    cases q with
    | nil => rfl
    | cons i q =>
      unfold followE at hw ⊢
      dsimp only at hw ⊢
      cases e : (σ ++ as)[i]? with
      | none => rw [e] at hw; cases hw
      | some z =>
        have hi := (List.getElem?_eq_some_iff.mp e).1
        rw [← List.append_assoc, List.getElem?_append_left hi, e]
  refine ⟨⟨by rw [← List.append_assoc, List.length_append, List.length_append, len]; rfl, ⟨f ++ fr, ?_, ?_⟩, fun i w h => ?_⟩, R.sub, nd, fun a m => (List.mem_append.mp m).elim (of a) (R.off a), fun i q h => ?_⟩
  · rw [← List.append_assoc, rootS_app len, rootV_app]
    have := l.append (OwnL.cons (K := K) (F := F) (H := H) ov .nil)
    simpa [rootV, rootS, slS] using this
  · exact (List.Perm.append_left fr pm).trans List.perm_append_comm
  · by_cases hi : i < E.length
    · rw [List.getElem?_append_left hi] at h
      obtain ⟨z, hw⟩ := R.core.set i w h
      exact ⟨z, by rw [← List.append_assoc, List.getElem?_append_left (by rw [← len]; exact hi)]; exact hw⟩
    · rw [List.getElem?_append_right (by omega)] at h
      cases hk : i - E.length with
      | zero => exact ⟨v, by rw [← List.append_assoc, List.getElem?_append_right (by rw [← len]; omega), ← len, hk]; rfl⟩
      | succ k => rw [hk] at h; cases h
  · by_cases hi : i < E.length
    · rw [List.getElem?_append_left hi] at h
      obtain ⟨w, e1, e2, e3⟩ := R.bor i q h
      exact ⟨w, by rw [← List.append_assoc, List.getElem?_append_left (by rw [← len]; exact hi)]; exact e1, by rw [fo q ⟨w, e2⟩]; exact e2, by rw [eg q e3]; exact e3⟩
    · rw [List.getElem?_append_right (by omega)] at h
      cases hk : i - E.length with
      | zero => rw [hk] at h; cases h
      | succ k => rw [hk] at h; cases h
def rdP (E2 : En) (i : Nat) : Option (Option Rs) := match E2.getLast? with
  | some (.bor p) => match eget E2 p with
    | some (.lst ss) => match ss[i]? with
      | some s => ((Rs.pl p).kid i s).map some
      | none => some none
    | _ => none
  | _ => none
theorem rdP_ok {σ : L2.St} {a : Addr} {ex : List V} (hx : ex.getLast? = some (.ref a)) (R : Rep K F H (σ ++ (as ++ ex.map some)) E fp) (i : Nat) :
    (∀ r, rdP E i = some (some r) → (Itl K a).go i H ∧ ∀ x H', (Itl K a).yld i H x H' → H' = H ∧ RsAt K F H (σ ++ (as ++ ex.map some)) E x r []) ∧ (rdP E i = some none → (Itl K a).stop i H) := by
  have len := R.core.len
  have ex1 : ex ≠ [] := fun z => by rw [z] at hx; cases hx
  have lastv : (σ ++ (as ++ ex.map some))[E.length - 1]? = some (some (.ref a)) := by
    have hm : (ex.map some).getLast? = some (some (V.ref a)) := by rw [List.getLast?_map, hx]; rfl
    have : (σ ++ (as ++ ex.map some)).getLast? = some (some (V.ref a)) := by
      rw [List.getLast?_append, List.getLast?_append, hm]; rfl
    rw [List.getLast?_eq_getElem?, ← len] at this
    exact this
  have key : ∀ p2 ss2, E.getLast? = some (Sl.bor p2) → eget E p2 = some (.lst ss2) → ∃ xs2 f2, H a = some (.lst xs2) ∧ OwnL K F H xs2 ss2 f2 ∧ RsAt K F H (σ ++ (as ++ ex.map some)) E (.ref a) (.pl p2) [] := by
    intro p2 ss2 hl hg
    rw [List.getLast?_eq_getElem?] at hl
    obtain ⟨w, e1, e2, e3⟩ := R.bor _ p2 hl
    rw [lastv] at e1
    cases e1
    have at2 : RsAt K F H (σ ++ (as ++ ex.map some)) E (.ref a) (.pl p2) [] := ⟨rfl, e2, e3⟩
    obtain ⟨f2, ow2⟩ := at2.own R (show (Rs.pl p2).at E = some (.lst ss2) from hg)
    obtain ⟨a', xs2, f3, ea, hH2, l2, _⟩ := ow2.lst_inv rfl
    cases ea
    exact ⟨xs2, f3, hH2, l2, at2⟩
  unfold rdP
  refine ⟨fun r hr => ?_, fun hr => ?_⟩
  · split at hr
    · next p2 hl =>
      split at hr
      · next ss2 hg =>
        obtain ⟨xs2, f2, hH2, l2, at2⟩ := key p2 ss2 hl hg
        split at hr
        · next s hs =>
          obtain ⟨r', hr', er⟩ := Option.map_eq_some_iff.mp hr
          cases er
          obtain ⟨w, f, hw, ow⟩ := l2.nth hs
          have hq2 : SqL K H a xs2 := .inl (.inl hH2)
          exact ⟨⟨xs2, w, hq2, hw⟩, fun x H' hy => ⟨hy.1, by rw [Option.some.inj ((hy.2 xs2 hq2).symm.trans hw)]; exact at2.kid R hg hH2 hw hs ow hr'⟩⟩
        · cases hr
      · cases hr
    · cases hr
  · split at hr
    · next p2 hl =>
      split at hr
      · next ss2 hg =>
        obtain ⟨xs2, f2, hH2, l2, at2⟩ := key p2 ss2 hl hg
        split at hr
        · next s hs =>
          cases hk : (Rs.pl p2).kid i s with
          | none => rw [hk] at hr; cases hr
          | some r' => rw [hk] at hr; cases hr
        · next hs => exact ⟨xs2, .inl (.inl hH2), by rw [l2.length]; exact List.getElem?_eq_none_iff.mp hs⟩
      · cases hr
    · cases hr
def iLstE (de : En → Option (S × En)) (E : En) : Option Src := match de E with
  | some (.lst ss, E1) => some ⟨E1, [.own (.lst ss), .bor [E1.length]], rdP, ss.length⟩
  | some (.dat (.list ds), E1) => some ⟨E1, [], rdD ds, ds.length⟩
  | _ => none
theorem i_lstE (h : EvE K n as te de) : EvI K n as (iList K te) (iLstE de) := by
  intro F H σ E fp L R c e Rr q
  unfold iLstE at e
  split at e
  · next ss E1 ee =>
    cases e
    refine h L R ee fun v F1 H1 fr fp1 g1 R1 ov nd of => ?_
    obtain ⟨a, xs, fq, rfl, hH, l, hf⟩ := ov.lst_inv rfl
    have R2 := R1.push ov nd of
    have len := R1.core.len
    have fo : followE H1 (σ ++ (as ++ [some (V.ref a)])) [E1.length] = some (.ref a) := by
      simp only [followE]
      rw [← List.append_assoc, List.getElem?_append_right (by rw [len]; exact Nat.le_refl _), len]
      simp [follow_nil]
    have eg : eget (E1 ++ [Sl.own (.lst ss)]) [E1.length] = some (.lst ss) := by
      simp [eget, S.get_nil]
    have R3 := Rep.hold (as := as ++ [some (V.ref a)]) (p := [E1.length]) R2 fo (by rw [eg]; rfl)
    refine ⟨a, rfl, ⟨xs, .inl (.inl hH)⟩, q _ F1 H1 [.ref a, .ref a] (fr ++ fp1) g1 (by simpa using R3) rfl fun F2 H2 σ2 E2 fp2 L2 g2 R2 i => rdP_ok rfl R2 i⟩
  · next ds E1 ee =>
    cases e
    refine h L R ee fun v F1 H1 fr fp1 g1 R1 ov nd of => ?_
    obtain ⟨a, xs, rfl, hq, da⟩ := Mv.Dq.list_inv (ov.dat_inv rfl).1
    refine ⟨a, rfl, ⟨xs, SqL.mono R1.sub hq⟩, q _ F1 H1 [] fp1 (g1.less fun a m => List.mem_append_right _ m) (by simpa using R1) rfl fun F2 H2 σ2 E2 fp2 L2 g2 R2 i => ?_⟩
    have hq2 : SqL K H2 a xs := SqL.mono g2.sub (SqL.mono g2.f hq)
    have da2 := Mv.DqAll.mono g2.f da
    refine ⟨fun r hr => ?_, fun hr => ⟨xs, hq2, by rw [Mv.DqAll.len da]; exact rdD_stop (E := E2) hr⟩⟩
    obtain ⟨w, hw, ar⟩ := rdD_go (K := K) (H := H2) (E := E2) (ρ := σ2 ++ (as ++ ([] : List V).map some)) da2 hr
    exact ⟨⟨xs, w, hq2, hw⟩, fun x H' hy => ⟨hy.1, by rw [Option.some.inj ((hy.2 xs hq2).symm.trans hw)]; exact ar⟩⟩
  · cases e
variable {xs : List V} {c : S}
variable {tk tv td : TE} {dk dv : En → Option Rs} {ds : List PyData} {Q : VK}
def Mk (K : PySem.W.Frag) (F H : Hp) (c : S) (Q : VK) : Prop := ∀ v F' H' fr, Grow F H [] F' H' fr → Own K F' H' v c fr → fr.Nodup → (∀ a ∈ fr, F' a = none) → Q v H'
theorem fresh_none (sub : ∀ a o, F a = some o → H a = some o) {p : Addr} (hp : H p = none) : F p = none := by
  cases e : F p with
  | none => rfl
  | some o => rw [sub p o e] at hp; cases hp
theorem mk_lst (sub : ∀ a o, F a = some o → H a = some o) (l : OwnL K F H xs ss []) (m : Mk K F H (.lst ss) Q) : ∀ p, H p = none → Q (.ref p) (upd H p (.lst xs)) := fun p hp => by
  have g : Grow F H [] F (upd H p (.lst xs)) [p] := Grow.alloc sub hp
  refine m _ F _ [p] g (lst_write (l.frame (fun _ _ h => h) g.sub fun _ z => nomatch z)) (by simp) fun a z => ?_
  rw [List.mem_singleton.mp z]; exact fresh_none sub hp
theorem mk_tup (sub : ∀ a o, F a = some o → H a = some o) (l : DqAll K F xs ds) (m : Mk K F H (.dat (.tuple ds)) Q) : ∀ (p : Addr) (ob : Obj), H p = none → ob.dict = none → Q (.ref p) (upd H p (.frz ob (.tup xs))) := fun p ob hp hd => by
  have g : Grow F H [] (upd F p (.frz ob (.tup xs))) (upd H p (.frz ob (.tup xs))) [] := Grow.share sub hp
  exact m _ _ _ [] g (.dat (.tup (.inl ⟨ob, upd_same, hd⟩) (DqAll.mono g.f l))) List.nodup_nil (fun _ z => nomatch z)
theorem mk_dat (sub : ∀ a o, F a = some o → H a = some o) {d : PyData} (l : Dq K F v d) (m : Mk K F H (.dat d) Q) : Q v H := m v F H [] (.refl sub []) (.dat l) List.nodup_nil (fun _ z => nomatch z)
theorem dats_own : ∀ {xs : List V} {ds : List PyData}, DqAll K F xs ds → OwnL K F H xs (ds.map S.dat) []
  | _, _, .nil => .nil
  | _, _, .cons a t => OwnL.cons (fp := []) (.dat a) (dats_own t)
theorem datsS_dats (ds : List PyData) : datsS (ds.map S.dat) = some ds := by
  induction ds with
  | nil => rfl
  | cons d ds ih => simp [datsS, ih]
def S.seqL : S → Option (List PyData)
  | .dat (.list ds) => some ds
  | .lst ss => datsS ss
  | _ => none
def S.seqT : S → Option (List PyData)
  | .dat (.tuple ds) => some ds
  | _ => none
theorem Own.sqL (sub : ∀ a o, F a = some o → H a = some o) (o : Own K F H v s fp) (e : s.seqL = some ds) : ∃ a xs, v = .ref a ∧ SqL K H a xs ∧ DqAll K F xs ds := by
  cases s with
  | dat d => cases d with
    | list ds' =>
      cases e
      obtain ⟨a, xs, rfl, hq, da⟩ := Mv.Dq.list_inv (o.dat_inv rfl).1
      exact ⟨a, xs, rfl, SqL.mono sub hq, da⟩
    | _ => cases e
  | lst ss =>
    obtain ⟨a, xs, fq, rfl, hH, l, hf⟩ := o.lst_inv rfl
    obtain ⟨da, _⟩ := datsS_dp l e
    exact ⟨a, xs, rfl, .inl (.inl hH), da⟩
  | _ => cases e
theorem Own.sqT (sub : ∀ a o, F a = some o → H a = some o) (o : Own K F H v s fp) (e : s.seqT = some ds) : ∃ a xs, v = .ref a ∧ SqT K H a xs ∧ DqAll K F xs ds := by
  cases s with
  | dat d => cases d with
    | tuple ds' =>
      cases e
      obtain ⟨a, xs, rfl, hq, da⟩ := Mv.Dq.tuple_inv (o.dat_inv rfl).1
      exact ⟨a, xs, rfl, SqT.mono sub hq, da⟩
    | _ => cases e
  | _ => cases e
theorem Own.sq (sub : ∀ a o, F a = some o → H a = some o) (o : Own K F H v s fp) (e : (s.seqL <|> s.seqT) = some ds) : ∃ a xs, v = .ref a ∧ (SqL K H a xs ∨ SqT K H a xs) ∧ DqAll K F xs ds := by
  cases h : s.seqL with
  | some ds' =>
    rw [h] at e
    cases e
    obtain ⟨p, xs, rfl, hq, da⟩ := o.sqL sub h
    exact ⟨p, xs, rfl, .inl hq, da⟩
  | none =>
    rw [h] at e
    obtain ⟨p, xs, rfl, hq, da⟩ := o.sqT sub (show s.seqT = some ds from e)
    exact ⟨p, xs, rfl, .inr hq, da⟩
def RvS2 (K : PySem.W.Frag) (r : R2) (f : S → S → Option S) : Prop :=
  ∀ {F H : Hp} {x y : V} {a b c : S} {f1 f2 : List Addr}, (∀ a o, F a = some o → H a = some o) → Own K F H x a f1 → Own K F H y b f2 → f a b = some c → ∀ {Q : VK}, Mk K F H c Q → r x y H Q
def dOpS (f : S → S → Option S) (da db : En → Option Rs) (E : En) : Option Rs := match da E, db E with
  | some a, some b => match a.at E, b.at E with
    | some s, some t => (f s t).map .val
    | _, _ => none
  | _, _ => none
theorem p_opS {r : R2} {f : S → S → Option S} (hr : RvS2 K r f) (ha : EvP K n as ta da) (hb : EvP K n as tb db) : EvP K n as (tOp r ta tb) (dOpS f da db) := by
  intro F H σ E fp L R r' e Q q
  unfold dOpS at e
  split at e
  · next a b ea eb =>
    split at e
    · next s t es et =>
      obtain ⟨c, ec, rfl⟩ := Option.map_eq_some_iff.mp e
      refine ha L R ea fun x F1 H1 f1 g1 r1 n1 o1 => hb L (R.grow g1) eb fun y F2 H2 f2 g2 r2 n2 o2 => ?_
      have R2 := (R.grow g1).grow g2
      obtain ⟨k1, w1⟩ := (r1.grow (R.grow g1) g2).own R2 es
      obtain ⟨k2, w2⟩ := r2.own R2 et
      exact hr R2.sub w1 w2 ec fun v F' H' fr g o nd of => q v F' H' fr (by simpa using (g1.seq0 g2).drop.seq0 g) o nd of
    · cases e
  · cases e
def fCatT : S → S → Option S
  | .dat (.tuple a), .dat (.tuple b) => if a.length + b.length < 100000 then some (.dat (.tuple (a ++ b))) else none
  | _, _ => none
theorem DqAll.append : ∀ {vs ws : List V} {ds es : List PyData}, DqAll K F vs ds → DqAll K F ws es → DqAll K F (vs ++ ws) (ds ++ es)
  | _, _, _, _, .nil, h => h
  | _, _, _, _, .cons a t, h => .cons a (Mv.DqAll.append t h)
theorem rv_catT : RvS2 K (rCatF K) fCatT := by
  intro F H x y a b c f1 f2 sub o1 o2 e Q m
  unfold fCatT at e
  split at e
  · next a b =>
    split at e
    · next hl =>
      cases e
      have d1 := (o1.dat_inv rfl).1
      have d2 := (o2.dat_inv rfl).1
      obtain ⟨p, xs, rfl, h1, l1⟩ := Mv.Dq.tuple_inv d1
      obtain ⟨p', ys, rfl, h2, l2⟩ := Mv.Dq.tuple_inv d2
      refine ⟨p, p', xs, ys, rfl, rfl, SqT.mono sub h1, SqT.mono sub h2, by rw [Mv.DqAll.len l1, Mv.DqAll.len l2, sizeLine_eq]; omega, fun z => ?_, fun _ z => ?_, fun _ _ => mk_tup sub (Mv.DqAll.append l1 l2) m⟩
      · subst z
        cases l1
        exact mk_dat sub d2 m
      · subst z
        cases l2
        rw [List.append_nil] at m
        exact mk_dat sub d1 m
    · cases e
  · cases e
def cutD {α : Type} (xs : List α) (lo hi : Option Int) : List α := (xs.drop (HT.sIx xs.length 0 lo)).take (HT.sIx xs.length xs.length hi - HT.sIx xs.length 0 lo)
theorem DqAll.drop : ∀ (k : Nat) {vs : List V} {ds : List PyData}, DqAll K F vs ds → DqAll K F (vs.drop k) (ds.drop k)
  | 0, _, _, h => by simpa using h
  | k + 1, _, _, .nil => by simpa using DqAll.nil
  | k + 1, _, _, .cons _ t => by simpa using Mv.DqAll.drop k t
theorem DqAll.take : ∀ (k : Nat) {vs : List V} {ds : List PyData}, DqAll K F vs ds → DqAll K F (vs.take k) (ds.take k)
  | 0, _, _, h => by simpa using DqAll.nil
  | k + 1, _, _, .nil => by simpa using DqAll.nil
  | k + 1, _, _, .cons a t => by simpa using DqAll.cons a (Mv.DqAll.take k t)
theorem DqAll.cut (l : DqAll K F xs ds) (lo hi : Option Int) : DqAll K F (cutV xs lo hi) (cutD ds lo hi) := by
  unfold cutV cutD
  rw [Mv.DqAll.len l]
  exact Mv.DqAll.take _ (Mv.DqAll.drop _ l)
def EvO (K : PySem.W.Frag) (n : Nat) (as : Ro) (t : TO) (d : En → Option (Option Int)) : Prop :=
  ∀ {F H : Hp} {σ : L2.St} {E : En} {fp : List Addr}, σ.length = n → Rep K F H (σ ++ as) E fp → ∀ {o : Option Int}, d E = some o → ∀ {Q : Option Int → Hp → Prop},
    (∀ F' H', Grow F H [] F' H' [] → Q o H') → t σ H Q
def dNoPart (_ : En) : Option (Option Int) := some none
def dPart (d : En → Option Rs) (E : En) : Option (Option Int) := match d E with
  | some (.val (.dat (.int i))) => some (some i)
  | _ => none
theorem p_noPart : EvO K n as tNoPart dNoPart := by
  intro F H σ E fp L R o e Q q
  cases e
  exact q F H (.refl R.sub [])
theorem p_part (h : EvP K n as te d) : EvO K n as (tPart te) (dPart d) := by
  intro F H σ E fp L R o e Q q
  unfold dPart at e
  split at e
  · next i ei =>
    cases e
    refine h L R ei fun v F1 H1 f1 g1 a1 n1 o1 => ?_
    cases (Own.dat_inv (show Own K F1 H1 v _ f1 from a1) rfl).1
    exact ⟨i, rfl, q F1 H1 g1.drop⟩
  · cases e
def RvSl (K : PySem.W.Frag) (r : V → Option Int → Option Int → Hp → VK → Prop) (f : S → Option Int → Option Int → Option S) : Prop :=
  ∀ {F H : Hp} {x : V} {a c : S} {lo hi : Option Int} {f1 : List Addr}, (∀ a o, F a = some o → H a = some o) → Own K F H x a f1 → f a lo hi = some c → ∀ {Q : VK}, Mk K F H c Q → r x lo hi H Q
def dSl (f : S → Option Int → Option Int → Option S) (d : En → Option Rs) (dl dh : En → Option (Option Int)) (E : En) : Option Rs := match d E, dl E, dh E with
  | some r, some l, some h => match r.at E with
    | some s => (f s l h).map .val
    | none => none
  | _, _, _ => none
theorem p_slice {r : V → Option Int → Option Int → Hp → VK → Prop} {f : S → Option Int → Option Int → Option S} {tl th : TO} {dl dh : En → Option (Option Int)} (hr : RvSl K r f) (h : EvP K n as te d) (hl : EvO K n as tl dl) (hh : EvO K n as th dh) : EvP K n as (tSl r te tl th) (dSl f d dl dh) := by
  intro F H σ E fp L R r' e Q q
  unfold dSl at e
  split at e
  · next r0 l h0 er el eh =>
    split at e
    · next s es =>
      obtain ⟨c, ec, rfl⟩ := Option.map_eq_some_iff.mp e
      refine h L R er fun x F1 H1 f1 g1 r1 n1 o1 => hl L (R.grow g1) el fun F2 H2 g2 => hh L ((R.grow g1).grow g2) eh fun F3 H3 g3 => ?_
      have R3 := ((R.grow g1).grow g2).grow g3
      obtain ⟨k1, w1⟩ := ((r1.grow (R.grow g1) g2).grow ((R.grow g1).grow g2) g3).own R3 es
      exact hr R3.sub w1 ec fun v F' H' fr g o nd of => q v F' H' fr (by simpa using ((g1.seq0 g2).drop.seq0 g3).drop.seq0 g) o nd of
    · cases e
  · cases e
def fSlL (s : S) (lo hi : Option Int) : Option S := (s.seqL).map fun ds => .lst ((cutD ds lo hi).map S.dat)
theorem rv_slL : RvSl K (rSlL K) fSlL := by
  intro F H x a c lo hi f1 sub o e Q m
  obtain ⟨ds, hd, rfl⟩ := Option.map_eq_some_iff.mp e
  obtain ⟨p, xs, rfl, hq, da⟩ := o.sqL sub hd
  exact ⟨p, xs, rfl, hq, mk_lst sub (dats_own (Mv.DqAll.cut da lo hi)) m⟩
def fSlT (s : S) (lo hi : Option Int) : Option S := (s.seqT).map fun ds => .dat (.tuple (cutD ds lo hi))
theorem cutD_all {α : Type} {xs : List α} {lo hi : Option Int} (h : HT.sIx xs.length 0 lo = 0 ∧ HT.sIx xs.length xs.length hi = xs.length) : cutD xs lo hi = xs := by
  unfold cutD
  rw [h.1, h.2]
  simp
theorem rv_slT : RvSl K (rSlF K) fSlT := by
  intro F H x a c lo hi f1 sub o e Q m
  obtain ⟨ds, hd, rfl⟩ := Option.map_eq_some_iff.mp e
  have dp : Dq K F x (.tuple ds) := by
    cases a with
    | dat d => cases d with
      | tuple ds' => cases hd; exact (o.dat_inv rfl).1
      | _ => cases hd
    | _ => cases hd
  obtain ⟨p, xs, rfl, hq, da⟩ := Mv.Dq.tuple_inv dp
  refine ⟨p, xs, rfl, SqT.mono sub hq, fun z => ?_, fun _ => mk_tup sub (Mv.DqAll.cut da lo hi) m⟩
  rw [cutD_all (by rw [← Mv.DqAll.len da]; exact z)] at m
  exact mk_dat sub dp m
inductive OwnE (K : PySem.W.Frag) (F H : Hp) : List V → List S → Prop
  | nil : OwnE K F H [] []
  | cons {v : V} {vs : List V} {s : S} {ss : List S} {f : List Addr} : Own K F H v s f → OwnE K F H vs ss → OwnE K F H (v :: vs) (s :: ss)
def atAll (E : En) : List Rs → Option (List S)
  | [] => some []
  | r :: rs => match r.at E, atAll E rs with
    | some s, some ss => some (s :: ss)
    | _, _ => none
theorem RsAll.owns {rs : List Rs} (R : Rep K F H ρ E fp) (a : RsAll K F H ρ E vs rs fr) (h : atAll E rs = some ss) : OwnE K F H vs ss := by
  induction a generalizing ss with
  | nil => cases h; exact .nil
  | @cons v vs r rs f g a t ih =>
    simp only [atAll] at h
    split at h
    · next d ds' e1 e2 =>
      cases h
      obtain ⟨f, o⟩ := a.own R e1
      exact .cons o (ih e2)
    · cases h
def RvSC (K : PySem.W.Frag) (r : List V → Hp → VK → Prop) (f : List S → Option S) : Prop :=
  ∀ {F H : Hp} {vs : List V} {ss : List S} {c : S}, (∀ a o, F a = some o → H a = some o) → OwnE K F H vs ss → f ss = some c → ∀ {Q : VK}, Mk K F H c Q → r vs H Q
def dCS (f : List S → Option S) (dr : En → Option (List Rs)) (E : En) : Option Rs := match dr E with
  | some rs => match atAll E rs with
    | some ss => (f ss).map .val
    | none => none
  | none => none
theorem p_cs {r : List V → Hp → VK → Prop} {f : List S → Option S} (hr : RvSC K r f) (h : EvA K n as tr dr) : EvP K n as (tCB r tr) (dCS f dr) := by
  intro F H σ E fp L R r1 e Q q
  unfold dCS at e
  split at e
  · next rs er =>
    split at e
    · next ss es =>
      obtain ⟨c, ec, rfl⟩ := Option.map_eq_some_iff.mp e
      refine h L R er fun vs F1 H1 f1 g1 a1 n1 o1 => hr (R.grow g1).sub (a1.owns (R.grow g1) es) ec fun v F' H' fr g o nd of => q v F' H' fr (by simpa using g1.drop.seq0 g) o nd of
    · cases e
  · cases e
def eCS (f : List S → Option S) (d : En → Option (S × En)) (E : En) : Option (S × En) := match d E with
  | some (s, E') => (f [s]).map (·, E')
  | none => none
theorem e_cs1 {r : List V → Hp → VK → Prop} {f : List S → Option S} (hr : RvSC K r f) (h : EvE K n as te de) : EvE K n as (tCB r (tCons te tNil)) (eCS f de) := by
  intro F H σ E fp L R s E' e Q q
  unfold eCS at e
  split at e
  · next s1 E1 ed =>
    obtain ⟨c, ec, e2⟩ := Option.map_eq_some_iff.mp e
    cases e2
    refine h L R ed fun v F1 H1 fr fp1 g1 R1 o1 nd1 of1 => hr R1.sub (.cons o1 .nil) ec fun w F' H' f2 g o nd of => ?_
    have R2 := R1.grow g
    exact q w F' H' f2 fp1 ((g1.less fun a m => List.mem_append_right _ m).trans (g.ours fp1)) R2 o (R1.apart_new g nd) of
  · cases e
def fList : List S → Option S
  | [s] => match (s.seqL <|> s.seqT) with
    | some ds => some (.lst (ds.map S.dat))
    | none => none
  | _ => none
theorem OwnE.one (o : OwnE K F H vs [s]) : ∃ v f, vs = [v] ∧ Own K F H v s f := by
  cases o with
  | cons a t => cases t; exact ⟨_, _, rfl, a⟩
theorem rc_list : RvSC K (fun xs H Q => ∃ p ys, xs = [.ref p] ∧ (SqL K H p ys ∨ SqT K H p ys) ∧ ∀ l, H l = none → Q (.ref l) (upd H l (.lst ys))) fList := by
  intro F H vs ss c sub o e Q m
  unfold fList at e
  split at e
  · next s =>
    split at e
    · next ds hd =>
      cases e
      obtain ⟨v, f, rfl, o'⟩ := o.one
      clear o
      have o := o'
      obtain ⟨p, xs, rfl, hq, da⟩ := o.sq sub hd
      exact ⟨p, xs, rfl, hq, mk_lst sub (dats_own da) m⟩
    · cases e
  · cases e
def fTuple : List S → Option S
  | [s] => match (s.seqL <|> s.seqT) with
    | some ds => some (.dat (.tuple ds))
    | none => none
  | _ => none
theorem rc_tuple : RvSC K (rTupQ K) fTuple := by
  intro F H vs ss c sub o e Q m
  unfold fTuple at e
  split at e
  · next s =>
    split at e
    · next ds hd =>
      cases e
      obtain ⟨v, f, rfl, o'⟩ := o.one
      clear o
      have o := o'
      cases h : s.seqL with
      | some ds' =>
        rw [h] at hd
        cases hd
        obtain ⟨p, xs, rfl, hq, da⟩ := o.sqL sub h
        exact ⟨p, xs, rfl, .inl ⟨hq, mk_tup sub da m⟩⟩
      | none =>
        rw [h] at hd
        have h2 : s.seqT = some ds := hd
        have dp : Dq K F v (.tuple ds) := by
          cases s with
          | dat d => cases d with
            | tuple ds' => cases h2; exact (o.dat_inv rfl).1
            | _ => cases h2
          | _ => cases h2
        obtain ⟨p, xs, rfl, hq, da⟩ := Mv.Dq.tuple_inv dp
        exact ⟨p, xs, rfl, .inr ⟨SqT.mono sub hq, mk_dat sub dp m⟩⟩
    · cases e
  · cases e
def sortU (ns : List Int) : List Int := ns.mergeSort fun a b => decide (a ≤ b)
theorem sortU_uniq {ns ns' : List Int} (p : ns'.Perm ns) (h : ns'.Pairwise (· ≤ ·)) : ns' = sortU ns := by
  refine List.Perm.eq_of_pairwise (le := (· ≤ ·)) (fun a b _ _ h1 h2 => Int.le_antisymm h1 h2) h ?_ (p.trans (List.mergeSort_perm ns _).symm)
  have := List.pairwise_mergeSort (le := fun a b : Int => decide (a ≤ b)) (fun a b c h1 h2 => by simp only [decide_eq_true_eq] at *; omega) (fun a b => by simp only [Bool.or_eq_true, decide_eq_true_eq]; omega) ns
  exact this.imp fun h => of_decide_eq_true h
def fSorted : List S → Option S
  | [s] => match s.seqL with
    | some ds => (intsD ds).map fun ns => .lst ((sortU ns).map fun i => .dat (.int i))
    | none => none
  | _ => none
theorem ints_own (ns : List Int) : OwnL K F H (ns.map V.int) (ns.map fun i => S.dat (.int i)) [] := by
  induction ns with
  | nil => exact .nil
  | cons a r ih => exact .cons (fp := []) (.dat (.int a)) ih
theorem rc_sorted : RvSC K (rSortedI K) fSorted := by
  intro F H vs ss c sub o e Q m
  unfold fSorted at e
  split at e
  · next s =>
    split at e
    · next ds hd =>
      obtain ⟨ns, hn, rfl⟩ := Option.map_eq_some_iff.mp e
      obtain ⟨v, f, rfl, o'⟩ := o.one
      clear o
      have o := o'
      obtain ⟨p, xs, rfl, hq, da⟩ := o.sqL sub hd
      obtain rfl := intsD_dp da hn
      refine ⟨p, ns, rfl, hq, fun ns' q hp hw hn => ?_⟩
      rw [sortU_uniq hp hw]
      exact mk_lst sub (ints_own _) m q hn
    · cases e
  · cases e
def tupD (E : En) : List Rs → Option (List PyData)
  | [] => some []
  | .val (.dat d) :: rs => (tupD E rs).map (d :: ·)
  | _ => none
def dTup (dr : En → Option (List Rs)) (E : En) : Option Rs := match dr E with
  | some rs => (tupD E rs).map fun ds => .val (.dat (.tuple ds))
  | none => none
theorem RsAll.tupD {rs : List Rs} (a : RsAll K F H ρ E vs rs fr) (h : tupD E rs = some ds) : DqAll K F vs ds := by
  induction a generalizing ds with
  | nil => cases h; exact .nil
  | @cons v vs r rs f g a t ih => cases r with
    | pl p => cases h
    | val s => cases s with
      | dat d =>
        obtain ⟨ds', h1, rfl⟩ := Option.map_eq_some_iff.mp h
        exact .cons (Own.dat_inv (show Own K F H v (.dat d) f from a) rfl).1 (ih h1)
      | _ => cases h
theorem RsAll.len {rs : List Rs} (a : RsAll K F H ρ E vs rs fr) : vs.length = rs.length := by
  induction a with
  | nil => rfl
  | cons _ _ ih => simp only [List.length_cons, ih]
def dTupL (dr : En → Option (List Rs)) (E : En) : Option Rs := match dr E with
  | some rs => if rs.length < 1000 then dTup dr E else none
  | none => none
theorem p_tup (h : EvA K n as tr dr) : EvP K n as (tTupF tr) (dTupL dr) := by
  intro F H σ E fp L R r1 e Q q
  unfold dTupL at e
  split at e
  · next rs er =>
    split at e
    · next hl =>
      unfold dTup at e
      rw [er] at e
      obtain ⟨ds, hd, rfl⟩ := Option.map_eq_some_iff.mp e
      refine h L R er fun vs F1 H1 f1 g1 a1 n1 o1 => ⟨by rw [a1.len, sizeLine_eq]; omega, ?_⟩
      exact mk_tup (R.grow g1).sub (a1.tupD hd) fun v F' H' fr g o nd of => q v F' H' fr (by simpa using g1.drop.seq0 g) o nd of
    · cases e
  · cases e
def lstS : List Rs → Option (List S)
  | [] => some []
  | .val s :: rs => (lstS rs).map (s :: ·)
  | _ => none
def dLst (dr : En → Option (List Rs)) (E : En) : Option Rs := match dr E with
  | some rs => if rs.length < 1000 then (lstS rs).map fun ss => .val (.lst ss) else none
  | none => none
theorem RsAll.lstS {rs : List Rs} (a : RsAll K F H ρ E vs rs fr) (h : lstS rs = some ss) : OwnL K F H vs ss fr := by
  induction a generalizing ss with
  | nil => cases h; exact .nil
  | @cons v vs r rs f g a t ih => cases r with
    | pl p => cases h
    | val s =>
      obtain ⟨ss', h1, rfl⟩ := Option.map_eq_some_iff.mp h
      exact .cons a (ih h1)
theorem p_lst (h : EvA K n as tr dr) : EvP K n as (tLst tr) (dLst dr) := by
  intro F H σ E fp L R r1 e Q q
  unfold dLst at e
  split at e
  · next rs er =>
    split at e
    · next hl =>
      obtain ⟨ss, hs, rfl⟩ := Option.map_eq_some_iff.mp e
      refine h L R er fun vs F1 H1 f1 g1 a1 n1 o1 => ⟨by rw [a1.len, sizeLine_eq]; omega, fun p hp => ?_⟩
      have R1 := R.grow g1
      have g : Grow F1 H1 [] F1 (upd H1 p (.lst vs)) [p] := Grow.alloc R1.sub hp
      have o := a1.lstS hs
      have np : p ∉ f1 := fun m => by obtain ⟨w, hw⟩ := o.there p m; rw [hp] at hw; cases hw
      refine q _ F1 _ (p :: f1) ?_ (lst_write (o.frame (fun _ _ h => h) g.sub fun a m u e => g.keep a u e (fun z => nomatch z))) (List.nodup_cons.mpr ⟨np, n1⟩) fun a m => ?_
      · have := g1.seq0 g
        exact this.less fun a m => by
          rcases List.mem_cons.mp m with rfl | m
          · exact List.mem_append_right _ List.mem_cons_self
          · exact List.mem_append_left _ m
      · rcases List.mem_cons.mp m with rfl | m
        · exact fresh_none R1.sub hp
        · exact o1 a m
    · cases e
  · cases e
variable {w : V}
variable {W : WXm}
theorem rs_root {i : Nat} {r : Rs} (R : Rep K F H ρ E fp) (hv : ρ[i]? = some (some v)) (e : dVar i E = some r) : RsAt K F H ρ E v r [] := by
  unfold dVar at e
  cases he : E[i]? with
  | none => rw [he] at e; cases e
  | some sl =>
    rw [he] at e
    cases sl with
    | no => cases e
    | bor p =>
      cases e
      obtain ⟨v', h1, h2, h3⟩ := R.bor i p he
      rw [hv] at h1
      cases h1
      exact ⟨rfl, h2, h3⟩
    | own s =>
      have g : eget E [i] = some s := by simp only [eget, he, S.get_nil]
      obtain ⟨u, g1, g2, e1, o, c, _⟩ := R.core.take g
      have eu : u = v := by simp only [followE, hv, follow_nil] at e1; exact (Option.some.inj e1).symm
      subst eu
      have pl : some (Rs.pl [i]) = some r → RsAt K F H ρ E u r [] := fun e' => by
        have e2 := Option.some.inj e'
        subst e2
        exact ⟨rfl, e1, by rw [g]; rfl⟩
      cases s with
      | dat d => cases e; exact .dat (o.dat_inv rfl).1
      | con w =>
        cases e
        obtain ⟨rfl, _⟩ := o.con_inv rfl
        exact .con
      | lst _ => exact pl e
      | dct _ _ => exact pl e
      | ins _ _ => exact pl e
def tV (v : V) : TE := fun _ H Q => Q v H
def tVs (vs : List V) : TA := fun _ H QA => QA vs H
def dGh (k j : Nat) (E : En) : Option Rs := if j < k then dVar (E.length - k + j) E else none
theorem gh_at {σ : L2.St} (L : σ.length = n) (R : Rep K F H (σ ++ (as ++ vs.map some)) E fp) {j : Nat} (hj : vs[j]? = some v) : (σ ++ (as ++ vs.map some))[E.length - vs.length + j]? = some (some v) := by
  have len := R.core.len
  rw [List.length_append, List.length_append, List.length_map] at len
  have jl := (List.getElem?_eq_some_iff.mp hj).1
  rw [List.getElem?_append_right (by omega), List.getElem?_append_right (by omega), List.getElem?_map]
  rw [show E.length - vs.length + j - σ.length - as.length = j by omega, hj]; rfl
theorem p_gh {j : Nat} (hj : vs[j]? = some v) : EvP K n (as ++ vs.map some) (tV v) (dGh vs.length j) := by
  intro F H σ E fp L R r e Q q
  unfold dGh at e
  rw [if_pos (List.getElem?_eq_some_iff.mp hj).1] at e
  exact q v F H [] (.refl R.sub []) (rs_root R (gh_at L R hj) e) List.nodup_nil (fun _ m => nomatch m)
def ghs (k : Nat) (E : En) : Nat → Nat → Option (List Rs)
  | _, 0 => some []
  | j, m + 1 => match dVar (E.length - k + j) E, ghs k E (j + 1) m with
    | some r, some rs => some (r :: rs)
    | _, _ => none
def dGhs (k : Nat) (E : En) : Option (List Rs) := ghs k E 0 k
theorem ghs_len (k : Nat) : ∀ {m j : Nat} {rs : List Rs}, ghs k E j m = some rs → rs.length = m
  | 0, _, _, e => by cases e; rfl
  | m + 1, j, rs, e => by
    simp only [ghs] at e
    split at e
    · next r rs' e1 e2 => cases e; simp only [List.length_cons, ghs_len k e2]
    · cases e
theorem a_ghs : EvA K n (as ++ vs.map some) (tVs vs) (dGhs vs.length) := by
  intro F H σ E fp L R rs e Q q
  have go : ∀ (m j : Nat) (rs : List Rs), ghs vs.length E j m = some rs → j + m = vs.length → RsAll K F H (σ ++ (as ++ vs.map some)) E (vs.drop j) rs [] := by
    intro m
    induction m with
    | zero =>
      intro j rs e hj
      cases e
      rw [List.drop_eq_nil_of_le (by omega)]
      exact .nil
    | succ m ih =>
      intro j rs e hj
      simp only [ghs] at e
      split at e
      · next r rs' e1 e2 =>
        cases e
        have hv : vs[j]? = some (vs[j]'(by omega)) := List.getElem?_eq_getElem _
        rw [List.drop_eq_getElem_cons (by omega)]
        exact RsAll.cons (f := []) (g := []) (rs_root R (gh_at L R hv) e1) (ih (j + 1) rs' e2 (by omega))
      · cases e
  have := go vs.length 0 rs e (by omega)
  rw [List.drop_zero] at this
  exact q vs F H [] (.refl R.sub []) this List.nodup_nil (fun _ m => nomatch m)
def EvL (K : PySem.W.Frag) (n : Nat) (as : Ro) (tr : TA) (dl : En → Option (Nat × En)) : Prop :=
  ∀ {F H : Hp} {σ : L2.St} {E : En} {fp : List Addr}, σ.length = n → Rep K F H (σ ++ as) E fp → ∀ {k : Nat} {E' : En}, dl E = some (k, E') → ∀ {Q : List V → Hp → Prop},
    (∀ vs F' H' fp', vs.length = k → Grow F H fp F' H' fp' → Rep K F' H' (σ ++ (as ++ vs.map some)) E' fp' → Q vs H') → tr σ H Q
def lNil (E : En) : Option (Nat × En) := some (0, E)
theorem l_nil : EvL K n as tNil lNil := by
  intro F H σ E fp L R k E' e Q q
  cases e
  exact q [] F H fp rfl (.refl R.sub fp) (by simpa using R)
def up1 (o : Option (Nat × En)) : Option (Nat × En) := o.map fun p => (p.1 + 1, p.2)
variable {dl : En → Option (Nat × En)}
def lConsE (de : En → Option (S × En)) (dl : En → Option (Nat × En)) (E : En) : Option (Nat × En) := match de E with
  | some (s, E1) => up1 (dl (E1 ++ [.own s]))
  | none => none
theorem l_consE (ha : EvE K n as ta de) (hr : ∀ as, EvL K n as tr dl) : EvL K n as (tCons ta tr) (lConsE de dl) := by
  intro F H σ E fp L R k E' e Q q
  unfold lConsE at e
  split at e
  · next s E1 ee =>
    obtain ⟨⟨k1, E2⟩, e2, e3⟩ := Option.map_eq_some_iff.mp e
    cases e3
    refine ha L R ee fun v F1 H1 fr fp1 g1 R1 ov nd of => hr (as ++ [some v]) L (R1.push ov nd of) e2 fun vs F2 H2 fp2 hk g2 R2 => ?_
    exact q (v :: vs) F2 H2 fp2 (by rw [List.length_cons, hk]) (g1.trans g2) (by simpa using R2)
  · cases e
def lConsP (da : En → Option Rs) (dl : En → Option (Nat × En)) (E : En) : Option (Nat × En) := match da E with
  | some (.val s) => up1 (dl (E ++ [.own s]))
  | some (.pl p) => up1 (dl (E ++ [.bor p]))
  | none => none
theorem l_consP (ha : EvP K n as ta da) (hr : ∀ as, EvL K n as tr dl) : EvL K n as (tCons ta tr) (lConsP da dl) := by
  intro F H σ E fp L R k E' e Q q
  unfold lConsP at e
  split at e
  · next s ee =>
    obtain ⟨⟨k1, E2⟩, e2, e3⟩ := Option.map_eq_some_iff.mp e
    cases e3
    refine ha L R ee fun v F1 H1 fr g1 a nd of => hr (as ++ [some v]) L ((R.grow g1).push a (R.apart_new g1 nd) of) e2 fun vs F2 H2 fp2 hk g2 R2 => ?_
    exact q (v :: vs) F2 H2 fp2 (by rw [List.length_cons, hk]) ((g1.ours fp).trans g2) (by simpa using R2)
  · next p ee =>
    obtain ⟨⟨k1, E2⟩, e2, e3⟩ := Option.map_eq_some_iff.mp e
    cases e3
    refine ha L R ee fun v F1 H1 fr g1 a nd of => ?_
    obtain ⟨a1, a2, a3⟩ := a
    subst a1
    refine hr (as ++ [some v]) L ((R.grow g1).hold a2 a3) e2 fun vs F2 H2 fp2 hk g2 R2 => ?_
    exact q (v :: vs) F2 H2 fp2 (by rw [List.length_cons, hk]) (g1.mine.trans g2) (by simpa using R2)
  · cases e
def eEff (dl : En → Option (Nat × En)) (dc : Nat → En → Option (S × En)) (E : En) : Option (S × En) := match dl E with
  | some (k, E1) => match dc k E1 with
    | some (s, E2) => some (s, stripN k E2)
    | none => none
  | none => none
theorem e_eff {C : List V → Hp → VK → Prop} {dcc : Nat → En → Option (S × En)} (hl : EvL K n as tr dl) (hc : ∀ vs : List V, EvE K n (as ++ vs.map some) (fun _ H Q => C vs H Q) (dcc vs.length)) :
    EvE K n as (fun σ H Q => tr σ H fun vs H1 => C vs H1 Q) (eEff dl dcc) := by
  intro F H σ E fp L R s E' e Q q
  unfold eEff at e
  split at e
  · next k E1 el =>
    split at e
    · next s2 E2 ec =>
      cases e
      refine hl L R el fun vs F1 H1 fp1 hk g1 R1 => ?_
      subst hk
      refine hc vs L R1 ec fun v F2 H2 fr fp2 g2 R2 ov nd of => ?_
      obtain ⟨fq, R3, sb⟩ := R2.stripN vs.length rfl
      refine q v F2 H2 fr fq ((g1.trans g2).less fun a m => ?_) R3 ov ?_ of
      · exact List.mem_append.mpr ((List.mem_append.mp m).imp id (sb a))
      · exact List.nodup_append.mpr ⟨(List.nodup_append.mp nd).1, R3.nd, fun a m b m2 => (List.nodup_append.mp nd).2.2 a m b (sb b m2)⟩
    · cases e
  · cases e
variable {r : List V → Hp → VK → Prop}
def dWhen (k m : Nat) (d : En → Option (S × En)) (E : En) : Option (S × En) := if k = m then d E else none
theorem e_callE {m : Nat} {g : List S → Option (S × List S)} {EX : XK} (hl : EvL K n as tr dl) : EvE K n as (tCall (spMv K m g) [] EX tr) (eEff dl fun k => dWhen k m (eCall g (dGhs k))) := by
  have hc : ∀ vs : List V, EvE K n (as ++ vs.map some) (fun _ H Q => spMv K m g (vs ++ []) H Q EX) (dWhen vs.length m (eCall g (dGhs vs.length))) := by
    intro vs F H σ E fp L R s E' e Q q
    unfold dWhen at e
    by_cases hk : vs.length = m
    · rw [if_pos hk] at e
      exact e_call (tr := tVs vs) (EX := EX) a_ghs (fun E rs h => (ghs_len _ h).trans hk) L R e q
    · rw [if_neg hk] at e
      cases e
  intro F H σ E fp L R s E' e Q q
  exact e_eff (C := fun vs H Q => spMv K m g (vs ++ []) H Q EX) (dcc := fun k => dWhen k m (eCall g (dGhs k))) hl hc L R e q
theorem e_op2E {r2 : R2} {dop : (En → Option Rs) → (En → Option Rs) → En → Option Rs} (hp : ∀ {as : Ro} {ta tb : TE} {da db : En → Option Rs}, EvP K n as ta da → EvP K n as tb db → EvP K n as (tOp r2 ta tb) (dop da db)) (hl : EvL K n as (tCons ta (tCons tb tNil)) dl) :
    EvE K n as (tOp r2 ta tb) (eEff dl fun k => dWhen k 2 (ePure (dop (dGh k 0) (dGh k 1)))) := by
  have hc : ∀ vs : List V, EvE K n (as ++ vs.map some) (fun _ H Q => match vs with | [x, y] => r2 x y H Q | _ => False) (dWhen vs.length 2 (ePure (dop (dGh vs.length 0) (dGh vs.length 1)))) := by
    intro vs F H σ E fp L R s E' e Q q
    unfold dWhen at e
    split at e
    · next hk =>
      match vs, hk with
      | [x, y], _ => exact e_pure (hp (ta := tV x) (tb := tV y) (p_gh (vs := [x, y]) rfl) (p_gh (vs := [x, y]) rfl)) L R e q
    · cases e
  intro F H σ E fp L R s E' e Q q
  exact e_eff (tr := tCons ta (tCons tb tNil)) (C := fun vs H Q => match vs with | [x, y] => r2 x y H Q | _ => False) (dcc := fun k => dWhen k 2 (ePure (dop (dGh k 0) (dGh k 1)))) hl hc L R e q
theorem e_un1E {t1 : TE → TE} {dop : (En → Option Rs) → En → Option Rs} {C : V → Hp → VK → Prop} (ht : ∀ ta σ H Q, t1 ta σ H Q = ta σ H fun x H1 => C x H1 Q) (hp : ∀ {as : Ro} {ta : TE} {da : En → Option Rs}, EvP K n as ta da → EvP K n as (t1 ta) (dop da)) (hl : EvL K n as (tCons ta tNil) dl) :
    EvE K n as (t1 ta) (eEff dl fun k => dWhen k 1 (ePure (dop (dGh k 0)))) := by
  have hc : ∀ vs : List V, EvE K n (as ++ vs.map some) (fun _ H Q => match vs with | [x] => C x H Q | _ => False) (dWhen vs.length 1 (ePure (dop (dGh vs.length 0)))) := by
    intro vs F H σ E fp L R s E' e Q q
    unfold dWhen at e
    split at e
    · next hk =>
      match vs, hk with
      | [x], _ =>
        have h := e_pure (hp (ta := tV x) (da := dGh 1 0) (as := as ++ [x].map some) (p_gh (vs := [x]) rfl)) L R e q
        rw [ht] at h
        exact h
    · cases e
  intro F H σ E fp L R s E' e Q q
  rw [ht]
  exact e_eff (tr := tCons ta tNil) (C := fun vs H Q => match vs with | [x] => C x H Q | _ => False) (dcc := fun k => dWhen k 1 (ePure (dop (dGh k 0)))) hl hc L R e q
theorem Rep.pop {σ : L2.St} {E0 : En} (R : Rep K F H (σ ++ (as ++ [some w])) (E0 ++ [.own s]) fp) :
    ∃ f1 f2, Own K F H w s f2 ∧ Rep K F H (σ ++ as) (E0.map (killHead E0.length)) f1 ∧ fp.Perm (f2 ++ f1) := by
  obtain ⟨f, l, pm⟩ := R.core.own
  have len : E0.length = (σ ++ as).length := by
    have := R.core.len
    simp only [List.length_append, List.length_cons, List.length_nil] at this ⊢
    omega
  rw [← List.append_assoc, rootS_app len, rootV_app] at l
  obtain ⟨f1, f2, rfl, l1, l2⟩ := l.split (by rw [rootS_len len]; unfold rootV; rw [List.length_map])
  have ow : ∃ f2', f2 = f2' ∧ Own K F H w s f2' := by
    cases l2 with
    | cons a t => cases t; exact ⟨_, by simp, a⟩
  obtain ⟨f2', rfl, ow⟩ := ow
  have pm2 : fp.Perm (f2 ++ f1) := pm.trans List.perm_append_comm
  have nd := pm2.nodup_iff.mp R.nd
  refine ⟨f1, f2, ow, ⟨⟨by rw [List.length_map]; exact len, ⟨f1, by rw [rootS_killHead]; exact l1, List.Perm.refl _⟩, fun j z hj => ?_⟩, R.sub, (List.nodup_append.mp nd).2.1, fun a m => R.off a (pm2.mem_iff.mpr (List.mem_append_right _ m)), fun j p hb => ?_⟩, pm2⟩
  · have hj' := (killHead_get E0 j z).mp hj
    have jl := (List.getElem?_eq_some_iff.mp hj').1
    obtain ⟨v, hv⟩ := R.core.set j z (by rw [List.getElem?_append_left jl]; exact hj')
    exact ⟨v, by rw [← List.append_assoc, List.getElem?_append_left (by omega)] at hv; exact hv⟩
  · rw [List.getElem?_map] at hb
    cases hE : E0[j]? with
    | none => rw [hE] at hb; cases hb
    | some sl =>
      rw [hE] at hb
      cases sl with
      | no => cases hb
      | own z => cases hb
      | bor q =>
        simp only [Option.map_some, killHead, Option.some.injEq] at hb
        by_cases hq : q.head? = some E0.length
        · rw [if_pos hq] at hb; cases hb
        · rw [if_neg hq] at hb
          cases hb
          have jl := (List.getElem?_eq_some_iff.mp hE).1
          obtain ⟨v, e1, e2, e3⟩ := R.bor j p (by rw [List.getElem?_append_left jl]; exact hE)
          refine ⟨v, by rw [← List.append_assoc, List.getElem?_append_left (by omega)] at e1; exact e1, ?_, ?_⟩
          · cases p with
            | nil => cases e2
            | cons i p =>
              unfold followE at e2 ⊢
              dsimp only at e2 ⊢
              rw [← List.append_assoc] at e2
              by_cases hi : i < (σ ++ as).length
              · rw [List.getElem?_append_left hi] at e2; exact e2
              · exfalso
                have : i ≠ E0.length := fun z => hq (by rw [z]; rfl)
                rw [List.getElem?_eq_none_iff.mpr (by simp only [List.length_append, List.length_cons, List.length_nil] at len hi ⊢; omega)] at e2
                cases e2
          · cases p with
            | nil => cases e3
            | cons i p =>
              obtain ⟨t, ht⟩ := Option.isSome_iff_exists.mp e3
              obtain ⟨i', q', s', he, ei, hg⟩ := eget_some ht
              cases he
              have hi : i ≠ E0.length := fun z => hq (by rw [z]; rfl)
              have hl := (List.getElem?_eq_some_iff.mp ei).1
              rw [List.length_append, List.length_cons, List.length_nil] at hl
              rw [List.getElem?_append_left (by omega)] at ei
              have := (killHead_get (i := E0.length) E0 i s').mpr ei
              simp only [eget, this, hg]; rfl
def popS : Nat → En → Option (List S × En)
  | 0, E => some ([], E)
  | k + 1, E => match E.getLast? with
    | some (.own s) => match popS k (E.dropLast.map (killHead (E.length - 1))) with
      | some (ss, E') => some (ss ++ [s], E')
      | none => none
    | _ => none
theorem Rep.popN {σ : L2.St} : ∀ (k : Nat) {vs : List V} {E E' : En} {ss : List S} {fp : List Addr}, vs.length = k → Rep K F H (σ ++ (as ++ vs.map some)) E fp → popS k E = some (ss, E') →
    ∃ f1 f2, OwnL K F H vs ss f2 ∧ Rep K F H (σ ++ as) E' f1 ∧ fp.Perm (f2 ++ f1)
  | 0, vs, E, E', ss, fp, h, R, e => by
    have : vs = [] := List.eq_nil_of_length_eq_zero h
    subst this
    cases e
    exact ⟨fp, [], .nil, by simpa using R, by simp⟩
  | k + 1, vs, E, E', ss, fp, h, R, e => by
    rcases List.eq_nil_or_concat vs with z | ⟨ys, w, rfl⟩
    · rw [z] at h; cases h
    · rw [List.concat_eq_append] at h
      rw [List.concat_eq_append, List.map_append, ← List.append_assoc as] at R
      simp only [popS] at e
      split at e
      · next s hs =>
        split at e
        · next ss1 E1 e1 =>
          cases e
          have hE : E = E.dropLast ++ [.own s] := by
            rcases List.eq_nil_or_concat E with z | ⟨E0, z, rfl⟩
            · rw [z] at hs; cases hs
            · rw [List.concat_eq_append] at hs ⊢
              rw [List.getLast?_concat] at hs
              cases hs
              rw [List.dropLast_concat]
          rw [hE] at R
          obtain ⟨g1, g2, ow, R1, p1⟩ := Rep.pop (as := as ++ ys.map some) R
          rw [show E.length - 1 = E.dropLast.length by simp] at e1
          obtain ⟨h1, h2, l, R2, p2⟩ := Rep.popN k (vs := ys) (by simpa using h) R1 e1
          refine ⟨h1, h2 ++ g2, by rw [List.concat_eq_append]; simpa using l.append (OwnL.cons (K := K) (F := F) (H := H) ow .nil), R2, ?_⟩
          refine p1.trans ((List.Perm.append_left g2 p2).trans ?_)
          rw [← List.append_assoc]
          exact List.Perm.append_right h1 List.perm_append_comm
        · cases e
      · cases e
def oLSet (i : Int) (t s : S) : Option (S × S) := match t with
  | .lst ss => match ixN ss.length i with
    | some j => some (.lst (ss.set j s), .dat .none)
    | none => none
  | _ => none
def rLSet1 (i : Int) (u y : V) (H : Hp) (Q : VK) : Prop := ∃ p xs j, u = .ref p ∧ H p = some (.lst xs) ∧ ixN xs.length i = some j ∧ Q .non (upd H p (.lst (xs.set j y)))
theorem nd_lset (i : Int) : Nd1 K (rLSet1 i) (oLSet i) := by
  intro F H u y t s t' c fp1 fr sub ot os nd of e Q q
  unfold oLSet at e
  split at e
  · next ss =>
    split at e
    · next j hj =>
      cases e
      obtain ⟨a, vs, fq, rfl, hH, l, rfl⟩ := ot.lst_inv rfl
      have na : a ∉ fr := fun m => (List.nodup_append.mp nd).2.2 a m a List.mem_cons_self rfl
      have nq : a ∉ fq := (List.nodup_cons.mp (List.nodup_append.mp nd).2.1).1
      have fa : F a = none := of a (List.mem_append_right _ List.mem_cons_self)
      have jl : j < vs.length := by rw [l.length]; exact ixN_at hj
      refine ⟨a, vs, j, rfl, hH, by rw [l.length]; exact hj, ?_⟩
      obtain ⟨g1, g2, g, l2, p1, p2⟩ := l.repl jl os
      have ndf := List.nodup_append.mp nd
      have ndq := (List.nodup_cons.mp ndf.2.1).2
      have hg : ∀ b ∈ g, b ∈ fr ∨ b ∈ fq := fun b m => (List.mem_append.mp (p1.mem_iff.mp m)).imp id fun m => p2.mem_iff.mpr (List.mem_append_right _ m)
      have ng : g.Nodup := p1.nodup_iff.mpr (List.nodup_append.mpr ⟨ndf.1, (List.nodup_append.mp (p2.nodup_iff.mp ndq)).2.1, fun b m c m2 e => ndf.2.2 b m c (List.mem_cons_of_mem _ (p2.mem_iff.mpr (List.mem_append_right _ m2))) e⟩)
      have nag : a ∉ g := fun m => (hg a m).elim na nq
      have g0 : Grow F H [a] F (upd H a (.lst (vs.set j y))) [a] := Grow.write sub fa
      refine q .non F _ [] (a :: g) (g0.wide (fun b m => by rw [List.mem_singleton.mp m]; exact List.mem_append_right _ List.mem_cons_self) fun b m => ?_) (lst_write (l2.off sub fa nag)) (.dat .non) ?_ fun b m => ?_
      · left
        rw [List.nil_append] at m
        rcases List.mem_cons.mp m with rfl | m
        · exact List.mem_append_right _ List.mem_cons_self
        · exact (hg b m).elim (fun m => List.mem_append_left _ m) fun m => List.mem_append_right _ (List.mem_cons_of_mem _ m)
      · rw [List.nil_append]; exact List.nodup_cons.mpr ⟨nag, ng⟩
      · rw [List.nil_append] at m
        rcases List.mem_cons.mp m with rfl | m
        · exact fa
        · exact (hg b m).elim (fun m => of b (List.mem_append_left _ m)) fun m => of b (List.mem_append_right _ (List.mem_cons_of_mem _ m))
    · cases e
  · cases e
def dLSet (da db : En → Option Rs) (de : En → Option (S × En)) (E : En) : Option Out := match de E with
  | some (s, E1) => match da E1, db E1 with
    | some (.pl p), some (.val (.dat (.int i))) => stepAt (oLSet i) E1 p s
    | _, _ => none
  | none => none
theorem s_lset (ha : EvP K n as ta da) (hb : EvP K n as tb db) (he : EvE K n as te de) : EvS K n as W (tAsg te (gSub ta tb rSetL)) (dLSet da db de) := by
  intro F H σ E fp L R o e D g
  unfold dLSet at e
  split at e
  · next s E1 ee =>
    split at e
    · next p i ea eb =>
      refine he L R ee fun v F1 H1 fr fp1 g1 R1 ov nd of => ha L R1 ea fun x F2 H2 f2 g2 r2 n2 o2 => hb L (R1.grow g2) eb fun y F3 H3 f3 g3 r3 n3 o3 => ?_
      have R3 := (R1.grow g2).grow g3
      have g23 : Grow F1 H1 [] F3 H3 [] := (g2.seq0 g3).drop
      have ov3 : Own K F3 H3 v s fr := ov.grow g23 fun _ _ m => nomatch m
      have of3 : ∀ a ∈ fr, F3 a = none := fun a m => by
        obtain ⟨o, eo⟩ := ov.there a m
        exact g23.off a (by rw [eo]; exact fun z => nomatch z) (fun z => nomatch z) (of a m)
      have r2' := r2.grow (R1.grow g2) g3
      cases (Own.dat_inv (show Own K F3 H3 y _ f3 from r3) rfl).1
      unfold stepAt at e
      split at e
      · next t et =>
        split at e
        · next t' c eo =>
          cases e
          have gg : Grow F H fp F3 H3 (fr ++ fp1) := by
            have := g1.trans (g23.ours (fr ++ fp1))
            simpa using this
          have fin := mut1 (nd_lset i) R3 r2' ov3 nd of3 et eo (Q := fun _ H4 => D.nx σ H4) fun v F' H' fv fp' g4 R4 ov4 nd4 of4 => ?_
          · obtain ⟨a, ys, j, rfl, hp, hj, hq⟩ := fin
            exact ⟨a, ys, i, j, rfl, rfl, hp, hj, hq⟩
          · exact g σ F' H' fp' L ((gg.trans g4).less fun a m => List.mem_append_right _ m) R4
        · cases e
      · cases e
    · cases e
  · cases e
def iRangeE (de : En → Option (S × En)) (E : En) : Option Src := match de E with
  | some (.dat (.int j), E1) => if j < 2 ^ 62 ∧ -(2 ^ 62) ≤ j then some ⟨E1, [], fun _ i => some (if i < j.toNat then some (.val (.dat (.int (i : Nat)))) else none), j.toNat⟩ else none
  | _ => none
theorem i_rangeE (h : EvE K n as te de) : EvI K n as (iRng1 (tCons te tNil)) (iRangeE de) := by
  intro F H σ E fp L R c e Rr q
  unfold iRangeE at e
  split at e
  · next j E1 ed =>
    split at e
    · next hj =>
      cases e
      refine h L R ed fun v F1 H1 fr fp1 g1 R1 ov nd of => ?_
      cases (Own.dat_inv ov rfl).1
      refine ⟨j, rfl, hj.2, hj.1, q _ F1 H1 [] fp1 (g1.less fun a m => List.mem_append_right _ m) (by simpa using R1) rfl fun F2 H2 σ2 E2 fp2 L2 g2 R2 i => ⟨fun r hr => ?_, fun hr => ?_⟩⟩
      · have hr := Option.some.inj hr
        by_cases hi : i < j.toNat
        · rw [if_pos hi] at hr
          cases hr
          refine ⟨hi, fun x H' hy => ⟨hy.1, ?_⟩⟩
          rw [hy.2]
          have : (0 : Int) + (i : Int) = ((i : Nat) : Int) := by omega
          rw [this]
          exact .dat (.int _)
        · rw [if_neg hi] at hr; cases hr
      · have hr := Option.some.inj hr
        by_cases hi : i < j.toNat
        · rw [if_pos hi] at hr; cases hr
        · exact Nat.le_of_not_lt hi
    · cases e
  · cases e
open PySem.W (alike alikeAll AlikeAll minD)
variable {dtf : En → Option (Bool × En)}
theorem rootS_killNo {i : Nat} : ∀ {ρ : Ro} {E : En} {v : Option V}, E.length = ρ.length → ρ[i]? = some v → rootS ρ (slotSet E i .no) = (rootS ρ E).set i (.con (v.getD .non)) := by
  intro ρ E v l h
  have hi := (List.getElem?_eq_some_iff.mp h).1
  have e1 : ρ = ρ.set i v := by
    apply List.ext_getElem?
    intro j
    by_cases ij : i = j
    · subst ij; rw [List.getElem?_set_self hi, h]
    · rw [List.getElem?_set_ne ij]
  have := rootS_set2 (ρ := ρ) (E := E.map (killHead i)) (i := i) (v := v) (e := .no) (by rw [List.length_map]; exact l)
  rw [← e1, rootS_killHead] at this
  unfold slotSet
  rw [this]
  rfl
theorem Rep.takeSlot {i : Nat} (R : Rep K F H ρ E fp) (hE : E[i]? = some (Sl.own s)) (hv : ρ[i]? = some (some v)) :
    ∃ fr fq, Own K F H v s fr ∧ Rep K F H ρ (slotSet E i .no) fq ∧ fp.Perm (fr ++ fq) := by
  obtain ⟨f, l, pm⟩ := R.core.own
  have len := R.core.len
  obtain ⟨x, g1, g2, e1, o1, l2, p1⟩ := l.take (rootS_get len hE)
  have ex : x = v := by
    unfold rootV at e1
    rw [List.getElem?_map, hv] at e1
    simpa using e1.symm
  subst ex
  have hi := (List.getElem?_eq_some_iff.mp hv).1
  have pm2 : fp.Perm (g1 ++ g2) := pm.trans p1
  have nd := pm2.nodup_iff.mp R.nd
  have hEl : i < E.length := by omega
  refine ⟨g1, g2, o1, ⟨⟨by unfold slotSet; rw [List.length_set, List.length_map]; exact len, ⟨g2, ?_, List.Perm.refl _⟩, fun j z hj => ?_⟩, R.sub, (List.nodup_append.mp nd).2.1, fun a m => R.off a (pm2.mem_iff.mpr (List.mem_append_right _ m)), fun j p hb => ?_⟩, pm2⟩
  · rw [rootS_killNo len hv]; exact l2
  · by_cases ij : i = j
    · subst ij; exact ⟨_, hv⟩
    · unfold slotSet at hj
      rw [List.getElem?_set_ne ij] at hj
      exact R.core.set j z ((killHead_get E j z).mp hj)
  · by_cases ij : i = j
    · subst ij
      unfold slotSet at hb
      rw [List.getElem?_set_self (by rw [List.length_map]; exact hEl)] at hb
      cases hb
    · unfold slotSet at hb
      rw [List.getElem?_set_ne ij, List.getElem?_map] at hb
      cases hE2 : E[j]? with
      | none => rw [hE2] at hb; cases hb
      | some sl =>
        rw [hE2] at hb
        cases sl with
        | no => cases hb
        | own w => cases hb
        | bor q =>
          simp only [Option.map_some, killHead, Option.some.injEq] at hb
          by_cases hq : q.head? = some i
          · rw [if_pos hq] at hb; cases hb
          · rw [if_neg hq] at hb
            cases hb
            obtain ⟨w, e1, e2, e3⟩ := R.bor j _ hE2
            exact ⟨w, e1, e2, by rw [eget_set hq]; exact e3⟩
def eMove (i : Nat) (E : En) : Option (S × En) := match E[i]? with
  | some (.own s) => some (s, slotSet E i .no)
  | _ => none
theorem e_move {i : Nat} (hi : i < n) : EvE K n as (tVar i) (eMove i) := by
  intro F H σ E fp L R s0 E0 e Q q
  unfold eMove at e
  split at e
  · next s he =>
    cases e
    obtain ⟨v, hv⟩ := R.core.set i _ he
    have hv' : σ[i]? = some (some v) := by rwa [List.getElem?_append_left (by omega)] at hv
    obtain ⟨fr, fq, ow, R2, pm⟩ := R.takeSlot he hv
    exact ⟨v, hv', q v F H fr fq ((Grow.refl R.sub fp).less fun a m => pm.mem_iff.mpr m) R2 ow (pm.nodup_iff.mp R.nd) fun a m => R.off a (pm.mem_iff.mpr (List.mem_append_left _ m))⟩
  · cases e
theorem dl_nil : ∀ E rs, dNil E = some rs → rs.length = 0 := fun E rs h => by cases h; rfl
theorem dl_cons {m : Nat} (h : ∀ E rs, dr E = some rs → rs.length = m) : ∀ E rs, dCons da dr E = some rs → rs.length = m + 1 := fun E rs e => by
  unfold dCons at e
  split at e
  · next a r ea er => cases e; rw [List.length_cons, h E r er]
  · cases e
def gNone (_ : List S) : Option (S × List S) := none
theorem fn_none {P : Program} {w : World} {mg : Str → Option Value} {base : Heap} {CX : CXT} {k : Nat} {f : Addr} {fd : FuncData} {ps : List Str} : FnOk P w K mg base CX k f fd ps (spMv K ps.length gNone) :=
  ⟨fun vs H Q E h => h.1, fun A outer s H args us vs Q E hr he hb hv h => by
    obtain ⟨_, F, ss, fp, s, ss', sub, l, nd, of, hg, q⟩ := h
    cases hg⟩
end Mv
namespace L2
open PySem PySem.Spec PyProof.Rows
end L2
namespace Mv
open PySem PySem.Spec PyProof.Rows L2
variable {X : Cx} {K : PySem.W.Frag} {e : Expr}
theorem pe_K {t : PySem.W.Frag → TE} (h : PE X e (t X.K)) (hK : X.K = K := by rfl) : PE X e (t K) := hK ▸ h
def rLenK (K : PySem.W.Frag) : List V → Hp → VK → Prop := fun xs H Q => ∃ p ys, xs = [.ref p] ∧ (SqL K H p ys ∨ SqT K H p ys) ∧ Q (.int ys.length) H
theorem call_lenK : CallR X (.builtin "len") (rLenK X.K) := call_len_seq
def rListOfK (K : PySem.W.Frag) : List V → Hp → VK → Prop := fun xs H Q => ∃ p ys, xs = [.ref p] ∧ (SqL K H p ys ∨ SqT K H p ys) ∧ ∀ l, H l = none → Q (.ref l) (upd H l (.lst ys))
theorem call_listK : CallR X (.type "list") (rListOfK X.K) := call_list_of
variable {n : Nat} {as : Ro} {te : TE} {tl th : TO} {d : En → Option Rs} {dl dh : En → Option (Option Int)} {dn : En → Option (Nat × En)} {dlo dhi : En → Option (Option Int × En)}
theorem p_sliceL (h : EvP K n as te d) (hl : EvO K n as tl dl) (hh : EvO K n as th dh) : EvP K n as (tSl (rSlL K) te tl th) (dSl fSlL d dl dh) := p_slice (r := rSlL K) (f := fSlL) (@rv_slL K) h hl hh
theorem p_sliceT (h : EvP K n as te d) (hl : EvO K n as tl dl) (hh : EvO K n as th dh) : EvP K n as (tSl (rSlF K) te tl th) (dSl fSlT d dl dh) := p_slice (r := rSlF K) (f := fSlT) (@rv_slT K) h hl hh
variable {E E' E1 E2 : En} {s t : S} {d1 d2 : En → Option Out} {dt : En → Option (Bool × En)}
theorem dSeq_nx (h : d1 E = some (.nx E1)) : dSeq d1 d2 E = d2 E1 := by unfold dSeq; rw [h]
theorem dSeq_go {r : Option Out} (h : d1 E = some (.nx E1)) (h2 : d2 E1 = r) : dSeq d1 d2 E = r := by rw [dSeq_nx h]; exact h2
theorem fnG_rt {n : Nat} {ss ss' : List S} (h : d1 (entry n ss) = some (.rt s E)) (h2 : ownSs (E.drop n) = some ss') : fnG n d1 ss = some (s, ss') := by unfold fnG; rw [h]; simp only [h2]; rfl
theorem fnG_nx {n : Nat} {ss ss' : List S} (h : d1 (entry n ss) = some (.nx E)) (h2 : ownSs (E.drop n) = some ss') : fnG n d1 ss = some (.dat .none, ss') := by unfold fnG; rw [h]; simp only [h2]; rfl
theorem dSeq_rt (h : d1 E = some (.rt s E1)) : dSeq d1 d2 E = some (.rt s E1) := by unfold dSeq; rw [h]
theorem dIf_true (h : dt E = some (true, E1)) : dIf dt d1 d2 E = d1 E1 := by unfold dIf; rw [h]
theorem dIf_false (h : dt E = some (false, E1)) : dIf dt d1 d2 E = d2 E1 := by unfold dIf; rw [h]
theorem dIf_t {r : Option Out} (h : dt E = some (true, E1)) (h2 : d1 E1 = r) : dIf dt d1 d2 E = r := by rw [dIf_true h]; exact h2
theorem dIf_f {r : Option Out} (h : dt E = some (false, E1)) (h2 : d2 E1 = r) : dIf dt d1 d2 E = r := by rw [dIf_false h]; exact h2
theorem dLoop_end {rd : En → Nat → Option (Option Rs)} {bd : Rs → En → Option En} {db : En → Option Out} {fuel i : Nat} (h : rd E i = some none) : dLoop rd bd db fuel i E = some (.nx E) := by
  rw [dLoop.eq_def]; simp only [h]
theorem dLoop_nx {rd : En → Nat → Option (Option Rs)} {bd : Rs → En → Option En} {db : En → Option Out} {fuel i : Nat} {r : Rs} (h : rd E i = some (some r)) (hb : bd r E = some E1) (hd : db E1 = some (.nx E2)) : dLoop rd bd db (fuel + 1) i E = dLoop rd bd db fuel (i + 1) E2 := by
  rw [dLoop.eq_def]; simp only [h, hb, hd]
theorem dLoop_rt {rd : En → Nat → Option (Option Rs)} {bd : Rs → En → Option En} {db : En → Option Out} {fuel i : Nat} {r : Rs} (h : rd E i = some (some r)) (hb : bd r E = some E1) (hd : db E1 = some (.rt s E2)) : dLoop rd bd db (fuel + 1) i E = some (.rt s E2) := by
  rw [dLoop.eq_def]; simp only [h, hb, hd]
theorem lcLoop_end {rd : En → Nat → Option (Option Rs)} {j : Nat} {de : En → Option (S × En)} {fuel i : Nat} {acc : List S} (h : rd E i = some none) : dLcLoop rd j dt de fuel i acc E = some (acc, E) := by
  rw [dLcLoop.eq_def]; simp only [h]
theorem lcLoop_yes {rd : En → Nat → Option (Option Rs)} {j : Nat} {de : En → Option (S × En)} {fuel i : Nat} {acc : List S} {r : Rs} {E3 : En} (h : rd E i = some (some r)) (hb : bName j r E = some E1) (ht : dt E1 = some (true, E2)) (he : de E2 = some (s, E3)) (hl : acc.length < 100000) :
    dLcLoop rd j dt de (fuel + 1) i acc E = dLcLoop rd j dt de fuel (i + 1) (acc ++ [s]) (slotSet E3 j .no) := by
  rw [dLcLoop.eq_def]; simp only [h, hb, ht, he, if_pos hl]
theorem lcLoop_no {rd : En → Nat → Option (Option Rs)} {j : Nat} {de : En → Option (S × En)} {fuel i : Nat} {acc : List S} {r : Rs} (h : rd E i = some (some r)) (hb : bName j r E = some E1) (ht : dt E1 = some (false, E2)) :
    dLcLoop rd j dt de (fuel + 1) i acc E = dLcLoop rd j dt de fuel (i + 1) acc (slotSet E2 j .no) := by
  rw [dLcLoop.eq_def]; simp only [h, hb, ht]
def tI (ns : List Int) : S := .dat (.tuple (ns.map .int))
def lI (ns : List Int) : S := .lst (ns.map fun i => .dat (.int i))
theorem intsD_map (ns : List Int) : intsD (ns.map .int) = some ns := by
  induction ns with
  | nil => rfl
  | cons a r ih => simp [intsD, ih]
theorem eCall_go {g : List S → Option (S × List S)} {dr : En → Option (List Rs)} {rs : List Rs} {ss ss' : List S} (h1 : dr E = some rs) (h2 : placesOk rs = true) (h3 : argS E rs = some ss) (h4 : g ss = some (s, ss')) : eCall g dr E = some (s, killAll (putAll E rs ss') rs) := by
  unfold eCall
  simp only [h1, if_pos h2, h3, h4]
theorem dSet_go {i : Nat} {de : En → Option (S × En)} (h : de E = some (s, E1)) : dSet i de E = some (.nx (slotSet E1 i (.own s))) := by unfold dSet; rw [h]
theorem cutD_from {α : Type} {xs : List α} {k : Nat} (h : k ≤ xs.length) : cutD xs (some (k : Int)) none = xs.drop k := by
  unfold cutD
  rw [HT.sIx_nat, HT.sIx_none, Nat.min_eq_left h, List.take_of_length_le]
  rw [List.length_drop]; exact Nat.le_refl _
theorem dcons_go {da : En → Option Rs} {dr : En → Option (List Rs)} {r : Rs} {rs : List Rs} (h : da E = some r) (h2 : dr E = some rs) : dCons da dr E = some (r :: rs) := by unfold dCons; rw [h, h2]
theorem slT_from {da dl : En → Option Rs} {ns : List Int} {k : Nat} (ha : da E = some (.val (tI ns))) (hl : dl E = some (.val (.dat (.int (k : Int))))) (h : k ≤ ns.length) : dSl fSlT da (dPart dl) dNoPart E = some (.val (tI (ns.drop k))) := by
  unfold dSl dPart
  rw [ha, hl]
  show (fSlT (tI ns) (some (k : Int)) none).map Rs.val = _
  show (some (S.dat (.tuple (cutD (ns.map PyData.int) (some (k : Int)) none)))).map Rs.val = _
  rw [cutD_from (by simpa using h), ← List.map_drop]; rfl
theorem ixN_in {n j : Nat} (hj : j < n) : ixN n (j : Int) = some j := by
  unfold ixN
  rw [if_pos (Int.natCast_nonneg j), if_pos (by exact_mod_cast hj)]; rfl
end Mv
namespace Mv
open PySem PySem.Spec PyProof.Rows L2
variable {E E' E1 E2 : En} {s t : S}
theorem rdD_I {ns : List Int} {i : Nat} {h : Int} (h3 : ns[i]? = some h) : rdD (ns.map .int) E i = some (some (.val (.dat (.int h)))) := by
  unfold rdD
  simp [List.getElem?_map, h3]
theorem rdD_end {ns : List Int} {i : Nat} (h3 : ns.length ≤ i) : rdD (ns.map .int) E i = some none := by
  unfold rdD
  simp [List.getElem?_map, List.getElem?_eq_none_iff.mpr h3]
theorem toDs_dats : ∀ (ds : List PyData), S.toDs (ds.map S.dat) = some ds
  | [] => rfl
  | d :: ds => by simp [S.toDs, S.toD, toDs_dats ds]
variable {de df : En → Option (S × En)} {a c : PyData}
theorem eCS_go {f : List S → Option S} (h : de E = some (s, E1)) (h3 : f [s] = some t) : eCS f de E = some (t, E1) := by unfold eCS; rw [h]; simp only [h3]; rfl
theorem dRet_go (h : de E = some (s, E1)) : dRet de E = some (.rt s E1) := by unfold dRet; rw [h]
theorem dDrop_go (h : de E = some (s, E1)) : dDrop de E = some (.nx E1) := by unfold dDrop; rw [h]
theorem eTest_go {b : Bool} (h : de E = some (.dat (.bool b), E1)) : eTest de E = some (b, E1) := by unfold eTest; rw [h]
theorem eNot_go {dt : En → Option (Bool × En)} {b : Bool} (h : dt E = some (b, E1)) : eNot dt E = some (!b, E1) := by unfold eNot; rw [h]; rfl
theorem eOr_f {dt du : En → Option (Bool × En)} {r : Option (Bool × En)} (h : dt E = some (false, E1)) (h2 : du E1 = r) : eOr dt du E = r := by unfold eOr; rw [h]; exact h2
theorem eLc_go {src : En → Option Src} {j : Nat} {dt : En → Option (Bool × En)} {acc : List S} {c : Src} (h : src E = some c) (h2 : dLcLoop c.rd j dt de c.fuel 0 [] (slotSet (c.env ++ c.exE) j .no) = some (acc, E1)) : eLc src j dt de E = some (.lst acc, stripE c E1) := by
  unfold eLc; rw [h]; simp only [h2]
theorem dFor_go {src : En → Option Src} {bd : Rs → En → Option En} {db : En → Option Out} {c : Src} (h : src E = some c) (h2 : dLoop c.rd bd db c.fuel 0 (c.env ++ c.exE) = some (.nx E1)) : dFor src bd db E = some (.nx (stripE c E1)) := by
  unfold dFor; rw [h]; simp only [h2]; rfl
theorem loop_nx {rd : En → Nat → Option (Option Rs)} {bd : Rs → En → Option En} {db : En → Option Out} (env : Nat → En) (n : Nat) (hs : ∀ i, i < n → ∃ r E1, rd (env i) i = some (some r) ∧ bd r (env i) = some E1 ∧ db E1 = some (.nx (env (i + 1)))) (he : rd (env n) n = some none) :
    ∀ (m i fuel : Nat), i + m = n → m ≤ fuel → dLoop rd bd db fuel i (env i) = some (.nx (env n)) := by
  intro m
  induction m with
  | zero => intro i fuel hi _; have : i = n := by omega
            subst this; exact dLoop_end he
  | succ m ih =>
    intro i fuel hi hf
    cases fuel with
    | zero => omega
    | succ fuel =>
      obtain ⟨r, E1, h1, h2, h3⟩ := hs i (by omega)
      rw [dLoop_nx h1 h2 h3]
      exact ih (i + 1) fuel (by omega) (by omega)
theorem loop_inv {rd : En → Nat → Option (Option Rs)} {bd : Rs → En → Option En} {db : En → Option Out} (J : Nat → En → Prop) (n : Nat) (hs : ∀ i E, i < n → J i E → ∃ r E1 E2, rd E i = some (some r) ∧ bd r E = some E1 ∧ db E1 = some (.nx E2) ∧ J (i + 1) E2) (he : ∀ E, J n E → rd E n = some none) :
    ∀ (m i fuel : Nat) (E : En), i + m = n → m ≤ fuel → J i E → ∃ E', dLoop rd bd db fuel i E = some (.nx E') ∧ J n E' := by
  intro m
  induction m with
  | zero => intro i fuel E hi _ hJ; have : i = n := by omega
            subst this; exact ⟨E, dLoop_end (he E hJ), hJ⟩
  | succ m ih =>
    intro i fuel E hi hf hJ
    cases fuel with
    | zero => omega
    | succ fuel =>
      obtain ⟨r, E1, E2, h1, h2, h3, h4⟩ := hs i E (by omega) hJ
      rw [dLoop_nx h1 h2 h3]
      exact ih (i + 1) fuel E2 (by omega) (by omega) h4
theorem lc_inv {rd : En → Nat → Option (Option Rs)} {j : Nat} {de : En → Option (S × En)} (J : Nat → List S → En → Prop) (n : Nat) (hn : n < 100000)
    (hs : ∀ i acc E, i < n → J i acc E → ∃ r E1 s E3, rd E i = some (some r) ∧ bName j r E = some E1 ∧ de E1 = some (s, E3) ∧ J (i + 1) (acc ++ [s]) (slotSet E3 j .no)) (he : ∀ acc E, J n acc E → rd E n = some none) :
    ∀ (m i fuel : Nat) (acc : List S) (E : En), i + m = n → m ≤ fuel → acc.length = i → J i acc E → ∃ acc' E', dLcLoop rd j eYes de fuel i acc E = some (acc', E') ∧ J n acc' E' := by
  intro m
  induction m with
  | zero => intro i fuel acc E hi _ _ hJ; have : i = n := by omega
            subst this; exact ⟨acc, E, lcLoop_end (he acc E hJ), hJ⟩
  | succ m ih =>
    intro i fuel acc E hi hf ha hJ
    cases fuel with
    | zero => omega
    | succ fuel =>
      obtain ⟨r, E1, s, E3, h1, h2, h3, h4⟩ := hs i acc E (by omega) hJ
      rw [lcLoop_yes h1 h2 rfl h3 (by omega)]
      exact ih (i + 1) fuel (acc ++ [s]) _ (by omega) (by omega) (by simp [ha]) h4
theorem iRange_go {d : En → Option Rs} {j : Int} (h : d E = some (.val (.dat (.int j)))) (h1 : 0 ≤ j) (h2 : j < 1000000) : iRange d E = some ⟨E, [], fun _ i => some (if i < j.toNat then some (.val (.dat (.int (i : Nat)))) else none), j.toNat⟩ := by
  unfold iRange
  rw [h]
  exact if_pos ⟨by omega, by omega⟩
theorem iRangeE_go {d : En → Option (S × En)} {j : Int} (h : d E = some (.dat (.int j), E1)) (h1 : 0 ≤ j) (h2 : j < 1000000) : iRangeE d E = some ⟨E1, [], fun _ i => some (if i < j.toNat then some (.val (.dat (.int (i : Nat)))) else none), j.toNat⟩ := by
  unfold iRangeE
  rw [h]
  exact if_pos ⟨by omega, by omega⟩
theorem rng_rd {n i : Nat} (h : i < n) : (fun (_ : En) (i : Nat) => (some (if i < n then some (Rs.val (.dat (.int (i : Nat)))) else none) : Option (Option Rs))) E i = some (some (.val (.dat (.int (i : Nat))))) := by
  show some (if i < n then _ else _) = _
  rw [if_pos h]
theorem rng_end {n : Nat} : (fun (_ : En) (i : Nat) => (some (if i < n then some (Rs.val (.dat (.int (i : Nat)))) else none) : Option (Option Rs))) E n = some none := by
  show some (if n < n then _ else _) = _
  rw [if_neg (by omega)]
end Mv
namespace Mv
open PySem PySem.Spec PyProof.Rows L2
variable {X : Cx} {K : PySem.W.Frag} {F F' F1 F2 F3 H H' H1 H2 H3 : Hp} {v u x y w : V} {vs ws xs : List V} {s t c : S} {ss tts : List S} {fp fq fr fp' fp1 fp2 f1 f2 : List Addr} {ρ as : Ro} {E E' : En} {n : Nat}
variable {W : WXm} {te ta tb tc tk tv td : TE} {d da db dc dk dv : En → Option Rs} {tr : TA} {dr : En → Option (List Rs)} {de df : En → Option (S × En)} {dl : En → Option (Nat × En)} {ds : List PyData} {Q : VK}
def fRep : S → S → Option S
  | .lst a, .dat (.int k) => match datsS a with
    | some _ => if 0 ≤ k ∧ k < 100000 ∧ a.length * k.toNat < 100000 then some (.lst (List.replicate k.toNat a).flatten) else none
    | none => none
  | _, _ => none
theorem OwnL.rep (l : OwnL K F H vs ss []) : ∀ (k : Nat), OwnL K F H (List.replicate k vs).flatten (List.replicate k ss).flatten []
  | 0 => .nil
  | k + 1 => by
    rw [List.replicate_succ, List.replicate_succ, List.flatten_cons, List.flatten_cons]
    simpa using l.append (OwnL.rep l k)
theorem rv_rep : RvS2 K rRep fRep := by
  intro F H x y a b c f1 f2 sub o1 o2 e Q m
  unfold fRep at e
  split at e
  · next a k =>
    split at e
    · next d1 e1 =>
      split at e
      · next hl =>
        cases e
        obtain ⟨l, xs, _, rfl, hH, l1, _⟩ := o1.lst_inv rfl
        cases (o2.dat_inv rfl).1
        obtain ⟨da1, rfl⟩ := datsS_dp l1 e1
        refine ⟨l, k, xs, rfl, rfl, hH, by omega, by omega, by rw [l1.length, sizeLine_eq]; omega, mk_lst sub (OwnL.rep l1 _) m⟩
      · cases e
    · cases e
  · cases e
def dDGet2 (da db dx : En → Option Rs) (E : En) : Option Rs := match da E, db E, dx E with
  | some r, some rk, some (.val (.dat d)) => match r.at E, rk.key with
    | some (.dct _ kss), some k => match kix (kss.map (·.1)) k with
      | some i => match (kss.map (·.2))[i]? with
        | some s => r.kid i s
        | none => none
      | none => some (.val (.dat d))
    | _, _ => none
  | _, _, _ => none
theorem p_dget2 (ha : EvP K n as ta da) (hb : EvP K n as tb db) (hc : EvP K n as tc dc) : EvP K n as (tDGet2 ta tb tc) (dDGet2 da db dc) := by
  intro F H σ E fp L R r' e Q q
  unfold dDGet2 at e
  split at e
  · next r rk d ea eb ec =>
    split at e
    · next l kss k es ek =>
      refine ha L R ea fun x F1 H1 f1 g1 r1 n1 o1 => ?_
      have R1 := R.grow g1
      obtain ⟨fq1, ow1⟩ := r1.own R1 es
      obtain ⟨a, kvs1, u1, fq1', rfl, hH1, hk1, rd1, hkk1, ll1, _⟩ := ow1.dct_inv rfl
      refine ⟨a, rfl, .inl ⟨kvs1, rd1⟩, hb L R1 eb fun y F2 H2 f2 g2 r2 n2 o2 => hc L (R1.grow g2) ec fun z F3 H3 f3 g3 r3 n3 o3 => ?_⟩
      have R3 := (R1.grow g2).grow g3
      have r1' := (r1.grow R1 g2).grow (R1.grow g2) g3
      have ky := r2.key ek
      subst ky
      obtain ⟨fq, ow⟩ := r1'.own R3 es
      obtain ⟨a', kvs, u, fq', ea', hH, hk, rd, hkk, ll, _⟩ := ow.dct_inv rfl
      cases ea'
      have gg : Grow F H [] F3 H3 [] := (((g1.seq0 g2).drop).seq0 g3).drop
      cases hi : kix (kss.map (·.1)) k with
      | none =>
        rw [hi] at e
        cases e
        exact ⟨none, .inl ⟨kvs, k, rd, rfl, by rw [valV_kix, hkk, hi]; rfl⟩, q z F3 H3 f3 (((g1.seq0 g2).drop).seq0 g3) r3 n3 o3⟩
      | some i =>
        rw [hi] at e
        dsimp only at e
        split at e
        · next s hs =>
          obtain ⟨w, f, hw, ow2⟩ := ll.nth hs
          refine ⟨some w, .inl ⟨kvs, k, rd, rfl, by rw [valV_kix, hkk, hi]; exact hw.symm⟩, ?_⟩
          exact q w F3 H3 [] gg (r1'.kid R3 es hH (by rw [hk]; exact hw) hs ow2 e) List.nodup_nil (fun _ m => nomatch m)
        · cases e
    · cases e
  · cases e
variable {tt : TT} {dte : En → Option (Bool × En)}
def fixN : List Str → Str → Option Nat
  | [], _ => none
  | a :: r, k => if a = k then some 0 else (fixN r k).map (· + 1)
theorem lookup_fix (f : Str) : ∀ fs : List (Str × V), fs.lookup f = (fixN (fs.map (·.1)) f).bind fun i => (fs.map (·.2))[i]?
  | [] => rfl
  | (a, b) :: r => by
    by_cases e : a = f
    · subst e; simp [List.lookup, fixN]
    · have : (f == a) = false := by simpa using fun z => e z.symm
      simp only [List.lookup, this, List.map_cons, fixN, if_neg e]
      rw [lookup_fix f r]
      cases fixN (r.map (·.1)) f <;> simp
theorem fixN_take {f : Str} : ∀ {l : List Str} {j : Nat} (k : Nat), fixN l f = some j → j < k → fixN (l.take k) f = some j
  | [], _, _, h, _ => by simp [fixN] at h
  | a :: r, j, 0, _, hk => by omega
  | a :: r, j, k + 1, h, hk => by
    rw [List.take_succ_cons]
    unfold fixN at h ⊢
    split at h
    · next e => cases h; rw [if_pos e]
    · next e =>
      obtain ⟨i, hi, rfl⟩ := Option.map_eq_some_iff.mp h
      rw [if_neg e, fixN_take k hi (by omega)]; rfl
theorem fixN_take_none {f : Str} : ∀ {l : List Str} (k : Nat), fixN l f = none → fixN (l.take k) f = none
  | [], k, _ => by simp [fixN]
  | a :: r, 0, _ => rfl
  | a :: r, k + 1, h => by
    rw [List.take_succ_cons]
    unfold fixN at h ⊢
    split at h
    · cases h
    · next e => rw [if_neg e, fixN_take_none k (Option.map_eq_none_iff.mp h)]; rfl
theorem fixN_take_out {f : Str} : ∀ {l : List Str} {j : Nat} (k : Nat), fixN l f = some j → k ≤ j → fixN (l.take k) f = none
  | [], _, _, h, _ => by simp [fixN] at h
  | a :: r, j, 0, _, _ => rfl
  | a :: r, j, k + 1, h, hk => by
    rw [List.take_succ_cons]
    unfold fixN at h ⊢
    split at h
    · cases h; omega
    · next e =>
      obtain ⟨i, hi, rfl⟩ := Option.map_eq_some_iff.mp h
      rw [if_neg e, fixN_take_out k hi (by omega)]; rfl
theorem putF_in {f : Str} {v : V} : ∀ {fs : List (Str × V)} {j : Nat}, fixN (fs.map (·.1)) f = some j → (putF f v fs).map (·.1) = fs.map (·.1) ∧ (putF f v fs).map (·.2) = (fs.map (·.2)).set j v
  | [], _, h => by simp [fixN] at h
  | (a, b) :: r, j, h => by
    rw [List.map_cons] at h
    unfold fixN at h
    unfold putF
    split at h
    · next e => cases h; rw [if_pos e]; exact ⟨rfl, rfl⟩
    · next e =>
      obtain ⟨i, hi, rfl⟩ := Option.map_eq_some_iff.mp h
      rw [if_neg e]
      obtain ⟨h1, h2⟩ := putF_in (v := v) hi
      exact ⟨by rw [List.map_cons, List.map_cons, h1], by rw [List.map_cons, List.map_cons, h2]; rfl⟩
theorem putF_out {f : Str} {v : V} : ∀ {fs : List (Str × V)}, fixN (fs.map (·.1)) f = none → putF f v fs = fs ++ [(f, v)]
  | [], _ => rfl
  | (a, b) :: r, h => by
    rw [List.map_cons] at h
    unfold fixN at h
    unfold putF
    split at h
    · cases h
    · next e => rw [if_neg e, putF_out (Option.map_eq_none_iff.mp h)]; rfl
theorem fixN_get {f : Str} : ∀ {l : List Str} {j : Nat}, fixN l f = some j → l[j]? = some f
  | [], _, h => by simp [fixN] at h
  | a :: r, j, h => by
    unfold fixN at h
    split at h
    · next e => cases h; simp [e]
    · obtain ⟨i, hi, rfl⟩ := Option.map_eq_some_iff.mp h
      simpa using fixN_get hi
theorem Own.ins_inv {c : Nat} {ss : List S} (o : Own K F H v s fp) (e : s = .ins c ss) :
    ∃ a C dx fs fq, v = .ref a ∧ H a = some (.ins C dx fs) ∧ clsOf K c C ∧ H dx = some (.own a) ∧ fs.map (·.1) = (clsFld c).take ss.length ∧ ss.length ≤ (clsFld c).length ∧ OwnL K F H (fs.map (·.2)) ss fq ∧ fp = a :: dx :: fq := by
  cases o with
  | dat _ => cases e
  | con => cases e
  | @node a ob _ ex fq h hd ll =>
    subst e
    cases ob with
    | ins C dx fs =>
      obtain ⟨h1, rfl, h3, h4, h5⟩ := hd
      exact ⟨a, C, dx, fs, fq, rfl, h, h1, h3, h4, h5, ll, rfl⟩
    | frz o u => cases u <;> exact hd.elim
    | _ => exact hd.elim
  | lck => cases e
def dFld (c j : Nat) (da : En → Option Rs) (E : En) : Option Rs := match da E with
  | some r => match r.at E with
    | some (.ins c' ss) => if c' = c then match ss[j]? with
        | some s => r.kid j s
        | none => none
      else none
    | _ => none
  | none => none
theorem p_fld {c j : Nat} {C : Addr} {f : Str} (hC : clsOf K c C) (cl : Cls K C) (na : NoAttr K C f) (hf : fixN (clsFld c) f = some j) (ha : EvP K n as ta da) : EvP K n as (tFld K ta f) (dFld c j da) := by
  intro F H σ E fp L R r' e Q q
  unfold dFld at e
  split at e
  · next r ea =>
    split at e
    · next c' ss es =>
      split at e
      · next hc =>
        subst hc
        split at e
        · next s hs =>
          refine ha L R ea fun x F1 H1 f1 g1 r1 n1 o1 => ?_
          have R1 := R.grow g1
          obtain ⟨fq, o⟩ := r1.own R1 es
          obtain ⟨a, C', dx, fs, fq', rfl, hH, hC', _, hn, _, ll, _⟩ := o.ins_inv rfl
          cases hC.one hC'
          obtain ⟨w, f', hw, ow⟩ := ll.nth hs
          refine ⟨a, C, dx, fs, w, rfl, hH, cl, na, ?_, ?_⟩
          · rw [lookup_fix, hn, fixN_take _ hf (List.getElem?_eq_some_iff.mp hs).1]; exact hw
          · exact q w F1 H1 [] g1.drop (r1.kid R1 es hH hw hs ow e) List.nodup_nil (fun _ m => nomatch m)
        · cases e
      · cases e
    · cases e
  · cases e
def oFPut (c j : Nat) (t s : S) : Option (S × S) := match t with
  | .ins c' ss => if c' = c then if j < ss.length then some (.ins c (ss.set j s), .dat .none) else if j = ss.length then some (.ins c (ss ++ [s]), .dat .none) else none else none
  | _ => none
def rFPut (K : PySem.W.Frag) (f : Str) (u y : V) (H : Hp) (Q : VK) : Prop := ∃ a C dx fs, u = .ref a ∧ H a = some (.ins C dx fs) ∧ Cls K C ∧ NoAttr K C f ∧ fs.length < 1000 ∧ Q .non (upd H a (.ins C dx (putF f y fs)))
theorem fld_few : ∀ c, (clsFld c).length < 900
  | 0 | 1 | 2 | 3 | 4 => by decide
  | _ + 5 => by simp [clsFld]
theorem nd_fput {c j : Nat} {C : Addr} {f : Str} (hC : clsOf K c C) (cl : Cls K C) (na : NoAttr K C f) (hf : fixN (clsFld c) f = some j) : Nd1 K (rFPut K f) (oFPut c j) := by
  intro F H u y t s t' c1 fp1 fr sub ot os nd of e Q q
  unfold oFPut at e
  split at e
  · next c' ss =>
    split at e
    · next hc =>
      subst hc
      obtain ⟨a, C', dx, fs, fq, rfl, hH, hC', hdx, hn, hle, ll, rfl⟩ := ot.ins_inv rfl
      cases hC.one hC'
      have len : fs.length = ss.length := by have := ll.length; rwa [List.length_map] at this
      have nda : a ∉ fr := fun m => (List.nodup_append.mp nd).2.2 a m a List.mem_cons_self rfl
      have ndx : dx ∉ fr := fun m => (List.nodup_append.mp nd).2.2 dx m dx (List.mem_cons_of_mem _ List.mem_cons_self) rfl
      have nd2 := (List.nodup_append.mp nd).2.1
      have nq : a ∉ fq := fun m => (List.nodup_cons.mp nd2).1 (List.mem_cons_of_mem _ m)
      have nax : a ≠ dx := fun z => (List.nodup_cons.mp nd2).1 (by rw [z]; exact List.mem_cons_self)
      have nxq : dx ∉ fq := (List.nodup_cons.mp (List.nodup_cons.mp nd2).2).1
      have fa : F a = none := of a (List.mem_append_right _ List.mem_cons_self)
      have few := fld_few c'
      refine ⟨a, C, dx, fs, rfl, hH, cl, na, by omega, ?_⟩
      have g0 : Grow F H [a] F (upd H a (.ins C dx (putF f y fs))) [a] := Grow.write sub fa
      have key : ∀ (ss' : List S) (g : List Addr), OwnL K F (upd H a (.ins C dx (putF f y fs))) ((putF f y fs).map (·.2)) ss' g → (putF f y fs).map (·.1) = (clsFld c').take ss'.length → ss'.length ≤ (clsFld c').length → (∀ b ∈ g, b ∈ fr ++ fq) → g.Nodup →
          Q .non (upd H a (.ins C dx (putF f y fs))) ∨ True → (t' = .ins c' ss' ∧ c1 = .dat .none) → Q .non (upd H a (.ins C dx (putF f y fs))) := by
        intro ss' g l hnm hl sb ndg _ ht
        obtain ⟨rfl, rfl⟩ := ht
        have ow : Own K F (upd H a (.ins C dx (putF f y fs))) (.ref a) (.ins c' ss') (a :: dx :: g) := by
          have := Own.node (K := K) (F := F) (H := upd H a (.ins C dx (putF f y fs))) (s := .ins c' ss') (ex := [dx]) upd_same (show Head K _ a (.ins C dx (putF f y fs)) (.ins c' ss') [dx] from ⟨hC, rfl, by rw [upd_ne nax.symm]; exact hdx, hnm, hl⟩) l
          exact this
        have na' : a ∉ g := fun m => (List.mem_append.mp (sb a m)).elim nda nq
        have nx' : dx ∉ g := fun m => (List.mem_append.mp (sb dx m)).elim ndx nxq
        refine q .non F _ [] (a :: dx :: g) (g0.wide (fun b m => by rw [List.mem_singleton.mp m]; exact List.mem_append_right _ List.mem_cons_self) fun b m => ?_) ow (.dat .non) ?_ fun b m => ?_
        · left
          rw [List.nil_append] at m
          rcases List.mem_cons.mp m with rfl | m
          · exact List.mem_append_right _ List.mem_cons_self
          · rcases List.mem_cons.mp m with rfl | m
            · exact List.mem_append_right _ (List.mem_cons_of_mem _ List.mem_cons_self)
            · rcases List.mem_append.mp (sb b m) with m | m
              · exact List.mem_append_left _ m
              · exact List.mem_append_right _ (List.mem_cons_of_mem _ (List.mem_cons_of_mem _ m))
        · rw [List.nil_append]
          exact List.nodup_cons.mpr ⟨fun m => (List.mem_cons.mp m).elim nax na', List.nodup_cons.mpr ⟨nx', ndg⟩⟩
        · rw [List.nil_append] at m
          rcases List.mem_cons.mp m with rfl | m
          · exact fa
          · rcases List.mem_cons.mp m with rfl | m
            · exact of _ (List.mem_append_right _ (List.mem_cons_of_mem _ List.mem_cons_self))
            · rcases List.mem_append.mp (sb b m) with m | m
              · exact of b (List.mem_append_left _ m)
              · exact of b (List.mem_append_right _ (List.mem_cons_of_mem _ (List.mem_cons_of_mem _ m)))
      have lo := ll.off sub (o := .ins C dx (putF f y fs)) fa nq
      have oo := os.off sub (o := .ins C dx (putF f y fs)) fa nda
      have ndfq : fq.Nodup := (List.nodup_cons.mp (List.nodup_cons.mp nd2).2).2
      have dj : ∀ b ∈ fr, b ∉ fq := fun b m m2 => (List.nodup_append.mp nd).2.2 b m b (List.mem_cons_of_mem _ (List.mem_cons_of_mem _ m2)) rfl
      split at e
      · next hj =>
        cases e
        have hfx : fixN (fs.map (·.1)) f = some j := by rw [hn]; exact fixN_take _ hf hj
        obtain ⟨p1, p2⟩ := putF_in (v := y) hfx
        obtain ⟨k1, k2, g, lg, pg, pq⟩ := OwnL.repl (i := j) lo (by rw [List.length_map]; omega) oo
        rw [← p2] at lg
        have sb : ∀ b ∈ g, b ∈ fr ++ fq := fun b m => by
          rcases List.mem_append.mp (pg.mem_iff.mp m) with m | m
          · exact List.mem_append_left _ m
          · exact List.mem_append_right _ (pq.mem_iff.mpr (List.mem_append_right _ m))
        have ndg : g.Nodup := pg.nodup_iff.mpr (nodup_two (List.nodup_append.mp nd).1 (List.nodup_append.mp (pq.nodup_iff.mp ndfq)).2.1 fun b m b2 m2 z => by
          subst z
          exact dj b m (pq.mem_iff.mpr (List.mem_append_right _ m2)))
        exact key _ g lg (by rw [p1, hn, List.length_set]) (by rw [List.length_set]; exact hle) sb ndg (.inr trivial) ⟨rfl, rfl⟩
      · split at e
        · next hj1 hj =>
          cases e
          subst hj
          have hfx : fixN (fs.map (·.1)) f = none := by rw [hn]; exact fixN_take_out _ hf (Nat.le_refl _)
          have pe := putF_out (v := y) hfx
          have l2 := lo.append (OwnL.cons oo .nil)
          rw [List.append_nil] at l2
          have hlt : ss.length < (clsFld c').length := (List.getElem?_eq_some_iff.mp (fixN_get hf)).1
          refine key (ss ++ [s]) (fq ++ fr) ?_ ?_ ?_ ?_ ?_ (.inr trivial) ⟨rfl, rfl⟩
          · rw [show (putF f y fs).map (·.2) = fs.map (·.2) ++ [y] by rw [pe, List.map_append]; rfl]; exact l2
          · rw [pe, List.map_append, hn, List.length_append, List.length_singleton, List.take_succ, fixN_get hf]; rfl
          · rw [List.length_append, List.length_singleton]; omega
          · intro b m
            exact (List.mem_append.mp m).elim (fun m => List.mem_append_right _ m) fun m => List.mem_append_left _ m
          · exact nodup_two ndfq (List.nodup_append.mp nd).1 fun b m b2 m2 z => by subst z; exact dj b m2 m
        · cases e
    · cases e
  · cases e
def dFPut (c j : Nat) (da : En → Option Rs) (de : En → Option (S × En)) (E : En) : Option Out := match de E with
  | some (s, E1) => match da E1 with
    | some (.pl p) => stepAt (oFPut c j) E1 p s
    | _ => none
  | none => none
theorem s_fput {c j : Nat} {C : Addr} {f : Str} (hC : clsOf K c C) (cl : Cls K C) (na : NoAttr K C f) (hf : fixN (clsFld c) f = some j) (ha : EvP K n as ta da) (he : EvE K n as te de) : EvS K n as W (sFld K ta te f) (dFPut c j da de) := by
  intro F H σ E fp L R o e D g
  unfold dFPut at e
  split at e
  · next s E1 ee =>
    split at e
    · next p ea =>
      refine he L R ee fun v F1 H1 fr fp1 g1 R1 ov nd of => ha L R1 ea fun x F2 H2 f2 g2 r2 n2 o2 => ?_
      have R2 := R1.grow g2
      have g2d := g2.drop
      have ov2 : Own K F2 H2 v s fr := ov.grow g2d fun _ _ m => nomatch m
      have of2 : ∀ a ∈ fr, F2 a = none := fun a m => by
        obtain ⟨o, eo⟩ := ov.there a m
        exact g2d.off a (by rw [eo]; exact fun z => nomatch z) (fun z => nomatch z) (of a m)
      unfold stepAt at e
      split at e
      · next t et =>
        split at e
        · next t' c' eo =>
          cases e
          have gg : Grow F H fp F2 H2 (fr ++ fp1) := by
            have := g1.trans (g2d.ours (fr ++ fp1))
            simpa using this
          have fin := mut1 (nd_fput hC cl na hf) R2 r2 ov2 nd of2 et eo (Q := fun _ H4 => D.nx σ H4) fun v F' H' fv fp' g4 R4 ov4 nd4 of4 => ?_
          · obtain ⟨a, C', dx, fs, rfl, h1, h2, h3, h4, h5⟩ := fin
            exact ⟨a, C', dx, fs, rfl, h1, h2, h3, h4, h5⟩
          · exact g σ F' H' fp' L ((gg.trans g4).less fun a m => List.mem_append_right _ m) R4
        · cases e
      · cases e
    · cases e
  · cases e
def tIns (C : Addr) (m : Str) (ta : TE) : TE := fun σ H Q => ta σ H fun x H1 => ∃ a dx fs, x = .ref a ∧ H1 a = some (.ins C dx fs) ∧ fs.lookup m = none ∧ Q x H1
def dIns (c : Nat) (da : En → Option Rs) (E : En) : Option Rs := match da E with
  | some r => match r.at E with
    | some (.ins c' _) => if c' = c then some r else none
    | _ => none
  | none => none
theorem p_ins {c : Nat} {C : Addr} {m : Str} (hC : clsOf K c C) (hf : fixN (clsFld c) m = none) (ha : EvP K n as ta da) : EvP K n as (tIns C m ta) (dIns c da) := by
  intro F H σ E fp L R r' e Q q
  unfold dIns at e
  split at e
  · next r ea =>
    split at e
    · next c' ss es =>
      split at e
      · next hc =>
        subst hc
        cases e
        refine ha L R ea fun x F1 H1 f1 g1 r1 n1 o1 => ?_
        obtain ⟨fq, o⟩ := r1.own (R.grow g1) es
        obtain ⟨a, C', dx, fs, fq', rfl, hH, hC', _, hn, _, ll, _⟩ := o.ins_inv rfl
        cases hC.one hC'
        exact ⟨a, dx, fs, rfl, hH, by rw [lookup_fix, hn, fixN_take_none _ hf]; rfl, q _ F1 H1 f1 g1 r1 n1 o1⟩
      · cases e
    · cases e
  · cases e
theorem e_meth {C : Addr} {m : Str} {k : Nat} {g : List S → Option (S × List S)} {EX : XK} {dd : En → Option (S × En)} (h : EvE K n as (tCall (spMv K k g) [] EX (tCons (tIns C m ta) tr)) dd) : EvE K n as (tMeth C m (spMv K k g) [] EX ta tr) dd := h
theorem ghs_all {σ : L2.St} (L : σ.length = n) (R : Rep K F H (σ ++ (as ++ vs.map some)) E fp) : ∀ (m j : Nat) (rs : List Rs), ghs vs.length E j m = some rs → j + m ≤ vs.length → RsAll K F H (σ ++ (as ++ vs.map some)) E ((vs.drop j).take m) rs [] := by
  intro m
  induction m with
  | zero =>
    intro j rs e hj
    cases e
    rw [List.take_zero]
    exact .nil
  | succ m ih =>
    intro j rs e hj
    simp only [ghs] at e
    split at e
    · next r rs' e1 e2 =>
      cases e
      have hv : vs[j]? = some (vs[j]'(by omega)) := List.getElem?_eq_getElem _
      rw [List.drop_eq_getElem_cons (by omega), List.take_succ_cons]
      exact RsAll.cons (f := []) (g := []) (rs_root R (gh_at L R hv) e1) (ih (j + 1) rs' e2 (by omega))
    · cases e
def dMkA (k : Nat) (E : En) : Option (List Rs) := match dGh (k + 1) k E, ghs (k + 1) E 0 k with
  | some r, some rs => some (r :: rs)
  | _, _ => none
theorem dMkA_len {k : Nat} {rs : List Rs} (h : dMkA k E = some rs) : rs.length = k + 1 := by
  unfold dMkA at h
  split at h
  · next r rs' e1 e2 => cases h; rw [List.length_cons, ghs_len _ e2]
  · cases h
theorem a_mk : EvA K n (as ++ (vs ++ [x]).map some) (tVs (x :: vs)) (dMkA vs.length) := by
  intro F H σ E fp L R rs e Q q
  unfold dMkA at e
  split at e
  · next r rs' e1 e2 =>
    cases e
    have hl : (vs ++ [x]).length = vs.length + 1 := by simp
    have h2 := ghs_all L R vs.length 0 rs' (by rw [hl]; exact e2) (by rw [hl]; omega)
    rw [List.drop_zero, List.take_left] at h2
    unfold dGh at e1
    rw [if_pos (Nat.lt_succ_self _)] at e1
    have hv : (vs ++ [x])[vs.length]? = some x := by simp
    have h1 := rs_root R (gh_at L R hv) (by rw [hl]; exact e1)
    exact q (x :: vs) F H [] (.refl R.sub []) (RsAll.cons (f := []) (g := []) h1 h2) List.nodup_nil (fun _ m => nomatch m)
  · cases e
def eMk (c k : Nat) (g : List S → Option (S × List S)) (E : En) : Option (S × En) := match eCall g (dMkA k) (E ++ [.own (.ins c [])]) with
  | some (.dat .none, E2) => match popS 1 E2 with
    | some ([s], E3) => some (s, E3)
    | _ => none
  | _ => none
theorem e_make {c m : Nat} {C : Addr} {g : List S → Option (S × List S)} {EX : XK} (hC : clsOf K c C) (hl : EvL K n as tr dl) : EvE K n as (tMake C (spMv K m g) [] EX tr) (eEff dl fun k => dWhen (k + 1) m (eMk c k g)) := by
  have hc : ∀ vs : List V, EvE K n (as ++ vs.map some) (fun _ H Q => ∀ x dx, H x = none → H dx = none → dx ≠ x → spMv K m g (.ref x :: (vs ++ [])) (upd (upd H dx (.own x)) x (.ins C dx [])) (fun v H2 => v = .non ∧ Q (.ref x) H2) EX) (dWhen (vs.length + 1) m (eMk c vs.length g)) := by
    intro vs F H σ E fp L R s E' e Q q x dx hx hdx ne
    unfold dWhen at e
    split at e
    · next hk =>
      unfold eMk at e
      split at e
      · next E2 e2 =>
        split at e
        · next s' E3 e3 =>
          cases e
          have ga : Grow F H [] F (upd H dx (.own x)) [dx] := Grow.alloc R.sub hdx
          have hx1 : (upd H dx (.own x)) x = none := by rw [upd_ne (fun z => ne z.symm)]; exact hx
          have gb : Grow F (upd H dx (.own x)) [] F (upd (upd H dx (.own x)) x (.ins C dx [])) [x] := Grow.alloc ga.sub hx1
          have g1 : Grow F H [] F (upd (upd H dx (.own x)) x (.ins C dx [])) [x, dx] := ((ga.drop.trans (gb.drop)).f |> fun _ => (ga.seq0 gb.drop).less (fun a m => m) |> fun g => (ga.trans (gb.wide (fq := [dx]) (fr := [x, dx]) (fun _ m => nomatch m) fun a m => by
            rcases List.mem_cons.mp m with rfl | m
            · exact .inr hx1
            · exact .inl m)))
          have ow : Own K F (upd (upd H dx (.own x)) x (.ins C dx [])) (.ref x) (.ins c []) [x, dx] := by
            have := Own.node (K := K) (F := F) (H := upd (upd H dx (.own x)) x (.ins C dx [])) (s := .ins c []) (ex := [dx]) (fp := []) upd_same (show Head K _ x (.ins C dx []) (.ins c []) [dx] from ⟨hC, rfl, by rw [upd_ne ne, upd_same], rfl, Nat.zero_le _⟩) .nil
            exact this
          have nd2 : [x, dx].Nodup := by simp; exact fun z => ne z.symm
          have of2 : ∀ a ∈ [x, dx], F a = none := fun a m => by
            rcases List.mem_cons.mp m with rfl | m
            · exact fresh_none R.sub hx
            · rw [List.mem_singleton.mp m]; exact fresh_none R.sub hdx
          have R1 := (R.grow g1).push ow (R.apart_new g1 nd2) of2
          have eas : as ++ vs.map some ++ [some (V.ref x)] = as ++ (vs ++ [V.ref x]).map some := by simp
          rw [eas] at R1
          have fin := e_call (tr := tVs (V.ref x :: vs)) (EX := EX) (g := g) (m := m) a_mk (fun E rs h => (dMkA_len h).trans hk) L R1 e2 (Q := fun v H2 => v = .non ∧ Q (.ref x) H2) fun v F' H' fr fp' g2 R2 ov nd of => ?_
          · exact fin
          · have hv : v = .non := by cases (ov.dat_inv rfl).1; rfl
            refine ⟨hv, ?_⟩
            rw [← eas] at R2
            obtain ⟨h1, h2, l, R3, pm⟩ := Rep.popN (as := as ++ vs.map some) 1 (vs := [V.ref x]) rfl R2 e3
            obtain ⟨f9, o9, e9⟩ : ∃ f9, Own K F' H' (V.ref x) s f9 ∧ h2 = f9 := by
              cases l with
              | cons a t => cases t; exact ⟨_, a, List.append_nil _⟩
            subst e9
            have nd3 := pm.nodup_iff.mp R2.nd
            refine q (.ref x) F' H' h2 h1 ?_ R3 o9 nd3 fun a m => R2.off a (pm.mem_iff.mpr (List.mem_append_left _ m))
            have gx : Grow F H fp F' H' (fr ++ fp') := (g1.ours fp).trans g2
            exact gx.less fun a m => List.mem_append_right _ (pm.mem_iff.mpr m)
        · cases e
      · cases e
    · cases e
  intro F H σ E fp L R s E' e Q q
  exact e_eff (C := fun vs H Q => ∀ x dx, H x = none → H dx = none → dx ≠ x → spMv K m g (.ref x :: (vs ++ [])) (upd (upd H dx (.own x)) x (.ins C dx [])) (fun v H2 => v = .non ∧ Q (.ref x) H2) EX) (dcc := fun k => dWhen (k + 1) m (eMk c k g)) hl hc L R e q
end Mv
set_option maxHeartbeats 6400000
namespace PySem
open PySem.W PySem.SeqAt PyProof.Rows
end PySem
namespace L2
open PySem PySem.Spec PyProof.Rows PySem.W PySem.SeqAt
end L2
set_option maxHeartbeats 4000000
namespace Mv
open PySem PySem.Spec PyProof.Rows L2
variable {K : PySem.W.Frag} {F F' F1 F2 F3 H H' H1 H2 H3 : Hp} {v u x y w : V} {vs ws xs : List V} {s t c : S} {ss tts : List S} {fp fq fr fp' fp1 fp2 f1 f2 : List Addr} {ρ as : Ro} {E E' : En} {n : Nat}
variable {W : WXm} {te ta tb tc tk tv td : TE} {d da db dc dk dv : En → Option Rs} {tr : TA} {dr : En → Option (List Rs)} {de df : En → Option (S × En)} {tt : TT} {dte : En → Option (Bool × En)} {Q : VK} {dl : En → Option (Nat × En)}
def atK : List Int → Int → Option Nat
  | [], _ => none
  | a :: r, k => if a = k then some 0 else (atK r k).map (· + 1)
variable {js : List Nat}
theorem wipe_get (σ : L2.St) : ∀ (js : List Nat) (i : Nat), (wipe σ js)[i]? = if i ∈ js then (if i < σ.length then some none else none) else σ[i]?
  | [], i => by simp [wipe]
  | j :: js, i => by
    unfold wipe
    have ih := wipe_get σ js i
    have hl := wipe_length σ js
    by_cases ij : j = i
    · subst ij
      by_cases h : j < σ.length
      · rw [List.getElem?_set_self (by omega)]; simp [h]
      · rw [List.getElem?_eq_none (by rw [List.length_set]; omega)]; simp [h]
    · rw [List.getElem?_set_ne ij, ih]
      have : i ≠ j := fun z => ij z.symm
      simp [this]
theorem wipe_wipe (σ : L2.St) (js : List Nat) : wipe (wipe σ js) js = wipe σ js := by
  apply List.ext_getElem?
  intro i
  rw [wipe_get, wipe_get]
  by_cases h : i ∈ js
  · simp [h, wipe_length]
  · simp [h]
theorem wipe_set {σ : L2.St} {i : Nat} {o : Option V} (h : i ∈ js) : wipe (σ.set i o) js = wipe σ js := by
  apply List.ext_getElem?
  intro k
  rw [wipe_get, wipe_get, List.length_set]
  by_cases hk : k ∈ js
  · simp [hk]
  · have : i ≠ k := fun z => hk (z ▸ h)
    simp [hk, List.getElem?_set_ne this]
def wipeE (E : En) : List Nat → En
  | [] => E
  | j :: js => slotSet (wipeE E js) j .no
theorem slotSet_len (E : En) (i : Nat) (e : Sl) : (slotSet E i e).length = E.length := by unfold slotSet; simp
theorem wipeE_no : ∀ {js : List Nat} {E : En}, (∀ j ∈ js, j < E.length) → ∀ j ∈ js, (wipeE E js)[j]? = some Sl.no
  | [], _, _, _, m => nomatch m
  | i :: js, E, h, j, m => by
    have len : ∀ (l : List Nat), (wipeE E l).length = E.length := fun l => by
      induction l with
      | nil => rfl
      | cons a r ih => unfold wipeE; rw [slotSet_len, ih]
    unfold wipeE
    by_cases ij : i = j
    · subst ij
      unfold slotSet
      rw [List.getElem?_set_self (by rw [List.length_map, len]; exact h i List.mem_cons_self)]
    · have m2 : j ∈ js := (List.mem_cons.mp m).resolve_left fun z => ij z.symm
      have ih := wipeE_no (fun k hk => h k (List.mem_cons_of_mem _ hk)) j m2
      unfold slotSet
      rw [List.getElem?_set_ne ij, List.getElem?_map, ih]; rfl
theorem Rep.wipeN {σ : L2.St} (R : Rep K F H (σ ++ as) E fp) : ∀ (js : List Nat), (∀ j ∈ js, j < σ.length) → ∃ fq, Rep K F H (L2.wipe σ js ++ as) (wipeE E js) fq ∧ ∀ a ∈ fq, a ∈ fp
  | [], _ => ⟨fp, R, fun _ m => m⟩
  | j :: js, h => by
    obtain ⟨fq, R1, sb⟩ := Rep.wipeN R js fun k hk => h k (List.mem_cons_of_mem _ hk)
    have hj : j < (L2.wipe σ js).length := by rw [L2.wipe_length]; exact h j List.mem_cons_self
    obtain ⟨f2, R2, sb2⟩ := R1.wipe (j := j) (by rw [List.length_append]; omega) none
    rw [← set_app hj] at R2
    exact ⟨f2, R2, fun a m => sb a (sb2 a m)⟩
theorem Rep.unwipe {σ : L2.St} : ∀ {js : List Nat} {E : En} {fp : List Addr}, Rep K F H (L2.wipe σ js ++ as) E fp → (∀ j ∈ js, j < σ.length) → (∀ j ∈ js, E[j]? = some Sl.no) → Rep K F H (σ ++ as) E fp
  | [], E, fp, R, _, _ => R
  | j :: js, E, fp, R, h, hn => by
    have hj : j < (L2.wipe σ js).length := by rw [L2.wipe_length]; exact h j List.mem_cons_self
    have R1 := Rep.forget (((L2.wipe σ js))[j]?.getD none) (show Rep K F H ((L2.wipe σ js).set j none ++ as) E fp from R) (hn j List.mem_cons_self)
    rw [← set_app (by rw [List.length_set]; exact hj), List.set_set] at R1
    have back : (L2.wipe σ js).set j ((L2.wipe σ js)[j]?.getD none) = L2.wipe σ js := by
      apply List.ext_getElem?
      intro i
      by_cases ij : j = i
      · subst ij
        rw [List.getElem?_set_self hj, List.getElem?_eq_getElem hj]; rfl
      · rw [List.getElem?_set_ne ij]
    rw [back] at R1
    exact Rep.unwipe R1 (fun k hk => h k (List.mem_cons_of_mem _ hk)) fun k hk => hn k (List.mem_cons_of_mem _ hk)
def EvGw (K : PySem.W.Frag) (n : Nat) (js : List Nat) (g : TG) (bd : Rs → En → Option En) : Prop :=
  ∀ {as : Ro} {F H : Hp} {σ : L2.St} {E E' : En} {fp : List Addr} {v : V} {r : Rs}, σ.length = n → Rep K F H (σ ++ as) E fp → RsAt K F H (σ ++ as) E v r [] → bd r E = some E' → ∀ {Q : L2.St → Hp → Prop},
    (∀ (σ' : L2.St) F' H' fp', σ'.length = n → wipe σ' js = wipe σ js → Grow F H fp F' H' fp' → Rep K F' H' (σ' ++ as) E' fp' → Q σ' H') → g v σ H Q
theorem gw_name {i : Nat} (hi : i < n) (hm : i ∈ js) : EvGw K n js (gName i) (bName i) := by
  intro as F H σ E E' fp v r L R a e Q q
  have hl : i < (σ ++ as).length := by rw [List.length_append]; omega
  cases r with
  | val s =>
    cases e
    obtain ⟨fq, R2, sb⟩ := R.setSlot (e := .own s) (fr := []) hl a R.nd (fun _ m => nomatch m)
    exact q _ F H fq (by rw [List.length_set]; exact L) (wipe_set hm) ((Grow.refl R.sub fp).less fun a m => by simpa using sb a m) (by rw [set_app (by omega)]; exact R2)
  | pl p =>
    unfold bName at e
    dsimp only at e
    split at e
    · cases e
    · next hp =>
      cases e
      obtain ⟨a1, a2, a3⟩ := a
      obtain ⟨fq, R2, sb⟩ := R.setSlot (e := .bor p) (fr := []) hl ⟨rfl, hp, a2, a3⟩ R.nd (fun _ m => nomatch m)
      exact q _ F H fq (by rw [List.length_set]; exact L) (wipe_set hm) ((Grow.refl R.sub fp).less fun a m => by simpa using sb a m) (by rw [set_app (by omega)]; exact R2)
def EvGsw (K : PySem.W.Frag) (n : Nat) (js : List Nat) (g : TGs) (bd : List PyData → En → Option En) : Prop :=
  ∀ {as : Ro} {F H : Hp} {σ : L2.St} {E E' : En} {fp : List Addr} {vs : List V} {ds : List PyData}, σ.length = n → Rep K F H (σ ++ as) E fp → DqAll K F vs ds → bd ds E = some E' → ∀ {Q : L2.St → Hp → Prop},
    (∀ (σ' : L2.St) F' H' fp', σ'.length = n → wipe σ' js = wipe σ js → Grow F H fp F' H' fp' → Rep K F' H' (σ' ++ as) E' fp' → Q σ' H') → g vs σ H Q
theorem gsw_nil : EvGsw K n js gNil bNil := by
  intro as F H σ E E' fp vs ds L R a e Q q
  cases a with
  | nil => cases e; exact ⟨rfl, q σ F H fp L rfl (.refl R.sub fp) R⟩
  | cons _ _ => cases e
theorem gsw_cons {g : TG} {gs : TGs} {b : Rs → En → Option En} {bs : List PyData → En → Option En} (hg : EvGw K n js g b) (hs : EvGsw K n js gs bs) : EvGsw K n js (gCons g gs) (bCons b bs) := by
  intro as F H σ E E' fp vs ds L R a e Q q
  cases a with
  | nil => cases e
  | @cons v vs d ds h t =>
    simp only [bCons] at e
    split at e
    · next E1 e1 =>
      exact ⟨v, vs, rfl, hg L R (r := .val (.dat d)) (Own.dat h) e1 fun σ1 F1 H1 fp1 L1 w1 g1 R1 => hs L1 R1 (DqAll.mono g1.f t) e fun σ2 F2 H2 fp2 L2 w2 g2 R2 => q σ2 F2 H2 fp2 L2 (w2.trans w1) (g1.trans g2) R2⟩
    · cases e
theorem gw_tup {gs : TGs} {bs : List PyData → En → Option En} {k : Nat} (hs : EvGsw K n js gs bs) : EvGw K n js (gTup K k gs) (bTup k bs) := by
  intro as F H σ E E' fp v r L R a e Q q
  unfold bTup at e
  split at e
  · next ds =>
    split at e
    · next hk =>
      obtain ⟨ad, xs, rfl, hq, da⟩ := Mv.Dq.tuple_inv ((show Own K F H v _ [] from a).dat_inv rfl).1
      exact ⟨ad, xs, rfl, SqT.mono R.sub hq, (Mv.DqAll.len da).trans hk, hs L R da e q⟩
    · cases e
  · cases e
def dLcG (rd : En → Nat → Option (Option Rs)) (js : List Nat) (bd : Rs → En → Option En) (dt : En → Option (Bool × En)) (de : En → Option (S × En)) : Nat → Nat → List S → En → Option (List S × En)
  | fuel, i, acc, E => match rd E i with
    | none => none
    | some none => some (acc, E)
    | some (some r) => match fuel with
      | 0 => none
      | fuel + 1 => match bd r E with
        | none => none
        | some E1 => match dt E1 with
          | some (true, E2) => match de E2 with
            | some (s, E3) => if acc.length < 100000 then dLcG rd js bd dt de fuel (i + 1) (acc ++ [s]) (wipeE E3 js) else none
            | none => none
          | some (false, E2) => dLcG rd js bd dt de fuel (i + 1) acc (wipeE E2 js)
          | none => none
def eLcG (src : En → Option Src) (js : List Nat) (bd : Rs → En → Option En) (dt : En → Option (Bool × En)) (de : En → Option (S × En)) (E : En) : Option (S × En) := match src E with
  | some c => match dLcG c.rd js bd dt de c.fuel 0 [] (wipeE (c.env ++ c.exE) js) with
    | some (acc, E') => some (.lst acc, stripE c E')
    | none => none
  | none => none
theorem e_lcG {wi : TI} {g : TG} {bd : Rs → En → Option En} {src : En → Option Src} (hjs : ∀ j ∈ js, j < n) (hi : EvI K n as wi src) (hg : EvGw K n js g bd) (ht : ∀ as, EvTE K n as tt dte) (he : ∀ as, EvE K n as te de) : EvE K n as (tLc wi g tt te js) (eLcG src js bd dte de) := by
  intro F H σ E fp L R s0 E0 e Q q
  unfold eLcG at e
  split at e
  · next c ec =>
    split at e
    · next acc0 E9 hd =>
      cases e
      refine hi L R ec fun J F1 H1 ex fpx g1' R1 hx spec => fun D hD => ?_
      have gD : Grow F1 H1 [] F1 (upd H1 D (.lst [])) [D] := Grow.alloc R1.sub hD
      have lt : ∀ {τ : L2.St}, τ.length = n → ∀ j ∈ js, j < τ.length := fun h j m => by rw [h]; exact hjs j m
      obtain ⟨fw, Rw, sbw⟩ := (R1.grow gD).wipeN js (lt L)
      have noOf : ∀ {ρ : Ro} {τ : L2.St} {F H : Hp} {X : En} {fq : List Addr}, τ.length = n → Rep K F H (τ ++ ρ) X fq → ∀ j ∈ js, (wipeE X js)[j]? = some Sl.no := fun {ρ τ F H X fq} hl RR => wipeE_no fun j m => by
        rw [RR.core.len, List.length_append]
        have := lt hl j m
        omega
      refine ⟨fun i m Hm => ∃ Fm Em fpm accV accS fa, Grow F1 H1 fpx Fm Hm (D :: (fa ++ fpm)) ∧ Rep K Fm Hm (wipe σ js ++ (as ++ ex.map some)) Em fpm ∧ (∀ j ∈ js, Em[j]? = some Sl.no) ∧ Hm D = some (.lst accV) ∧ OwnL K Fm Hm accV accS fa ∧
          (D :: (fa ++ fpm)).Nodup ∧ (∀ a ∈ D :: fa, Fm a = none) ∧ dLcG c.rd js bd dte de m i accS Em = some (acc0, E9),
        ⟨c.fuel, F1, _, fw, [], [], [], ?_, Rw, noOf L (R1.grow gD), upd_same, .nil, ?_, ?_, hd⟩, fun i m Hm hW => ?_⟩
      · have := gD.wide (fq := fpx) (fr := D :: ([] ++ fw)) (fun _ m => nomatch m) fun a m => ?_
        · exact this
        · rcases List.mem_cons.mp m with rfl | m
          · exact .inr hD
          · exact .inl (sbw a (by simpa using m))
      · refine List.nodup_cons.mpr ⟨fun m => ?_, by simpa using Rw.nd⟩
        obtain ⟨o, eo⟩ := R1.there D (sbw D (by simpa using m))
        rw [hD] at eo; cases eo
      · intro a m
        rw [List.mem_singleton.mp m]
        cases h : F1 D with
        | none => rfl
        | some o => rw [R1.sub D o h] at hD; cases hD
      · obtain ⟨Fm, Em, fpm, accV, accS, fa, gm, Rm, hno, hHD, lacc, nd, off, hl⟩ := hW
        have gm' : Grow F1 H1 fpx Fm Hm fpm := gm.less fun a m => List.mem_cons_of_mem _ (List.mem_append_right _ m)
        have Lw : (wipe σ js).length = n := by rw [wipe_length]; exact L
        obtain ⟨sp1, sp2⟩ := spec Fm Hm (wipe σ js) Em fpm Lw gm' Rm i
        rw [dLcG.eq_def] at hl
        dsimp only at hl
        have subD : (D :: fa ++ fpm).Nodup := by simpa using nd
        cases hr : c.rd Em i with
        | none => rw [hr] at hl; cases hl
        | some r0 => cases r0 with
          | none =>
            rw [hr] at hl
            cases hl
            refine .inl ⟨sp2 hr, ?_⟩
            have R3 : Rep K Fm Hm (σ ++ (as ++ ex.map some)) E9 fpm := Rm.unwipe (lt L) hno
            obtain ⟨fq9, R4, sb9⟩ := stripE_rep R3 hx
            refine q (.ref D) Fm Hm (D :: fa) fq9 (g1'.trans (gm.less fun a m => (List.mem_append.mp m).elim (fun m => (List.mem_cons.mp m).elim (fun z => by rw [z]; exact List.mem_cons_self) fun m => List.mem_cons_of_mem _ (List.mem_append_left _ m)) fun m => List.mem_cons_of_mem _ (List.mem_append_right _ (sb9 a m)))) R4 (Own.node (s := .lst acc0) (ex := []) hHD (show Head _ Hm D (.lst accV) (.lst acc0) [] from rfl) lacc) ?_ off
            have nd' := List.nodup_append.mp (show (D :: fa ++ fpm).Nodup by simpa using nd)
            exact List.nodup_append.mpr ⟨nd'.1, R4.nd, fun a m b m2 => nd'.2.2 a m b (sb9 b m2)⟩
          | some r =>
            rw [hr] at hl
            dsimp only at hl
            obtain ⟨go, yl⟩ := sp1 r hr
            cases m with
            | zero => cases hl
            | succ m =>
              dsimp only at hl
              refine .inr ⟨go, fun H' => ∃ Fm Em fpm accV accS fa, Grow F1 H1 fpx Fm H' (D :: (fa ++ fpm)) ∧ Rep K Fm H' (wipe σ js ++ (as ++ ex.map some)) Em fpm ∧ (∀ j ∈ js, Em[j]? = some Sl.no) ∧ H' D = some (.lst accV) ∧ OwnL K Fm H' accV accS fa ∧
                (D :: (fa ++ fpm)).Nodup ∧ (∀ a ∈ D :: fa, Fm a = none) ∧ dLcG c.rd js bd dte de m (i + 1) accS Em = some (acc0, E9), fun H' hN => ⟨m, Nat.lt_succ_self m, hN⟩, fun x H' hy => ?_⟩
              obtain ⟨rfl, ar⟩ := yl x H' hy
              split at hl
              · cases hl
              · next E1 e1 =>
                refine hg Lw Rm ar e1 fun σ1 Fg Hg fq L1 w1 gg R1' => ?_
                have w1' : wipe σ1 js = wipe σ js := w1.trans (wipe_wipe σ js)
                refine ⟨w1', ?_⟩
                -- D and what is made so far stand aside
                have aside0 : ∀ a ∈ D :: fa, a ∉ fpm := fun a m m2 => (List.nodup_append.mp subD).2.2 a m a m2 rfl
                have th0 : ∀ a ∈ D :: fa, ∃ o, H' a = some o := fun a m => by
                  rcases List.mem_cons.mp m with rfl | m
                  · exact ⟨_, hHD⟩
                  · exact lacc.there a m
                have hHDg : Hg D = some (.lst accV) := gg.keep D _ hHD (aside0 D List.mem_cons_self)
                have laccg : OwnL K Fg Hg accV accS fa := lacc.frame gg.f gg.sub fun a m o e => gg.keep a o e (aside0 a (List.mem_cons_of_mem _ m))
                have offg : ∀ a ∈ D :: fa, Fg a = none := fun a m => by
                  obtain ⟨o, eo⟩ := th0 a m
                  exact gg.off a (by rw [eo]; exact fun z => nomatch z) (aside0 a m) (off a m)
                have asideD : ∀ a ∈ D :: fa, a ∉ fq := fun a m m2 => by
                  rcases gg.new a m2 with z | z
                  · exact aside0 a m z
                  · obtain ⟨o, eo⟩ := th0 a m
                    rw [eo] at z; cases z
                have thD : ∀ a ∈ D :: fa, ∃ o, Hg a = some o := fun a m => by
                  rcases List.mem_cons.mp m with rfl | m
                  · exact ⟨_, hHDg⟩
                  · exact laccg.there a m
                have gfq : Grow F1 H1 fpx Fg Hg (D :: fa ++ fq) := by
                  have g0 : Grow F1 H1 fpx Fm H' (D :: fa ++ fpm) := gm.less fun a m => by simpa using m
                  exact g0.trans (gg.beside (D :: fa))
                have keepD : ∀ {F3 H3 fp3}, Grow Fg Hg fq F3 H3 fp3 → H3 D = some (.lst accV) ∧ OwnL K F3 H3 accV accS fa ∧ (∀ a ∈ D :: fa, F3 a = none) ∧ (∀ a ∈ D :: fa, a ∉ fp3) := fun {F3 H3 fp3} g3 => by
                  refine ⟨g3.keep D _ hHDg (asideD D List.mem_cons_self), laccg.frame g3.f g3.sub fun a m o e => g3.keep a o e (asideD a (List.mem_cons_of_mem _ m)), fun a m => ?_, fun a m m2 => ?_⟩
                  · obtain ⟨o, eo⟩ := thD a m
                    exact g3.off a (by rw [eo]; exact fun z => nomatch z) (asideD a m) (offg a m)
                  · rcases g3.new a m2 with z | z
                    · exact asideD a m z
                    · obtain ⟨o, eo⟩ := thD a m
                      rw [eo] at z; cases z
                have ndD : (D :: fa).Nodup := (List.nodup_append.mp subD).1
                split at hl
                · next E2 e2 =>
                  split at hl
                  · next s3 E3 e3 =>
                    split at hl
                    · next hlen =>
                      refine ht _ L1 R1' e2 fun F3 H3 fp3 g3 R3 => iteT (he _ L1 R3 e3 fun y F4 H4 fr fp4 g4 R4 ow nd4 of4 => ?_)
                      have g34 : Grow Fg Hg fq F4 H4 (fr ++ fp4) := g3.trans g4
                      obtain ⟨kD, kacc, koff, kas⟩ := keepD g34
                      refine ⟨accV, kD, by rw [lacc.length, sizeLine_eq]; omega, ?_⟩
                      obtain ⟨fq5, R5, sb5⟩ := R4.wipeN js (lt L1)
                      rw [w1'] at R5
                      have gw : Grow F4 H4 [D] F4 (upd H4 D (.lst (accV ++ [y]))) [D] := Grow.write R4.sub (koff D List.mem_cons_self)
                      have D4 : D ∉ fr ++ fp4 := kas D List.mem_cons_self
                      have R6 := R5.grow2 gw (fun a m m2 => D4 (by rw [← List.mem_singleton.mp m2]; exact List.mem_append_right _ (sb5 a m)))
                      have nDfa : D ∉ fa := (List.nodup_cons.mp ndD).1
                      have ow6 : Own K F4 (upd H4 D (.lst (accV ++ [y]))) y s3 fr := ow.grow gw fun a m m2 => D4 (by rw [← List.mem_singleton.mp m2]; exact List.mem_append_left _ m)
                      have acc6 : OwnL K F4 (upd H4 D (.lst (accV ++ [y]))) accV accS fa := kacc.frame gw.f gw.sub fun a m o e => gw.keep a o e fun m2 => nDfa (by rw [← List.mem_singleton.mp m2]; exact m)
                      have lall := acc6.append (OwnL.cons ow6 .nil)
                      rw [List.append_nil] at lall
                      refine ⟨F4, wipeE E3 js, fq5, accV ++ [y], accS ++ [s3], fa ++ fr, ?_, R6, noOf L1 R4, upd_same, lall, ?_, ?_, hl⟩
                      · have ga : Grow F1 H1 fpx F4 H4 (D :: fa ++ (fr ++ fp4)) := gfq.trans (g34.beside (D :: fa))
                        have gb : Grow F4 H4 (D :: fa ++ (fr ++ fp4)) F4 (upd H4 D (.lst (accV ++ [y]))) (D :: (fa ++ fr ++ fq5)) := gw.wide (fun a m => by rw [List.mem_singleton.mp m]; exact List.mem_append_left _ List.mem_cons_self) fun a m => by
                          left
                          rcases List.mem_cons.mp m with rfl | m
                          · exact List.mem_append_left _ List.mem_cons_self
                          · rcases List.mem_append.mp m with m | m
                            · rcases List.mem_append.mp m with m | m
                              · exact List.mem_append_left _ (List.mem_cons_of_mem _ m)
                              · exact List.mem_append_right _ (List.mem_append_left _ m)
                            · exact List.mem_append_right _ (List.mem_append_right _ (sb5 a m))
                        exact ga.trans gb
                      · refine List.nodup_cons.mpr ⟨fun m => ?_, ?_⟩
                        · rcases List.mem_append.mp m with m | m
                          · rcases List.mem_append.mp m with m | m
                            · exact nDfa m
                            · exact D4 (List.mem_append_left _ m)
                          · exact D4 (List.mem_append_right _ (sb5 D m))
                        · refine nodup_two (nodup_two (List.nodup_cons.mp ndD).2 (List.nodup_append.mp nd4).1 fun a m b m2 z => ?_) R5.nd fun a m b m2 z => ?_
                          · subst z; exact kas a (List.mem_cons_of_mem _ m) (List.mem_append_left _ m2)
                          · subst z
                            rcases List.mem_append.mp m with m | m
                            · exact kas a (List.mem_cons_of_mem _ m) (List.mem_append_right _ (sb5 a m2))
                            · exact (List.nodup_append.mp nd4).2.2 a m a (sb5 a m2) rfl
                      · intro a m
                        rcases List.mem_cons.mp m with rfl | m
                        · exact koff a List.mem_cons_self
                        · rcases List.mem_append.mp m with m | m
                          · exact koff a (List.mem_cons_of_mem _ m)
                          · exact of4 a m
                    · cases hl
                  · cases hl
                · next E2 e2 =>
                  refine ht _ L1 R1' e2 fun F3 H3 fp3 g3 R3 => iteF ?_
                  obtain ⟨kD, kacc, koff, kas⟩ := keepD g3
                  obtain ⟨fq5, R5, sb5⟩ := R3.wipeN js (lt L1)
                  rw [w1'] at R5
                  refine ⟨F3, wipeE E2 js, fq5, accV, accS, fa, ?_, R5, noOf L1 R3, kD, kacc, ?_, koff, hl⟩
                  · exact (gfq.trans (g3.beside (D :: fa))).less fun a m => by
                      rcases List.mem_cons.mp m with rfl | m
                      · exact List.mem_append_left _ List.mem_cons_self
                      · rcases List.mem_append.mp m with m | m
                        · exact List.mem_append_left _ (List.mem_cons_of_mem _ m)
                        · exact List.mem_append_right _ (sb5 a m)
                  · have : (D :: fa ++ fq5).Nodup := nodup_two ndD R5.nd fun a m b m2 z => by subst z; exact kas a m (sb5 a m2)
                    simpa using this
                · cases hl
    · cases e
  · cases e
end Mv
set_option maxHeartbeats 6400000
namespace L2
open PySem PySem.Spec PyProof.Rows
end L2
namespace PySem
theorem hx_list_add (l : Addr) (items : Array Value) (n : Nat) (dd : Option Addr) (sl : Array (Option Value)) (b : Addr) (items2 : Array Value) (n2 : Nat) (dd2 : Option Addr) (sl2 : Array (Option Value)) (hc0 : items.size + items2.size ≤ sizeLine) :
    Meets (Builtin.«list.__add__» ⟨[.ref l, .ref b], []⟩) (fun _ R s => s.heap.get? l = some { cls := .type "list", dict := dd, data := .seq items n, slots := sl } ∧ s.heap.get? b = some { cls := .type "list", dict := dd2, data := .seq items2 n2, slots := sl2 } ∧ R (.ok (.ret (Value.ref s.heap.objs.size))) { s with heap := s.heap.push { cls := Value.type "list", data := Data.seq (items ++ items2) }, toks := s.toks }) :=
  .of_wp fun prog w A R s h => by obtain ⟨hp, g, d, tk, os⟩ := s; obtain ⟨hl, hb, h⟩ := h; have f1 := AutoSeq1.idx_int; have f2 := AutoSeq1.sub_tuple_tuple; have f3 := AutoSeq1.sub_list_list; have f4 := AutoSeq1.sub_tuple_list; have f5 := AutoSeq1.sub_list_tuple; wp_walk using AutoSeq1.wpAny_loadPart' hl, AutoSeq1.wpAny_loadPart' hb; exact ⟨_, rfl, h⟩
end PySem
namespace L2
open PySem PySem.Spec PyProof.Rows
section
variable {X : Cx}
def rCatS (K : PySem.W.Frag) : R2 := fun x y H Q => ∃ l b xs zs, x = .ref l ∧ y = .ref b ∧ SqL K H l xs ∧ SqL K H b zs ∧ xs.length + zs.length ≤ sizeLine ∧ ∀ p, H p = none → Q (.ref p) (upd H p (.lst (xs ++ zs)))
theorem op_catS : OpR X (binaryOp .Add) (rCatS X.K) := by
  intro pins s σ H x y v u Q I rx ry h
  obtain ⟨l, b, xs, zs, rfl, rfl, hH, hB, hz, q⟩ := h
  cases rx
  cases ry
  obtain ⟨its, r, ⟨⟨c1, d1, t1, s1⟩, n, e, hc, hd, hs⟩, z⟩ := I.list hH
  obtain ⟨its2, r2, ⟨⟨c2, d2, t2, s2⟩, n2, e2, hc2, hd2, hs2⟩, z2⟩ := I.list hB
  simp only at hc hd hs hc2 hd2 hs2
  subst hc hd hs hc2 hd2 hs2
  have l1 := r.length
  have l2 := r2.length
  refine concat_meets ⟨_, e, rfl⟩ ⟨_, e2, rfl⟩ noFill_list_add seq_list_add PySem.F.slot_list_add PySem.F.entry_list_add (PySem.F.args_list_add_2 _ _) (hx_list_add l its.toArray n none s1 b its2.toArray n2 none s2 (by rw [List.size_toArray, List.size_toArray]; omega)) ⟨e, e2, ?_⟩
  have ea : its.toArray ++ its2.toArray = (its ++ its2).toArray := by simp
  rw [ea]
  exact ⟨.ref _, _, I.lnew (t' := s.toks) (r.append r2) (by rw [List.length_append]; omega), rfl, q _ I.fresh⟩
end
end L2
namespace L2
open PySem PySem.Spec PyProof.Rows
end L2
set_option maxHeartbeats 1000000
namespace L2
open PySem PySem.Spec PyProof.Rows
end L2
set_option maxHeartbeats 4000000
namespace Mv
open PySem PySem.Spec PyProof.Rows L2
variable {K : PySem.W.Frag} {F F' F1 F2 F3 H H' H1 H2 H3 : Hp} {v u x y w : V} {vs ws xs : List V} {s t c : S} {ss tts : List S} {fp fq fr fp' fp1 fp2 f1 f2 : List Addr} {ρ as : Ro} {E E' : En} {n : Nat}
variable {W : WXm} {te ta tb tc tk tv td : TE} {d da db dc dk dv : En → Option Rs} {tr : TA} {dr : En → Option (List Rs)} {de df : En → Option (S × En)} {tt : TT} {dte : En → Option (Bool × En)} {Q : VK} {dl : En → Option (Nat × En)} {js : List Nat} {ds : List PyData}
def fCatL (a b : S) : Option S := match a.seqL with
  | some ds => match b.seqL with
    | some es => if ds.length + es.length < 100000 then some (.lst ((ds ++ es).map S.dat)) else none
    | none => none
  | none => none
theorem rv_catL : RvS2 K (rCatS K) fCatL := by
  intro F H x y a b c f1 f2 sub o1 o2 e Q m
  unfold fCatL at e
  split at e
  · next ds e1 =>
    split at e
    · next es e2 =>
      split at e
      · next hl =>
        cases e
        obtain ⟨l, xs, rfl, h1, da1⟩ := o1.sqL sub e1
        obtain ⟨l', zs, rfl, h2, da2⟩ := o2.sqL sub e2
        refine ⟨l, l', xs, zs, rfl, rfl, h1, h2, by rw [Mv.DqAll.len da1, Mv.DqAll.len da2, sizeLine_eq]; omega, mk_lst sub ?_ m⟩
        rw [List.map_append]
        simpa using (dats_own da1).append (dats_own da2)
      · cases e
    · cases e
  · cases e
theorem p_cq {v : V} {d : PyData} (h : ∀ F, Dq K F v d) : EvP K n as (tC v) (dC d) := by
  intro F H σ E fp L R r e Q q
  cases e
  exact q v F H [] (.refl R.sub []) (.dat (h F)) List.nodup_nil (fun _ m => nomatch m)
def dNewD (_ : En) : Option Rs := some (.val (.dct false []))
theorem p_newD : EvP K n as tDNewK dNewD := by
  intro F H σ E fp L R r e Q q
  cases e
  refine fun p hp => ?_
  have g : Grow F H [] F (upd H p (.dK [])) [p] := Grow.alloc R.sub hp
  exact q (.ref p) F _ [p] g (dct_write (kvs := []) (kss := []) rfl .nil) (by simp) fun a m => by rw [List.mem_singleton.mp m]; exact fresh_none R.sub hp
def dParL (i j : Nat) (dl : En → Option (Nat × En)) (E : En) : Option Out := match dl E with
  | some (2, E1) => match popS 2 E1 with
    | some ([a, b], E2) => some (.nx (slotSet (slotSet E2 i (.own a)) j (.own b)))
    | _ => none
  | _ => none
theorem s_parL {i j : Nat} (hi : i < n) (hj : j < n) (h : EvL K n as tr dl) : EvS K n as W (tPar i j tr) (dParL i j dl) := by
  intro F H σ E fp L R o e D g
  unfold dParL at e
  split at e
  · next E1 el =>
    split at e
    · next a b E2 ep =>
      cases e
      refine h L R el fun vs F1 H1 fp1 hk g1 R1 => ?_
      match vs, hk with
      | [v, w], _ =>
        obtain ⟨h1, h2, l, R2, pm⟩ := R1.popN 2 (vs := [v, w]) rfl ep
        have nd := pm.nodup_iff.mp R1.nd
        cases l with
        | @cons _ _ _ _ fa fb qa ta => cases ta with
          | @cons _ _ _ _ fc fd qb tb =>
            cases tb
            rw [List.append_nil] at nd pm
            have off : ∀ x ∈ fa ++ fc ++ h1, F1 x = none := fun x m => R1.off x (pm.mem_iff.mpr m)
            have n1 : (fc ++ h1).Nodup := by rw [List.append_assoc] at nd; exact (List.nodup_append.mp nd).2.1
            have na : (fa ++ h1).Nodup := by
              have := List.nodup_append.mp nd
              exact nodup_two (List.nodup_append.mp this.1).1 this.2.1 fun x m y m2 => this.2.2 x (List.mem_append_left _ m) y m2
            obtain ⟨fq, R3, sb⟩ := R2.setSlot (i := i) (e := .own a) (v := v) (fr := fa) (by rw [List.length_append]; omega) qa na fun x m => off x (by simp [m])
            have nb : (fc ++ fq).Nodup := nodup_two (List.nodup_append.mp n1).1 R3.nd fun x m y m2 z => by
              subst z
              rcases List.mem_append.mp (sb x m2) with m3 | m3
              · have := List.nodup_append.mp (List.nodup_append.mp nd).1
                exact this.2.2 x m3 x m rfl
              · exact (List.nodup_append.mp n1).2.2 x m x m3 rfl
            obtain ⟨fz, R4, sc⟩ := R3.setSlot (i := j) (e := .own b) (v := w) (fr := fc) (by rw [List.length_set, List.length_append]; omega) qb nb fun x m => off x (by simp [m])
            refine ⟨v, w, rfl, g _ F1 H1 fz (by rw [List.length_set, List.length_set]; exact L) (g1.less fun x m => ?_) ?_⟩
            · refine pm.mem_iff.mpr ?_
              rcases List.mem_append.mp (sc x m) with m | m
              · simp [m]
              · rcases List.mem_append.mp (sb x m) with m | m <;> simp [m]
            · rw [set_app (by rw [List.length_set]; omega), set_app (by omega)]
              exact R4
    · cases e
  · cases e
def dParL3 (i j l : Nat) (dl : En → Option (Nat × En)) (E : En) : Option Out := match dl E with
  | some (3, E1) => match popS 3 E1 with
    | some ([a, b, c], E2) => some (.nx (slotSet (slotSet (slotSet E2 i (.own a)) j (.own b)) l (.own c)))
    | _ => none
  | _ => none
theorem s_parL3 {i j l : Nat} (hi : i < n) (hj : j < n) (hl : l < n) (h : EvL K n as tr dl) : EvS K n as W (tPar3 i j l tr) (dParL3 i j l dl) := by
  intro F H σ E fp L R o e D g
  unfold dParL3 at e
  split at e
  · next E1 el =>
    split at e
    · next a b c E2 ep =>
      cases e
      refine h L R el fun vs F1 H1 fp1 hk g1 R1 => ?_
      match vs, hk with
      | [v, w, u], _ =>
        obtain ⟨h1, h2, lo, R2, pm⟩ := R1.popN 3 (vs := [v, w, u]) rfl ep
        have nd := pm.nodup_iff.mp R1.nd
        cases lo with
        | @cons _ _ _ _ fa fb qa ta => cases ta with
          | @cons _ _ _ _ fc fd qb tb => cases tb with
            | @cons _ _ _ _ fe ff qc tc =>
              cases tc
              simp only [List.append_nil] at nd pm
              have off : ∀ x ∈ fa ++ (fc ++ fe) ++ h1, F1 x = none := fun x m => R1.off x (pm.mem_iff.mpr m)
              have dA := List.nodup_append.mp nd
              have dB := List.nodup_append.mp dA.1
              have dC := List.nodup_append.mp dB.2.1
              have na : (fa ++ h1).Nodup := nodup_two dB.1 dA.2.1 fun x m y m2 => dA.2.2 x (List.mem_append_left _ m) y m2
              obtain ⟨fq, R3, sb⟩ := R2.setSlot (i := i) (e := .own a) (v := v) (fr := fa) (by rw [List.length_append]; omega) qa na fun x m => off x (by simp [m])
              have nb : (fc ++ fq).Nodup := nodup_two dC.1 R3.nd fun x m y m2 z => by
                subst z
                rcases List.mem_append.mp (sb x m2) with m3 | m3
                · exact dB.2.2 x m3 x (List.mem_append_left _ m) rfl
                · exact dA.2.2 x (List.mem_append_right _ (List.mem_append_left _ m)) x m3 rfl
              obtain ⟨fz, R4, sc⟩ := R3.setSlot (i := j) (e := .own b) (v := w) (fr := fc) (by rw [List.length_set, List.length_append]; omega) qb nb fun x m => off x (by simp [m])
              have nc : (fe ++ fz).Nodup := nodup_two dC.2.1 R4.nd fun x m y m2 z => by
                subst z
                rcases List.mem_append.mp (sc x m2) with m3 | m3
                · exact dC.2.2 x m3 x m rfl
                · rcases List.mem_append.mp (sb x m3) with m3 | m3
                  · exact dB.2.2 x m3 x (List.mem_append_right _ m) rfl
                  · exact dA.2.2 x (List.mem_append_right _ (List.mem_append_right _ m)) x m3 rfl
              obtain ⟨fy, R5, sd⟩ := R4.setSlot (i := l) (e := .own c) (v := u) (fr := fe) (by rw [List.length_set, List.length_set, List.length_append]; omega) qc nc fun x m => off x (by simp [m])
              refine ⟨v, w, u, rfl, g _ F1 H1 fy (by rw [List.length_set, List.length_set, List.length_set]; exact L) (g1.less fun x m => ?_) ?_⟩
              · refine pm.mem_iff.mpr ?_
                rcases List.mem_append.mp (sd x m) with m | m
                · simp [m]
                · rcases List.mem_append.mp (sc x m) with m | m
                  · simp [m]
                  · rcases List.mem_append.mp (sb x m) with m | m <;> simp [m]
              · rw [set_app (by rw [List.length_set, List.length_set]; omega), set_app (by rw [List.length_set]; omega), set_app (by omega)]
                exact R5
    · cases e
  · cases e
theorem fx_Tally_grown : fixN (clsFld 4) "grown" = some 0 := by decide +kernel
theorem fx_Tally_numbers : fixN (clsFld 4) "numbers" = some 1 := by decide +kernel
theorem fx_Tally_make : fixN (clsFld 4) "make" = some 2 := by decide +kernel
theorem fm_Tally_lets : fixN (clsFld 4) "lets" = none := by decide +kernel
theorem fm_Tally_note : fixN (clsFld 4) "note" = none := by decide +kernel
theorem DqAll.rev : ∀ {vs : List V} {ds : List PyData}, DqAll K F vs ds → DqAll K F vs.reverse ds.reverse
  | _, _, .nil => .nil
  | _, _, .cons a t => by
    rw [List.reverse_cons, List.reverse_cons]
    exact Mv.DqAll.append (Mv.DqAll.rev t) (.cons a .nil)
def dRev (d : En → Option Rs) (E : En) : Option Rs := match d E with
  | some r => match r.at E with
    | some s => (s.seqL).map fun ds => .val (.lst (ds.reverse.map S.dat))
    | none => none
  | none => none
theorem p_revL (h : EvP K n as te d) : EvP K n as (tRevL K te) (dRev d) := by
  intro F H σ E fp L R r' e Q q
  unfold dRev at e
  split at e
  · next r0 er =>
    split at e
    · next s es =>
      obtain ⟨ds, hd, rfl⟩ := Option.map_eq_some_iff.mp e
      refine h L R er fun x F1 H1 f1 g1 r1 n1 o1 => ?_
      have R1 := R.grow g1
      obtain ⟨k1, w1⟩ := r1.own R1 es
      obtain ⟨p, xs, rfl, hq, da⟩ := w1.sqL R1.sub hd
      exact ⟨p, xs, rfl, hq, mk_lst R1.sub (dats_own (Mv.DqAll.rev da)) fun v F' H' fr g o nd of => q v F' H' fr (by simpa using g1.drop.seq0 g) o nd of⟩
    · cases e
  · cases e
theorem lst_src (h : EvP K n as te d) {F H : Hp} {σ : L2.St} {E : En} {fp : List Addr} (L : σ.length = n) (R : Rep K F H (σ ++ as) E fp) {c : Src} (e : iLst d E = some c) {Q : V → Hp → Prop}
    (q : ∀ (a : Addr) F1 H1 (ex : List V) fp1, Grow F H fp F1 H1 fp1 → Rep K F1 H1 (σ ++ (as ++ ex.map some)) (c.env ++ c.exE) fp1 → ex.length = c.exE.length → (∃ xs, SqL K H1 a xs) →
      (∀ F2 H2 (σ2 : L2.St) E2 fp2, σ2.length = n → Grow F1 H1 fp1 F2 H2 fp2 → Rep K F2 H2 (σ2 ++ (as ++ ex.map some)) E2 fp2 → ∀ i,
        (∀ r, c.rd E2 i = some (some r) → ∃ xs w, SqL K H2 a xs ∧ xs[i]? = some w ∧ RsAt K F2 H2 (σ2 ++ (as ++ ex.map some)) E2 w r []) ∧ (c.rd E2 i = some none → ∃ xs, SqL K H2 a xs ∧ xs.length ≤ i)) → Q (.ref a) H1) : te σ H Q := by
  unfold iLst at e
  split at e
  · next ds ed =>
    cases e
    refine h L R ed fun v F1 H1 f1 g1 a1 n1 o1 => ?_
    obtain ⟨a, xs, rfl, hq, da⟩ := Mv.Dq.list_inv (Own.dat_inv (show Own K F1 H1 v _ f1 from a1) rfl).1
    refine q a F1 H1 [] fp g1.mine (by simpa using R.grow g1) rfl ⟨xs, SqL.mono g1.sub hq⟩ fun F2 H2 σ2 E2 fp2 L2 g2 R2 i => ?_
    have hq2 : SqL K H2 a xs := SqL.mono g2.sub (SqL.mono g2.f hq)
    have da2 := Mv.DqAll.mono g2.f da
    refine ⟨fun r hr => ?_, fun hr => ⟨xs, hq2, by rw [Mv.DqAll.len da]; exact rdD_stop (E := E2) hr⟩⟩
    obtain ⟨w, hw, ar⟩ := rdD_go (K := K) (H := H2) (E := E2) (ρ := σ2 ++ (as ++ ([] : List V).map some)) da2 hr
    exact ⟨xs, w, hq2, hw, ar⟩
  · next ss ed =>
    obtain ⟨ds, hd, rfl⟩ := Option.map_eq_some_iff.mp e
    refine h L R ed fun v F1 H1 f1 g1 a1 n1 o1 => ?_
    obtain ⟨a, xs, fq, rfl, hH, l, hf⟩ := Own.lst_inv (show Own K F1 H1 v _ f1 from a1) rfl
    obtain ⟨da, rfl⟩ := datsS_dp l hd
    refine q a F1 H1 [] fp g1.mine (by simpa using R.grow g1) rfl ⟨xs, .inl (.inl hH)⟩ fun F2 H2 σ2 E2 fp2 L2 g2 R2 i => ?_
    have na : a ∉ fp := by
      have := R.apart_new g1 n1
      rw [hf] at this
      exact fun m => (List.nodup_append.mp this).2.2 a List.mem_cons_self a m rfl
    have hq2 : SqL K H2 a xs := .inl (.inl (g2.keep a _ hH na))
    have da2 := Mv.DqAll.mono g2.f da
    refine ⟨fun r hr => ?_, fun hr => ⟨xs, hq2, by rw [Mv.DqAll.len da]; exact rdD_stop (E := E2) hr⟩⟩
    obtain ⟨w, hw, ar⟩ := rdD_go (K := K) (H := H2) (E := E2) (ρ := σ2 ++ (as ++ ([] : List V).map some)) da2 hr
    exact ⟨xs, w, hq2, hw, ar⟩
  · next p ed =>
    split at e
    · next ss es =>
      cases e
      refine h L R ed fun v F1 H1 f1 g1 a1 n1 o1 => ?_
      have R1 := R.grow g1
      obtain ⟨fq, ow⟩ := a1.own R1 (show (Rs.pl p).at E = some (.lst ss) from es)
      obtain ⟨a, xs, fq', rfl, hH, l, hf⟩ := ow.lst_inv rfl
      obtain ⟨b1, b2, b3⟩ := a1
      refine q a F1 H1 [.ref a] fp g1.mine (R1.hold b2 b3) rfl ⟨xs, .inl (.inl hH)⟩ fun F2 H2 σ2 E2 fp2 L2 g2 R2 i => ?_
      have len := R2.core.len
      have lastv : (σ2 ++ (as ++ [V.ref a].map some))[E2.length - 1]? = some (some (.ref a)) := by
        rw [← List.append_assoc, List.getElem?_append_right (by rw [len]; simp), len]
        simp
      have key : ∀ p2 ss2, E2.getLast? = some (Sl.bor p2) → eget E2 p2 = some (.lst ss2) → ∃ xs2 f2, H2 a = some (.lst xs2) ∧ OwnL K F2 H2 xs2 ss2 f2 ∧ RsAt K F2 H2 (σ2 ++ (as ++ [V.ref a].map some)) E2 (.ref a) (.pl p2) [] := by
        intro p2 ss2 hl hg
        rw [List.getLast?_eq_getElem?] at hl
        obtain ⟨w, e1, e2, e3⟩ := R2.bor _ p2 hl
        rw [lastv] at e1
        cases e1
        have at2 : RsAt K F2 H2 (σ2 ++ (as ++ [V.ref a].map some)) E2 (.ref a) (.pl p2) [] := ⟨rfl, e2, e3⟩
        obtain ⟨f2, ow2⟩ := at2.own R2 (show (Rs.pl p2).at E2 = some (.lst ss2) from hg)
        obtain ⟨a', xs2, f3, ea, hH2, l2, _⟩ := ow2.lst_inv rfl
        cases ea
        exact ⟨xs2, f3, hH2, l2, at2⟩
      refine ⟨fun r hr => ?_, fun hr => ?_⟩
      · dsimp only at hr
        split at hr
        · next p2 hl =>
          split at hr
          · next ss2 hg =>
            obtain ⟨xs2, f2, hH2, l2, at2⟩ := key p2 ss2 hl hg
            split at hr
            · next s hs =>
              obtain ⟨r', hr', er⟩ := Option.map_eq_some_iff.mp hr
              cases er
              obtain ⟨w, f, hw, ow⟩ := l2.nth hs
              exact ⟨xs2, w, .inl (.inl hH2), hw, at2.kid R2 hg hH2 hw hs ow hr'⟩
            · cases hr
          · cases hr
        · cases hr
      · dsimp only at hr
        split at hr
        · next p2 hl =>
          split at hr
          · next ss2 hg =>
            obtain ⟨xs2, f2, hH2, l2, at2⟩ := key p2 ss2 hl hg
            split at hr
            · next s hs =>
              cases hk : (Rs.pl p2).kid i s with
              | none => rw [hk] at hr; cases hr
              | some r' => rw [hk] at hr; cases hr
            · next hs => exact ⟨xs2, .inl (.inl hH2), by rw [l2.length]; exact List.getElem?_eq_none_iff.mp hs⟩
          · cases hr
        · cases hr
    · cases e
  · cases e
def rdEn (rd : En → Nat → Option (Option Rs)) (E : En) (i : Nat) : Option (Option Rs) := match rd E i with
  | some (some r) => match r.at E with
    | some (.dat d) => some (some (.val (.dat (.tuple [.int (i : Nat), d]))))
    | _ => none
  | some none => some none
  | none => none
def iEnumS (d : En → Option Rs) (E : En) : Option Src := (iLst d E).map fun c => ⟨c.env, c.exE, rdEn c.rd, c.fuel⟩
theorem s_forEnum {gs : TGs} {tb : TS} {bs : List PyData → En → Option En} {db : En → Option Out} (h : EvP K n as te d) (hs : EvGs K n gs bs) (hb : ∀ as, EvS K n as W tb db) :
    EvS K n as W (tFor (iEnum K (tCons te tNil)) (gTup K 2 gs) tb) (dFor (iEnumS d) (bTup 2 bs) db) := by
  intro F H σ E fp L R o e D gg
  unfold dFor at e
  split at e
  · next c ec =>
    obtain ⟨c0, e0, rfl⟩ := Option.map_eq_some_iff.mp ec
    refine lst_src h L R e0 fun a F1 H1 ex fpx g1' R1 hx hxs spec => ?_
    obtain ⟨xs0, hxs0⟩ := hxs
    refine ⟨a, xs0, rfl, hxs0, ?_⟩
    dsimp only at e
    generalize hd : dLoop (rdEn c0.rd) (bTup 2 bs) db c0.fuel 0 (c0.env ++ c0.exE) = o1 at e
    refine ⟨fun i m σ2 H2 => ∃ F2 E2 fp2, σ2.length = n ∧ Grow F1 H1 fpx F2 H2 fp2 ∧ Rep K F2 H2 (σ2 ++ (as ++ ex.map some)) E2 fp2 ∧ dLoop (rdEn c0.rd) (bTup 2 bs) db m i E2 = o1,
      ⟨c0.fuel, F1, _, fpx, L, .refl R1.sub fpx, R1, hd⟩, fun i m σ2 H2 hW => ?_⟩
    obtain ⟨F2, E2, fp2, L2, g2, R2, h2⟩ := hW
    obtain ⟨sp1, sp2⟩ := spec F2 H2 σ2 E2 fp2 L2 g2 R2 i
    rw [dLoop.eq_def] at h2
    dsimp only at h2
    cases hr : rdEn c0.rd E2 i with
    | none => rw [hr] at h2; dsimp only at h2; rw [← h2] at e; cases e
    | some r0 => cases r0 with
      | none =>
        rw [hr] at h2
        dsimp only at h2
        rw [← h2] at e
        cases e
        obtain ⟨fq, R3, sb⟩ := stripE_rep (c := c0) R2 hx
        refine .inl ⟨?_, gg σ2 F2 H2 fq L2 ((g1'.trans g2).less sb) R3⟩
        unfold rdEn at hr
        split at hr
        · split at hr
          · cases hr
          · cases hr
        · next hn => exact sp2 hn
        · cases hr
      | some r =>
        rw [hr] at h2
        dsimp only at h2
        unfold rdEn at hr
        split at hr
        · next r1 hr1 =>
          split at hr
          · next dd hdd =>
            cases hr
            obtain ⟨xs, w, hq, hw, ar⟩ := sp1 r1 hr1
            obtain ⟨f3, ow⟩ := ar.own R2 hdd
            have dq := (ow.dat_inv rfl).1
            cases m with
            | zero => dsimp only at h2; rw [← h2] at e; cases e
            | succ m =>
              dsimp only at h2
              refine .inr ⟨⟨xs, w, hq, hw⟩, fun σ' H' => ∃ F2 E2 fp2, σ'.length = n ∧ Grow F1 H1 fpx F2 H' fp2 ∧ Rep K F2 H' (σ' ++ (as ++ ex.map some)) E2 fp2 ∧ dLoop (rdEn c0.rd) (bTup 2 bs) db m (i + 1) E2 = o1, fun σ' H' hN => ⟨m, Nat.lt_succ_self m, hN⟩, fun x H' hy => ?_⟩
              obtain ⟨T, x', rfl, hT, rfl, hall⟩ := hy
              obtain rfl := Option.some.inj ((hall xs hq).symm.trans hw)
              have gA : Grow F2 H2 fp2 F2 (upd H2 T (.tup [.int (i : Nat), x'])) fp2 := (Grow.alloc R2.sub hT).drop.mine
              have R2' := R2.grow (Grow.alloc (o := .tup [.int (i : Nat), x']) R2.sub hT)
              split at h2
              · rw [← h2] at e; cases e
              · next E3 e3 =>
                refine ⟨T, [.int (i : Nat), x'], rfl, .inl (.inl (upd_same ..)), rfl, hs L2 R2' (.cons (.int _) (.cons dq .nil)) e3 fun σ3 F3 H3 fp3 L3 g3 R3 => ?_⟩
                have g23 := g2.trans (gA.trans g3)
                split at h2
                · next E4 e4 => exact hb _ L3 R3 e4 fun σ' F' H' fp' L' g' R' => ⟨F', E4, fp', L', g23.trans g', R', h2⟩
                · next E4 e4 => exact hb _ L3 R3 e4 fun σ' F' H' fp' L' g' R' => ⟨F', E4, fp', L', g23.trans g', R', h2⟩
                · next E4 e4 =>
                  rw [← h2] at e
                  cases e
                  refine hb _ L3 R3 e4 fun σ' F' H' fp' L' g' R' => ?_
                  obtain ⟨fq, R5, sb⟩ := stripE_rep (c := c0) R' hx
                  exact gg σ' F' H' fq L' ((g1'.trans (g23.trans g')).less sb) R5
                · next s E4 e4 =>
                  rw [← h2] at e
                  cases e
                  refine hb _ L3 R3 e4 fun v σ' F' H' fr fp' L' g' R' ow nd of => ?_
                  obtain ⟨fq, R5, sb⟩ := stripE_rep (c := c0) R' hx
                  refine gg v σ' F' H' fr fq L' ((g1'.trans (g23.trans g')).less fun a m => ?_) R5 ow ?_ of
                  · exact List.mem_append.mpr ((List.mem_append.mp m).imp id (sb a))
                  · exact List.nodup_append.mpr ⟨(List.nodup_append.mp nd).1, R5.nd, fun a m b m2 => (List.nodup_append.mp nd).2.2 a m b (sb b m2)⟩
                · next x E4 e4 =>
                  rw [← h2] at e
                  cases e
                  refine hb _ L3 R3 e4 fun C σ' F' H' fp' hC L' g' R' => ?_
                  obtain ⟨fq, R5, sb⟩ := stripE_rep (c := c0) R' hx
                  exact gg C σ' F' H' fq hC L' ((g1'.trans (g23.trans g')).less sb) R5
                · rw [← h2] at e; cases e
          · cases hr
        · cases hr
        · cases hr
  · cases e
end Mv
set_option maxHeartbeats 400000
namespace Mv
open PySem PySem.Spec PyProof.Rows L2
end Mv
set_option maxHeartbeats 4000000
namespace Mv
open PySem PySem.Spec PyProof.Rows L2
end Mv
namespace Mv
open PySem PySem.Spec PyProof.Rows L2
end Mv
set_option maxHeartbeats 6400000
namespace L2
open PySem PySem.Spec PyProof.Rows PySem.W PySem.SeqAt
end L2
set_option maxHeartbeats 4000000
namespace Mv
open PySem PySem.Spec PyProof.Rows L2
variable {X : Cx} {K : PySem.W.Frag} {F F' F1 F2 H H' H1 H2 : Hp} {v u x y : V} {vs ws us : List V} {s t : S} {ss tts : List S} {fp fq fr fp' fp1 fp2 f1 f2 : List Addr} {ρ as : Ro} {E E' : En} {n : Nat}
variable {F3 H3 : Hp} {w : V} {xs : List V} {c : S}
variable {W : WXm} {te ta tb tc tk tv td : TE} {d da db dc dk dv : En → Option Rs} {tr : TA} {dr : En → Option (List Rs)} {de df : En → Option (S × En)}
def dLAug (da db : En → Option Rs) (f : PyData → PyData → Option PyData) (dv : En → Option Rs) (E : En) : Option Out := match da E, db E, dv E with
  | some (.pl p), some (.val (.dat (.int i))), some rv => match eget E p with
    | some (.lst ss) => match ixN ss.length i with
      | some j => match ss[j]?, rv.full E with
        | some (.dat a), some b => match f a b with
          | some c => stepAt (oLSet i) E p (.dat c)
          | none => none
        | _, _ => none
      | none => none
    | _ => none
  | _, _, _ => none
theorem s_laug {ti : R2} {f : PyData → PyData → Option PyData} (ha : EvP K n as ta da) (hb : EvP K n as tb db) (ht : Rv2 K ti f) (hc : EvP K n as tc dc) : EvS K n as W (tAugS ta tb tc (rIxL K) ti rSetL) (dLAug da db f dc) := by
  intro F H σ E fp L R o e D g
  unfold dLAug at e
  split at e
  · next p i rv ea eb ec =>
    split at e
    · next ss es =>
      split at e
      · next j ej =>
        split at e
        · next a b hs ef =>
          split at e
          · next c efc =>
            refine ha L R ea fun x F1 H1 f1 g1 r1 n1 o1 => hb L (R.grow g1) eb fun y F2 H2 f2 g2 r2 n2 o2 => ?_
            have R2 := (R.grow g1).grow g2
            have r1' := r1.grow (R.grow g1) g2
            have g12 : Grow F H [] F2 H2 [] := (g1.seq0 g2).drop
            cases (Own.dat_inv (show Own K F2 H2 y _ f2 from r2) rfl).1
            have es' : (Rs.pl p).at E = some (.lst ss) := es
            obtain ⟨fq, o⟩ := r1'.own R2 es'
            obtain ⟨a0, vs, fq', rfl, hH, l, _⟩ := o.lst_inv rfl
            obtain ⟨w, fw, hw, ow⟩ := l.nth hs
            have kd : RsAt K F2 H2 (σ ++ as) E w (.val (.dat a)) [] := r1'.kid R2 es' hH hw hs ow rfl
            refine ⟨a0, vs, i, w, rfl, rfl, .inl (.inl hH), by unfold atI; rw [l.length, ej]; exact hw, hc L R2 ec fun z F3 H3 f3 g3 r3 n3 o3 => ?_⟩
            have R3 := R2.grow g3
            have kd3 := kd.grow R2 g3
            refine ht (kd3.dp R3 rfl) (r3.dp R3 ef) efc fun hc' => ?_
            unfold stepAt at e
            split at e
            · next t et =>
              split at e
              · next t' c' eo =>
                cases e
                have fin := mut1 (nd_lset i) R3 (r1'.grow R2 g3) (Own.dat (scV_dp hc')) (by simpa using R3.nd) (fun _ m => nomatch m) et eo (Q := fun _ H4 => D.nx σ H4) fun v F' H' fv fp' g4 R4 ov4 nd4 of4 => ?_
                · obtain ⟨a2, ys, j2, e2, hp, hj, hq⟩ := fin
                  exact ⟨a2, ys, i, j2, e2, rfl, hp, hj, hq⟩
                · have gg : Grow F H fp F3 H3 fp := (((g12.seq0 g3).drop).ours fp).less fun a m => by simpa using m
                  exact g σ F' H' fp' L ((gg.trans (by simpa using g4)).less fun a m => List.mem_append_right _ m) R4
              · cases e
            · cases e
          · cases e
        · cases e
      · cases e
    · cases e
  · cases e
end Mv
set_option maxHeartbeats 6400000
namespace L2
open PySem PySem.Spec PyProof.Rows PySem.W PySem.SeqAt
variable {X : Cx}
theorem get_listL : PGet X (rIxL X.K) := by
  intro pins s σ H o i ov iv Q I ro ri h
  obtain ⟨p, xs, k, z, rfl, rfl, hq, ha, q⟩ := h
  cases ro
  obtain ⟨t, rfl⟩ := ri
  obtain ⟨its, r, ⟨ob, n, ho, hcl, _, hdt⟩, hlen⟩ := I.list hq
  have hl : s.heap.IsList p its.toArray := ⟨ob, ho, hcl, n, hdt⟩
  obtain ⟨j, h1, h2, h3, h4, h5⟩ := atI_get ha
  obtain ⟨w, ew, rw'⟩ := r.get h2
  have hn := r.length
  have hs : (sizeLine : Int) < 2 ^ 63 := by decide
  have h63 : k < 2 ^ 63 := by omega
  have hlen' : (its.length : Int) = xs.length := by omega
  unfold seqIndex? at h1
  by_cases h0 : 0 ≤ k
  · refine getItem_listL (x := w) hl h0 h63 ?_ ⟨z, H, I, rw', q⟩
    have : j = k.toNat := by
      simp only [if_neg (show ¬ k < 0 by omega)] at h1
      split at h1
      · exact (Option.some.inj h1).symm
      · cases h1
    rw [← this]; exact ew
  · refine wpAny_getItem_list_neg (x := w) hl (by omega) (by simp; omega) (by omega) ?_ ⟨z, H, I, rw', q⟩
    have : j = (k + xs.length).toNat := by
      simp only [if_pos (show k < 0 by omega)] at h1
      split at h1
      · exact (Option.some.inj h1).symm
      · cases h1
    simp only [List.size_toArray, hlen', ← this]
    simpa using ew
end L2
set_option maxHeartbeats 4000000
namespace Mv
open PySem PySem.Spec PyProof.Rows L2
variable {K : PySem.W.Frag} {F F' F1 F2 F3 H H' H1 H2 H3 : Hp} {v u x y w : V} {vs ws xs : List V} {s t c : S} {fp fq fr fp' fp1 fp2 f1 f2 : List Addr} {ρ as : Ro} {E E' : En} {n : Nat}
variable {te ta tb tc : TE} {d da db dc : En → Option Rs}
def innerD (dc : En → Option Rs) (i j : Nat) (E : En) (d : PyData) : List PyData → Option (List PyData)
  | [] => some []
  | e :: es => match dc (slotSet (slotSet E i (.own (.dat d))) j (.own (.dat e))) with
    | some (.val (.dat v)) => (innerD dc i j E d es).map (v :: ·)
    | _ => none
def outerD (dc : En → Option Rs) (i j : Nat) (E : En) : List PyData → Option (List PyData)
  | [] => some []
  | .list es :: ds => match innerD dc i j E (.list es) es, outerD dc i j E ds with
    | some a, some b => some (a ++ b)
    | _, _ => none
  | _ => none
def eLc2 (da : En → Option Rs) (i j : Nat) (dc : En → Option Rs) (E : En) : Option (S × En) := match da E with
  | some (.val (.dat (.list ds))) => match outerD dc i j E ds with
    | some vs => if vs.length < 100000 then some (.lst (vs.map .dat), E) else none
    | none => none
  | _ => none
theorem datD_own : ∀ {xs : List V} {ds : List PyData}, DqAll K F xs ds → OwnL K F H xs (ds.map S.dat) []
  | _, _, .nil => .nil
  | _, _, .cons h t => .cons (fp := []) (.dat h) (datD_own t)
theorem DqAll.snoc : ∀ {xs : List V} {ds : List PyData} {y : V} {d : PyData}, DqAll K F xs ds → Dq K F y d → DqAll K F (xs ++ [y]) (ds ++ [d])
  | _, _, _, _, .nil, h => .cons h .nil
  | _, _, _, _, .cons a t, h => .cons a (DqAll.snoc t h)
theorem wipe2 {σ : L2.St} {i j : Nat} {x : V} : wipe ((wipe σ [i, j]).set i (some x)) [i, j] = wipe σ [i, j] := by
  refine List.ext_getElem? fun k => ?_
  rw [wipe_get, wipe_get]
  by_cases h : k ∈ [i, j]
  · rw [if_pos h, if_pos h, List.length_set, wipe_length]
  · rw [if_neg h, if_neg h, List.getElem?_set_ne (fun z => h (by rw [← z]; exact List.mem_cons_self)), wipe_get, if_neg h]
theorem wipe3 {σ : L2.St} {i j : Nat} {x y : V} (ij : i ≠ j) (hi : i < σ.length) (hj : j < σ.length) : (wipe ((wipe σ [i, j]).set i (some x)) [j]).set j (some y) = (σ.set i (some x)).set j (some y) := by
  refine List.ext_getElem? fun k => ?_
  have l1 : (wipe ((wipe σ [i, j]).set i (some x)) [j]).length = σ.length := by rw [wipe_length, List.length_set, wipe_length]
  by_cases kj : j = k
  · subst kj
    rw [List.getElem?_set_self (by rw [l1]; exact hj), List.getElem?_set_self (by rw [List.length_set]; exact hj)]
  · rw [List.getElem?_set_ne kj, List.getElem?_set_ne kj, wipe_get, if_neg (by simp; exact fun z => kj z.symm)]
    by_cases ki : i = k
    · subst ki
      rw [List.getElem?_set_self (by rw [wipe_length]; exact hi), List.getElem?_set_self hi]
    · rw [List.getElem?_set_ne ki, List.getElem?_set_ne ki, wipe_get, if_neg (by simp; exact ⟨fun z => ki z.symm, fun z => kj z.symm⟩)]
theorem e_lc2 {i j : Nat} (hi : i < n) (hj : j < n) (ij : i ≠ j) (ha : EvP K n as ta da) (hc : EvP K n as te dc) :
    EvE K n as (tLc2 (iList K ta) (gName i) tYes (iList K (tVar i)) (gName j) tYes te [i, j] [j]) (eLc2 da i j dc) := by
  intro F H σ E fp L R s0 E0 e Q q
  unfold eLc2 at e
  split at e
  · next ds ea =>
    split at e
    · next vs hvs =>
      split at e
      · next hlen =>
        cases e
        refine ha L R ea fun x F1 H1 f1 g1 a1 n1 o1 => ?_
        obtain ⟨hdq, rfl⟩ := Own.dat_inv (show Own K F1 H1 x _ f1 from a1) rfl
        obtain ⟨a, xs, rfl, hq, dax⟩ := Dq.list_inv hdq
        have R1 := R.grow g1
        refine ⟨a, rfl, ⟨xs, SqL.mono R1.sub hq⟩, fun D hD => ?_⟩
        have fD : F1 D = none := by
          cases h : F1 D with
          | none => rfl
          | some o => rw [R1.sub D o h] at hD; cases hD
        refine ⟨fun i' m H' => ∃ F2 accV acc ds2 rest, Grow F1 H1 [] F2 H' [D] ∧ H' D = some (.lst accV) ∧ DqAll K F2 accV acc ∧ F2 D = none ∧ ds.drop i' = ds2 ∧ m = ds2.length ∧ outerD dc i j E ds2 = some rest ∧ acc ++ rest = vs,
          ⟨ds.length, F1, [], [], ds, vs, Grow.alloc R1.sub hD, upd_same, .nil, fD, rfl, rfl, hvs, rfl⟩, fun i' m Hm hW => ?_⟩
        obtain ⟨F2, accV, acc, ds2, rest, g2, hHD, dacc, f2D, hdr, rfl, hod, hacc⟩ := hW
        have R2 := R1.grow g2
        have hq2 : SqL K Hm a xs := SqL.mono R2.sub (SqL.mono g2.f hq)
        have hxl : xs.length = ds.length := DqAll.len dax
        cases ds2 with
        | nil =>
          cases hod
          rw [List.append_nil] at hacc
          subst hacc
          refine .inl ⟨⟨xs, hq2, by rw [hxl]; exact List.drop_eq_nil_iff.mp hdr⟩, ?_⟩
          have gg : Grow F H fp F2 Hm ([D] ++ fp) := by
            have := (g1.beside fp).trans ((by simpa using g2.beside fp : Grow F1 H1 (fp ++ []) F2 Hm (fp ++ [D])))
            exact (by simpa using this : Grow F H fp F2 Hm (fp ++ [D])).less fun a m => by
              rcases List.mem_append.mp m with m | m
              · exact List.mem_append_right _ m
              · exact List.mem_append_left _ m
          have dn : D ∉ fp := fun m => by
            obtain ⟨o, eo⟩ := R1.there D m
            rw [hD] at eo; cases eo
          exact q (.ref D) F2 Hm [D] fp gg R2 (by simpa using Own.node (s := .lst (acc.map S.dat)) (ex := []) hHD (show Head _ Hm D (.lst accV) (.lst (acc.map S.dat)) [] from rfl) (datD_own dacc)) (List.nodup_cons.mpr ⟨dn, R2.nd⟩) (fun b m => by rw [List.mem_singleton.mp m]; exact f2D)
        | cons d0 dt =>
          have hdi : ds[i']? = some d0 := by
            have := congrArg (fun l => l[0]?) hdr
            simpa using this
          have hdt : ds.drop (i' + 1) = dt := by
            have := congrArg List.tail hdr
            simpa using this
          obtain ⟨w, hw, hwd⟩ := DqAll.nth (DqAll.mono g2.f dax) hdi
          cases d0 with
          | list es =>
            unfold outerD at hod
            split at hod
            · next A B hA hB =>
              cases hod
              refine .inr ⟨⟨xs, w, hq2, hw⟩, fun H' => ∃ F2 accV acc, Grow F1 H1 [] F2 H' [D] ∧ H' D = some (.lst accV) ∧ DqAll K F2 accV acc ∧ F2 D = none ∧ acc ++ B = vs,
                fun H' ⟨F3, accV', acc', h1, h2, h3, h4, h5⟩ => ⟨dt.length, Nat.lt_succ_self _, F3, accV', acc', dt, B, h1, h2, h3, h4, hdt, rfl, hB, h5⟩, fun x H' hy => ?_⟩
              obtain ⟨rfl, hyx⟩ := hy
              have : x = w := Option.some.inj ((hyx xs hq2).symm.trans hw)
              subst this
              refine ⟨wipe2, ?_⟩
              dsimp only [tYes]
              rw [if_pos (rfl : true = true)]
              have hil : i < (wipe σ [i, j]).length := by rw [wipe_length, L]; exact hi
              refine ⟨x, List.getElem?_set_self hil, ?_⟩
              obtain ⟨a1, ys, rfl, hqe, dae⟩ := Dq.list_inv hwd
              refine ⟨a1, rfl, ⟨ys, SqL.mono R2.sub hqe⟩, ?_⟩
              refine ⟨fun jj k Hk => ∃ F3 accV acc es2 ra, Grow F1 H1 [] F3 Hk [D] ∧ (∀ b o, F2 b = some o → F3 b = some o) ∧ Hk D = some (.lst accV) ∧ DqAll K F3 accV acc ∧ F3 D = none ∧ es.drop jj = es2 ∧ k = es2.length ∧ innerD dc i j E (.list es) es2 = some ra ∧ acc ++ ra ++ B = vs,
                ⟨es.length, F2, accV, acc, es, A, g2, fun _ _ h => h, hHD, dacc, f2D, rfl, rfl, hA, by rw [List.append_assoc]; exact hacc⟩, fun jj k Hk hW1 => ?_⟩
              obtain ⟨F3, accV3, acc3, es2, ra, g3, f23, hHD3, dacc3, f3D, hdr3, rfl, hin, hacc3⟩ := hW1
              have R3 := R1.grow g3
              have hq3 : SqL K Hk a1 ys := SqL.mono R3.sub (SqL.mono f23 hqe)
              have hyl : ys.length = es.length := DqAll.len dae
              cases es2 with
              | nil =>
                cases hin
                rw [List.append_nil] at hacc3
                exact .inl ⟨⟨ys, hq3, by rw [hyl]; exact List.drop_eq_nil_iff.mp hdr3⟩, F3, accV3, acc3, g3, hHD3, dacc3, f3D, hacc3⟩
              | cons e0 et =>
                have hei : es[jj]? = some e0 := by
                  have := congrArg (fun l => l[0]?) hdr3
                  simpa using this
                have het : es.drop (jj + 1) = et := by
                  have := congrArg List.tail hdr3
                  simpa using this
                obtain ⟨w2, hw2, hwd2⟩ := DqAll.nth (DqAll.mono f23 dae) hei
                unfold innerD at hin
                split at hin
                · next v0 hdc =>
                  obtain ⟨rb, hrb, rfl⟩ := Option.map_eq_some_iff.mp hin
                  refine .inr ⟨⟨ys, w2, hq3, hw2⟩, fun H' => ∃ F3 accV acc, Grow F1 H1 [] F3 H' [D] ∧ (∀ b o, F2 b = some o → F3 b = some o) ∧ H' D = some (.lst accV) ∧ DqAll K F3 accV acc ∧ F3 D = none ∧ acc ++ rb ++ B = vs,
                    fun H' ⟨F4, accV', acc', h1, h2, h3, h4, h5, h6⟩ => ⟨et.length, Nat.lt_succ_self _, F4, accV', acc', et, rb, h1, h2, h3, h4, h5, het, rfl, hrb, h6⟩, fun x2 H' hy2 => ?_⟩
                  obtain ⟨rfl, hyx2⟩ := hy2
                  have : x2 = w2 := Option.some.inj ((hyx2 ys hq3).symm.trans hw2)
                  subst this
                  refine ⟨by show (((wipe σ [i, j]).set i (some (.ref a1))).set j none |>.set j (some x2)).set j none = ((wipe σ [i, j]).set i (some (.ref a1))).set j none; rw [List.set_set, List.set_set], ?_⟩
                  try rw [if_pos (rfl : true = true)]
                  have il : i < (σ ++ as).length := by rw [List.length_append]; omega
                  obtain ⟨fq1, S1, _⟩ := R3.setSlot (e := .own (.dat (.list es))) (v := .ref a1) (fr := []) il (.dat (Dq.mono f23 hwd)) R3.nd (fun _ m => nomatch m)
                  obtain ⟨fq2, S2, _⟩ := S1.setSlot (i := j) (e := .own (.dat e0)) (v := x2) (fr := []) (by rw [List.length_set, List.length_append]; omega) (.dat hwd2) S1.nd (fun _ m => nomatch m)
                  have eqs : ((σ ++ as).set i (some (.ref a1))).set j (some x2) = ((wipe ((wipe σ [i, j]).set i (some (.ref a1))) [j]).set j (some x2)) ++ as := by
                    rw [wipe3 ij (by omega) (by omega), List.set_append_left _ _ (by omega), List.set_append_left _ _ (by rw [List.length_set]; omega)]
                  rw [eqs] at S2
                  refine hc (by rw [List.length_set, wipe_length, List.length_set, wipe_length]; exact L) S2 hdc fun y F4 H4 fr4 g4 a4 n4 o4 => ?_
                  obtain ⟨hyd, rfl⟩ := Own.dat_inv (show Own K F4 H4 y _ fr4 from a4) rfl
                  have hHD4 : H4 D = some (.lst accV3) := g4.keep D _ hHD3 (fun m => nomatch m)
                  have f4D : F4 D = none := g4.off D (by rw [hHD3]; exact fun z => nomatch z) (fun m => nomatch m) f3D
                  have R4 := R3.grow g4
                  have hal : accV3.length = acc3.length := DqAll.len dacc3
                  have htot : acc3.length ≤ vs.length := by rw [← hacc3]; simp only [List.length_append]; omega
                  refine ⟨accV3, hHD4, by have : (100000 : Nat) < sizeLine := by decide
                                          omega, F4, accV3 ++ [y], acc3 ++ [v0], ?_, fun b o h => g4.f b o (f23 b o h), upd_same, DqAll.snoc (DqAll.mono g4.f dacc3) hyd, f4D, by rw [← hacc3]; simp⟩
                  have gw : Grow F4 H4 [D] F4 (upd H4 D (.lst (accV3 ++ [y]))) [D] := Grow.write R4.sub f4D
                  have gb : Grow F3 H' [D] F4 H4 [D] := by simpa using g4.beside [D]
                  exact (g3.trans gb).trans gw
                · cases hin
            · cases hod
          | _ => simp [outerD] at hod
      · cases e
    · cases e
  · cases e
variable {W : WXm} {de : En → Option (S × En)}
variable {ys : List V}
abbrev T3 := Int × Int × Int
def c3 (p : T3) : Int := p.1 * 10000000000 + p.2.1 * 100000 + p.2.2
variable {tt : TT} {dt : En → Option Bool}
end Mv
set_option maxHeartbeats 1000000
namespace L2
open PySem PySem.Spec PyProof.Rows
end L2
set_option maxHeartbeats 4000000
namespace Mv
open PySem PySem.Spec PyProof.Rows L2
end Mv
namespace NX
open PySem PySem.Spec PyProof.Rows L2
open Sem (wp)
abbrev NK := List Int × Int
section
variable {prog : Program} {w : World}
def IsNest (prog : Program) (w : World) (h : Heap) (k : NK) (a : Addr) : Prop := ∃ o b n t, h.get? a = some o ∧ o.cls = .type "tuple" ∧ o.data = .seq #[.ref b, .int k.2 t] n ∧ IsTupleKey (intKind prog w) h k.1 b
theorem IsNest.typeIs {s : Shared} {k : NK} {a : Addr} (x : IsNest prog w s.heap k a) : s.TypeIs (.ref a) "tuple" := let ⟨o, _, _, _, ho, hc, _⟩ := x; ⟨o, ho, hc⟩
theorem IsNest.inj {h : Heap} {a : Addr} {x y : NK} (hx : IsNest prog w h x a) (hy : IsNest prog w h y a) : x = y := by
  obtain ⟨o, b, n, t, ho, _, hd, hi⟩ := hx
  obtain ⟨o', b', n', t', ho', _, hd', hi'⟩ := hy
  obtain rfl : o = o' := Option.some.inj (ho.symm.trans ho')
  rw [hd] at hd'
  injection hd' with h1 _
  have h2 : [Value.ref b, Value.int x.2 t] = [Value.ref b', Value.int y.2 t'] := congrArg Array.toList h1
  injection h2 with h3 h4
  injection h3 with h3
  injection h4 with h4 _
  injection h4 with h4 _
  subst h3
  exact Prod.ext (hi.inj hi') h4
theorem IsNest.keeps {h h' : Heap} {k : NK} {a d : Addr} {o : Obj} {es ep} (x : IsNest prog w h k a) (ho : h.get? d = some o) (hd : o.data = .dict es ep) (hs : Heap.SameBut d h h') : IsNest prog w h' k a := by
  obtain ⟨o', b, n, t, ho', hc, hd', hi⟩ := x
  have hne : a ≠ d := by
    rintro rfl
    obtain rfl : o' = o := Option.some.inj (ho'.symm.trans ho)
    rw [hd] at hd'; exact nomatch hd'
  exact ⟨o', b, n, t, (hs.2 a hne).trans ho', hc, hd', hi.keeps ho hd hs⟩
def nestHash (prog : Program) (w : World) (k : NK) : Int := reduceHash (Builtin.Tuple.tupleHashOf [tupleKeyHash (intKind prog w) k.1, (intKind prog w).hash k.2])
variable {A : Around} {E : Value → Shared → Prop} {s : Shared}
theorem int_is (k : Int) (t : Tok) : (intKind prog w).is k (.int k t) = true := by
  show Value.isInt k (.int k t) = true
  unfold Value.isInt
  simp
theorem pyHash_nest {k : NK} {a : Addr} {Q : Int → Shared → Prop} (hu : A.units + 1 < cLine) (hk : IsNest prog w s.heap k a) (h : Q (nestHash prog w k) { s with toks := s.toks + (k.1.length + 1 + 1 + 1) }) :
    wpAny (model prog w) A (pyHash (.ref a)) Q E s := by
  have hT := hk.typeIs
  obtain ⟨o, b, n, t, ho, _, hd, hi⟩ := hk
  unfold pyHash
  first | unfold pyHashByItsType | skip
  first | refine wpAny_bind (wpAny_cRoomFor_or (.inr (Nat.lt_of_succ_lt hu)) ?_) | skip
  refine wpAny_bind (wpAny_specialOf hT F.slot_tuple_hash.lookup ?_)
  show wpAny _ _ (if (some (Value.builtin "tuple.__hash__") == some Value.none) = true then _ else _) Q E s
  rw [if_neg (by rw [beq_builtin_none]; exact Bool.false_ne_true)]
  refine wpAny_bind (wpAny_specialOf hT F.slot_tuple_hash.lookup ?_)
  show wpAny _ _ (callSpecialIfBoundUnlessNone? (.ref a) "__hash__" _ >>= _) Q E s
  refine wpAny_bind (wpAny_callSpecialIfBoundUnlessNone?_slot hT F.slot_tuple_hash (wpAny_call_entry F.slot_tuple_hash hT F.entry_tuple_hash ?_ (F.args_tuple_hash_1 _)))
  show wpAny _ _ (Builtin.Tuple.tupleItemsOf (.ref a) >>= _) _ _ s
  refine wpAny_bind (wpAny_tupleItemsOf ho hd ?_)
  refine wpAny_bind ?_
  rw [← Array.forIn_toList]
  show wpAny _ _ (forIn [Value.ref b, Value.int k.2 t] _ _) _ _ _
  rw [List.forIn_cons]
  refine wpAny_bind (wpAny_bind (wpAny_pyHash_tuple (A := A.in1) hu hi ?_))
  refine wpAny_pure ?_
  show wpAny _ _ (forIn [Value.int k.2 t] _ _) _ _ _
  rw [List.forIn_cons]
  refine wpAny_bind (wpAny_bind ((intKind prog w).pyHash (int_is k.2 t) ?_))
  refine wpAny_pure ?_
  show wpAny _ _ (forIn [] _ _) _ _ _
  rw [List.forIn_nil]
  refine wpAny_pure ?_
  show wpAny _ _ (retInt (Builtin.Tuple.tupleHashOf [tupleKeyHash (intKind prog w) k.1, (intKind prog w).hash k.2])) _ _ _
  refine wpAny_ret_mkInt ?_
  show wpAny _ _ (if (decide (-(2 : Int) ^ 63 ≤ Builtin.Tuple.tupleHashOf [tupleKeyHash (intKind prog w) k.1, (intKind prog w).hash k.2]) && decide (Builtin.Tuple.tupleHashOf [tupleKeyHash (intKind prog w) k.1, (intKind prog w).hash k.2] < 2 ^ 63)) = true then _ else _) Q E _
  unfold nestHash reduceHash at h
  by_cases hr : (decide (-(2 : Int) ^ 63 ≤ Builtin.Tuple.tupleHashOf [tupleKeyHash (intKind prog w) k.1, (intKind prog w).hash k.2]) && decide (Builtin.Tuple.tupleHashOf [tupleKeyHash (intKind prog w) k.1, (intKind prog w).hash k.2] < 2 ^ 63)) = true
  · rw [if_pos hr]
    rw [if_pos hr] at h
    exact wpAny_pure (by simpa [Nat.add_assoc] using h)
  · rw [if_neg hr]
    rw [if_neg hr] at h
    exact wpAny_bind (wpAny_rule (wpAny_pure (by simpa [Nat.add_assoc] using h)))
theorem nest_eq_tree {x y : NK} {a b : Addr} {P : Fin → Shared → Prop} (hu : A.units < cLine) (hx : IsNest prog w s.heap x a) (hy : IsNest prog w s.heap y b) (h : P (.done (.ret (.bool (decide (x = y))))) s) :
    wpAny (model prog w) A (Builtin.«tuple.__eq__» ⟨[.ref a, .ref b], []⟩) P E s := by
  have hTb := hy.typeIs
  obtain ⟨oa, a1, na, ta, hoa, _, hda, hia⟩ := hx
  obtain ⟨ob, b1, nb, tb, hob, _, hdb, hib⟩ := hy
  show wpAny _ _ (isInstance (.ref b) (.type "tuple") >>= _) _ _ s
  refine wpAny_bind (wpAny_isInstance hTb isSubtype_tuple_tuple ?_)
  simp only [Bool.not_true, Bool.false_eq_true, if_false]
  refine wpAny_bind (wpAny_tupleItemsOf hoa hda ?_)
  refine wpAny_bind (wpAny_tupleItemsOf hob hdb ?_)
  refine wpAny_bind ?_
  show wpAny _ _ (forIn [(Value.ref a1, Value.ref b1), (Value.int x.2 ta, Value.int y.2 tb)] _ _) _ _ _
  rw [List.forIn_cons]
  refine wpAny_bind (wpAny_bind (wpAny_eqBool_tuple hu hia hib ?_))
  by_cases e1 : x.1 = y.1
  · rw [decide_eq_true e1]
    simp only [Bool.not_true, Bool.false_eq_true, if_false]
    refine wpAny_pure ?_
    show wpAny _ _ (forIn [(Value.int x.2 ta, Value.int y.2 tb)] _ _) _ _ _
    rw [List.forIn_cons]
    refine wpAny_bind (wpAny_bind ((intKind prog w).eqBool (int_is x.2 ta) (int_is y.2 tb) ?_))
    by_cases e2 : x.2 = y.2
    · rw [decide_eq_true e2]
      simp only [Bool.not_true, Bool.false_eq_true, if_false]
      refine wpAny_pure ?_
      show wpAny _ _ (forIn [] _ _) _ _ _
      rw [List.forIn_nil]
      refine wpAny_pure (wpAny_pure ?_)
      rw [decide_eq_true (Prod.ext e1 e2 : x = y)] at h
      exact h
    · rw [decide_eq_false e2]
      simp only [Bool.not_false, if_true]
      rw [decide_eq_false (fun z => e2 (by rw [z]))] at h
      exact wpAny_bind (wpAny_pure (wpAny_pure (wpAny_pure (wpAny_pure h))))
  · rw [decide_eq_false e1]
    simp only [Bool.not_false, if_true]
    rw [decide_eq_false (fun z => e1 (by rw [z]))] at h
    exact wpAny_bind (wpAny_pure (wpAny_pure (wpAny_pure (wpAny_pure h))))
theorem eqBool_nest {x y : NK} {a b : Addr} {Q : Bool → Shared → Prop} (hu : A.units + 1 < cLine) (hx : IsNest prog w s.heap x a) (hy : IsNest prog w s.heap y b) (h : Q (decide (x = y)) s) :
    wpAny (model prog w) A (eqBool (.ref a) (.ref b)) Q E s := by
  unfold eqBool
  try with_reducible refine wpAny_holding ?_
  show wpAny _ _ (if (Value.ref a == Value.ref b) = true then _ else _) Q E s
  by_cases hab : (Value.ref a == Value.ref b) = true
  · rw [if_pos hab]
    have e : a = b := by have := eq_of_beq hab; injection this
    subst e
    obtain rfl := hx.inj hy
    exact wpAny_bind (wpAny_rule (wpAny_pure (by simpa using h)))
  · rw [if_neg hab]
    exact wpAny_bind (wpAny_richCompare_same_room (op := .Eq) hx.typeIs hy.typeIs F.slot_tuple_eq
      (wpAny_call_entry F.slot_tuple_eq hx.typeIs F.entry_tuple_eq (nest_eq_tree hu hx hy ⟨_, rfl, (fun e => nomatch e), wpAny_truthy_bool h⟩) (F.args_tuple_eq_2 _ _)) (Nat.lt_of_succ_lt hu))
theorem quiet_tuple (m : Nat) {ks : List Int} {a : Addr} {Q : Bool → Shared → Prop} (hk : IsTupleKey (intKind prog w) s.heap ks a) (h : Q true s) : wpAny (model prog w) A (eqIsQuiet (m + 1) (.ref a)) Q E s := by
  have hT := hk.typeIs
  obtain ⟨o, items, n, ho, _, hd, hi⟩ := hk
  unfold eqIsQuiet
  refine wpAny_bind (wpAny_specialOf hT F.slot_tuple_eq.lookup ?_)
  show wpAny _ _ (isInstance (.ref a) (.type "tuple") >>= _) _ _ s
  refine wpAny_bind (wpAny_isInstance hT isSubtype_tuple_tuple ?_)
  simp only [Bool.not_true, Bool.false_eq_true, if_false]
  refine wpAny_bind (wpAny_seqItems ho hd ?_)
  refine wpAny_bind ?_
  show wpAny _ _ (forIn items _ _) _ _ s
  rw [← Array.forIn_toList]
  refine wpAny_forIn_list _ (fun rest r s' => r.1 = none ∧ s' = s ∧ ∀ v ∈ rest, carriedByValue v = true) _ ?_ ?_ _ _ ⟨rfl, rfl, hi.byValue⟩
  · rintro v rest r s' ⟨hr, rfl, hall⟩
    rw [eqIsQuiet_byValue _ (hall v List.mem_cons_self)]
    refine wpAny_bind (wpAny_pure ?_)
    simp only [Bool.not_true, Bool.false_eq_true, if_false]
    exact wpAny_pure ⟨rfl, rfl, fun u hu' => hall u (List.mem_cons_of_mem _ hu')⟩
  · rintro ⟨r1, r2⟩ s' ⟨hr, rfl, _⟩
    simp only at hr
    subst hr
    exact wpAny_pure h
theorem quiet_nest {k : NK} {a : Addr} {Q : Bool → Shared → Prop} (hk : IsNest prog w s.heap k a) (h : Q true s) : wpAny (model prog w) A (eqIsQuiet 8 (.ref a)) Q E s := by
  have hT := hk.typeIs
  obtain ⟨o, b, n, t, ho, _, hd, hi⟩ := hk
  unfold eqIsQuiet
  refine wpAny_bind (wpAny_specialOf hT F.slot_tuple_eq.lookup ?_)
  show wpAny _ _ (isInstance (.ref a) (.type "tuple") >>= _) _ _ s
  refine wpAny_bind (wpAny_isInstance hT isSubtype_tuple_tuple ?_)
  simp only [Bool.not_true, Bool.false_eq_true, if_false]
  refine wpAny_bind (wpAny_seqItems ho hd ?_)
  refine wpAny_bind ?_
  show wpAny _ _ (forIn #[Value.ref b, Value.int k.2 t] _ _) _ _ s
  rw [← Array.forIn_toList]
  show wpAny _ _ (forIn [Value.ref b, Value.int k.2 t] _ _) _ _ s
  rw [List.forIn_cons]
  refine wpAny_bind (wpAny_bind (quiet_tuple _ hi ?_))
  simp only [Bool.not_true, Bool.false_eq_true, if_false]
  refine wpAny_pure ?_
  show wpAny _ _ (forIn [Value.int k.2 t] _ _) _ _ s
  rw [List.forIn_cons]
  rw [eqIsQuiet_byValue _ (show carriedByValue (Value.int k.2 t) = true from rfl)]
  refine wpAny_bind (wpAny_bind (wpAny_pure ?_))
  simp only [Bool.not_true, Bool.false_eq_true, if_false]
  refine wpAny_pure ?_
  show wpAny _ _ (forIn [] _ _) _ _ s
  rw [List.forIn_nil]
  exact wpAny_pure (wpAny_pure h)
end
def nestKind (prog : Program) (w : World) : HeapKind prog w NK where
  is := IsNest prog w
  hash := nestHash prog w
  draws := fun k => k.1.length + 1 + 1 + 1
  room := fun A => A.units + 1 < cLine
  inj := fun hx hy => hx.inj hy
  keeps := fun x ho hd hs => x.keeps ho hd hs
  pyHash := fun hu hk h => pyHash_nest hu hk h
  eqBool := fun hu hx hy h => eqBool_nest hu hx hy h
  quiet := fun hk h => quiet_nest hk h
def DN (P : Program) (w : World) (a : Addr) (xs : List (NK × Addr × Value)) : HO := .ext fun h => (a == sysModules) = false ∧ xs.length ≤ sizeLine ∧ (xs.map (·.1)).Nodup ∧
  ∃ o es ep, h.get? a = some o ∧ o.ExactDict ∧ o.data = .dict es ep ∧ es.toList = xs.map (entryOfKey (nestKind P w))
def NestK (K : PySem.W.Frag) (H : Hp) (k : NK) (b : Addr) : Prop := ∃ c, TupQ K H b [.ref c, .int k.2] ∧ TupQ K H c (k.1.map V.int)
theorem NestK.mono {K : PySem.W.Frag} {H H' : Hp} {k : NK} {b : Addr} (h : NestK K H k b) (e : ∀ b o, H b = some o → H' b = some o) : NestK K H' k b := by
  obtain ⟨c, h1, h2⟩ := h
  exact ⟨c, h1.mono e, h2.mono e⟩
section
variable {X : Cx} {pins : List (Addr × Obj)} {σ : L2.St} {H : Hp} {s : Shared} {a b : Addr} {k : NK} {A : Around} {E : Value → Shared → Prop} {xs : List (NK × Addr × Value)}
theorem items_int {P : Program} {w : World} : ∀ {ks : List Int} {us : List Value}, Vals (ks.map V.int) us → ItemsAre (intKind P w) ks us
  | [], _, r => by rw [List.map_nil] at r; cases r; exact .nil
  | k :: ks, _, r => by
    rw [List.map_cons] at r
    cases r with
    | cons h t =>
      obtain ⟨t', e⟩ := h
      subst e
      exact .cons (int_is k t') (items_int t)
theorem isNest_of (I : Inv X pins σ H s) (h : NestK X.K H k b) : IsNest X.prog X.w s.heap k b := by
  obtain ⟨c, h1, h2⟩ := h
  obtain ⟨its, rv, it, zt⟩ := I.tuple h1.sq
  obtain ⟨jts, rj, ⟨o2, g1, g2, n2, g3⟩, zt2⟩ := I.tuple h2.sq
  obtain ⟨o1, e1, e2, n1, e3⟩ := it
  cases rv with
  | cons r1 rv =>
    cases rv with
    | cons r2 rv =>
      cases rv
      obtain ⟨t, rfl⟩ := r2
      cases r1
      exact ⟨o1, c, n1, t, e1, e2, e3, o2, jts.toArray, n2, g1, g2, g3, by simpa using items_int rj⟩
theorem DN.ok {P : Program} {w : World} {H : Hp} {h : Heap} (z : xs.length ≤ sizeLine) (hd : (a == sysModules) = false) (dd : h.DictOfH (nestKind P w) a xs) : ObjOk P w H h a (DN P w a xs) := by
  obtain ⟨o, es, ep, h1, h2, h3, h4, h5, h6⟩ := dd
  refine ⟨⟨hd, z, h6, o, es, ep, h1, h2, h3, h4⟩, ⟨o, h1⟩, fun ha hb ⟨a1, a2, a3, o', es', ep', b1, b2, b3, b4⟩ k => ⟨a1, a2, a3, o', es', ep', k _ b1, b2, b3, b4⟩⟩
def KeysIn (K : PySem.W.Frag) (H : Hp) (xs : List (NK × Addr × Value)) : Prop := ∀ x ∈ xs, NestK K H x.1 x.2.1
theorem KeysIn.mono {K : PySem.W.Frag} {H H' : Hp} (h : KeysIn K H xs) (e : ∀ b o, H b = some o → H' b = some o) : KeysIn K H' xs := fun x m => (h x m).mono e
theorem dn_of (I : Inv X pins σ H s) (e : H a = some (DN X.prog X.w a xs)) (hk : KeysIn X.K H xs) : xs.length ≤ sizeLine ∧ (a == sysModules) = false ∧ s.heap.DictOfH (nestKind X.prog X.w) a xs := by
  obtain ⟨⟨a1, a2, a3, o, es, ep, b1, b2, b3, b4⟩, _, _⟩ := (show ObjOk X.prog X.w H s.heap a (DN X.prog X.w a xs) from I.hok a _ e)
  exact ⟨a2, a1, o, es, ep, b1, b2, b3, b4, fun x m => isNest_of I (hk x m), a3⟩
def tNIn (P : Program) (w : World) (K : PySem.W.Frag) (ty td : TE) : TE := fun σ H Q => ty σ H fun y H1 => td σ H1 fun x H2 => ∃ a xs b k, x = .ref a ∧ H2 a = some (DN P w a xs) ∧ KeysIn K H2 xs ∧ y = .ref b ∧ NestK K H2 k b ∧ Q (.bl (atKey xs k).isSome) H2
theorem pc_nin {i o : Expr} {ty td : TE} (hu : X.A.units + 2 < cLine) (hi : PE X i ty) (ho : PE X o td) : PC X .In i o (tNIn X.prog X.w X.K ty td) := by
  refine ⟨fun pins s σ H Q I h => ?_⟩
  refine thn (hi.run pins s σ H _ I h) fun iv s1 ⟨y, H1, I1, ry, q1⟩ => thn (ho.run pins s1 σ H1 _ I1 q1) fun u s2 ⟨x, H2, I2, rx, a, xs, b, k, ex, e, hk, ey, nk, q2⟩ => ?_
  subst ex ey
  obtain rfl : u = Value.ref a := rx
  obtain rfl : iv = Value.ref b := ry
  obtain ⟨z, hd, dd⟩ := dn_of I2 e hk
  exact wpAny_in_heap (show X.A.in1.units + 1 < cLine from hu) (isNest_of I2 nk) hd dd ⟨.bl (atKey xs k).isSome, H2, I2.tok _, rfl, q2⟩
def tNPut (P : Program) (w : World) (K : PySem.W.Frag) (td ty tv : TE) : TS := fun D σ H => tv σ H fun v H1 => td σ H1 fun x H2 => ty σ H2 fun y H3 => ∃ a xs b k, x = .ref a ∧ H3 a = some (DN P w a xs) ∧ KeysIn K H3 xs ∧ y = .ref b ∧ NestK K H3 k b ∧ xs.length < sizeLine ∧ ∀ u, D.nx σ (upd H3 a (DN P w a (storedH xs k b u)))
theorem stored_len (k : NK) (b : Addr) (u : Value) : (storedH xs k b u).length ≤ xs.length + 1 := by
  unfold storedH
  split
  · rw [List.length_map]; omega
  · rw [List.length_append]; exact Nat.le_refl _
theorem ps_nput {i o value : Expr} {pos pos' : Pos} {ty td tv : TE} (hu : X.A.units + 2 < cLine) (ho : PE X o td) (hi : PE X i ty) (hv : PE X value tv) (hs : swapsWith value (some (.Subscript o i pos')) pos.line X.env = pure false) :
    PS X (.Assign [.Subscript o i pos'] value pos) (tNPut X.prog X.w X.K td ty tv) := by
  refine ⟨fun pins s σ H D I h => ?_⟩
  refine wpAny_Assign_Subscript (thn (hv.run pins s σ H _ I h) fun r s1 ⟨v, H1, I1, rv, q1⟩ => thn (ho.run pins s1 σ H1 _ I1 q1) fun u s2 ⟨x, H2, I2, rx, q2⟩ => thn (hi.run pins s2 σ H2 _ I2 q2) fun iv s3 ⟨y, H3, I3, ry, a, xs, b, k, ex, e, hk, ey, nk, l, q3⟩ => ?_) hs
  subst ex ey
  obtain rfl : u = Value.ref a := rx
  obtain rfl : iv = Value.ref b := ry
  obtain ⟨z, hd, dd⟩ := dn_of I3 e hk
  refine wpAny_setItem_heap (hsz := z) (show X.A.in1.units + 1 < cLine from hu) (isNest_of I3 nk) dd fun h' dd' hs' => ?_
  have he : ∃ q, h'.get? a = some q := let ⟨q, _, _, hq, _⟩ := dd'; ⟨q, hq⟩
  exact ⟨σ, _, d_write I3 (by rw [e]; exact True.intro) hs' he (DN.ok (by have := stored_len (xs := xs) k b r; omega) hd dd'), q3 r⟩
def tNNew (P : Program) (w : World) : TE := fun _ H Q => ∀ d, H d = none → Q (.ref d) (upd H d (DN P w d []))
theorem pe_dnewN {pos : Pos} : PE X (.Dict [] [] pos) (tNNew X.prog X.w) := ⟨fun pins s σ H Q I h =>
  wpAny_Dict_empty ⟨.ref s.heap.objs.size, _, I.laid (a := s.heap.objs.size) (o := DN X.prog X.w s.heap.objs.size []) (t' := s.toks) (fun _ _ q => Heap.get?_push_of_some _ q) (Nat.le_refl _)
    (DN.ok (Nat.zero_le _) (beq_eq_false_iff_ne.mpr (Ne.symm (Nat.ne_of_lt I.big))) (Heap.DictOfH.new _)), rfl, h _ (I.hok.fresh (Nat.le_refl _))⟩⟩
end
end NX
namespace Mv
open PySem PySem.Spec PyProof.Rows L2 NX
variable {K : PySem.W.Frag} {F F' F1 F2 F3 H H' H1 H2 H3 : Hp} {v u x y : V} {vs ws : List V} {s t : S} {ss tts : List S} {fp fq fr fp' fp1 fp2 f1 f2 : List Addr} {ρ as : Ro} {E E' : En} {n : Nat}
variable {W : WXm} {te ta tb tc : TE} {d da db dc : En → Option Rs} {tr : TA} {dr : En → Option (List Rs)} {de df : En → Option (S × En)} {tt : TT} {dte : En → Option (Bool × En)}
def rIxA (K : PySem.W.Frag) : R2 := fun x y H Q => rIxL K x y H Q ∨ rIxT K x y H Q
theorem ix_any {X : Cx} : IxR X (rIxA X.K) := by
  intro value slice pins s σ H x y v u Q I rx ry h hs
  rcases h with h | h
  · exact ix_list value slice pins s σ H x y v u Q I rx ry h hs
  · exact ix_tup value slice pins s σ H x y v u Q I rx ry h hs
def dIxA (da db : En → Option Rs) (E : En) : Option Rs := match dIxL da db E with
  | some r => some r
  | none => dIxT da db E
theorem p_ixA (ha : EvP K n as ta da) (hb : EvP K n as tb db) : EvP K n as (tOp (rIxA K) ta tb) (dIxA da db) := by
  intro F H σ E fp L R r' e Q q
  unfold dIxA at e
  split at e
  · next r0 e0 =>
    cases e
    unfold dIxL at e0
    split at e0
    · next r i ea eb =>
      refine ha L R ea fun x F1 H1 f1 g1 r1 n1 o1 => hb L (R.grow g1) eb fun y F2 H2 f2 g2 r2 n2 o2 => .inl ?_
      have R2 := (R.grow g1).grow g2
      have r1' := r1.grow (R.grow g1) g2
      have gg := (g1.seq0 g2).drop
      cases (Own.dat_inv (show Own K F2 H2 y _ f2 from r2) rfl).1
      split at e0
      · next ss es =>
        split at e0
        · next j ej =>
          split at e0
          · next s hs =>
            obtain ⟨fq, o⟩ := r1'.own R2 es
            obtain ⟨a, vs, fq', rfl, hH, l, _⟩ := o.lst_inv rfl
            obtain ⟨w, f, hw, ow⟩ := l.nth hs
            refine ⟨a, vs, i, w, rfl, rfl, .inl (.inl hH), by unfold atI; rw [l.length, ej]; exact hw, ?_⟩
            exact q w F2 H2 [] gg (r1'.kid R2 es hH hw hs ow e0) List.nodup_nil (fun _ m => nomatch m)
          · cases e0
        · cases e0
      · next ds es =>
        split at e0
        · next j ej =>
          obtain ⟨d, hd, rfl⟩ := Option.map_eq_some_iff.mp e0
          obtain ⟨fq, o⟩ := r1'.own R2 es
          obtain ⟨a, xs, rfl, hq, da⟩ := Mv.Dq.list_inv (o.dat_inv rfl).1
          obtain ⟨w, hw, dw⟩ := Mv.DqAll.nth da hd
          refine ⟨a, xs, i, w, rfl, rfl, SqL.mono R2.sub hq, by unfold atI; rw [Mv.DqAll.len da, ej]; exact hw, ?_⟩
          exact q w F2 H2 [] gg (.dat dw) List.nodup_nil (fun _ m => nomatch m)
        · cases e0
      · cases e0
    · cases e0
  · unfold dIxT at e
    split at e
    · next r i ea eb =>
      refine ha L R ea fun x F1 H1 f1 g1 r1 n1 o1 => hb L (R.grow g1) eb fun y F2 H2 f2 g2 r2 n2 o2 => .inr ?_
      have R2 := (R.grow g1).grow g2
      have r1' := r1.grow (R.grow g1) g2
      cases (Own.dat_inv (show Own K F2 H2 y _ f2 from r2) rfl).1
      split at e
      · next ds es =>
        split at e
        · next j ej =>
          obtain ⟨d, hd, rfl⟩ := Option.map_eq_some_iff.mp e
          obtain ⟨fq, o⟩ := r1'.own R2 es
          obtain ⟨a, xs, rfl, hq, da⟩ := Mv.Dq.tuple_inv (o.dat_inv rfl).1
          obtain ⟨w, hw, dw⟩ := Mv.DqAll.nth da hd
          refine ⟨a, xs, i, w, rfl, rfl, SqT.mono R2.sub hq, by unfold atI; rw [Mv.DqAll.len da, ej]; exact hw, ?_⟩
          exact q w F2 H2 [] (g1.seq0 g2).drop (.dat dw) List.nodup_nil (fun _ m => nomatch m)
        · cases e
      · cases e
    · cases e
def eSealP (d : En → Option Rs) (E : En) : Option (S × En) := match d E with
  | some (.pl p) => match eget E p with
    | some s => match s.toD with
      | some D => some (.dat D, ekill (eput E p (.dat D)) p)
      | none => none
    | none => none
  | some (.val (.dat D)) => some (.dat D, E)
  | _ => none
theorem e_sealP (h : EvP K n as te d) : EvE K n as te (eSealP d) := by
  intro F H σ E fp L R s0 E0 e Q q
  unfold eSealP at e
  split at e
  · next p hp =>
    split at e
    · next s hs =>
      split at e
      · next D hD =>
        cases e
        refine h L R hp fun v F1 H1 fr g1 a1 nd of => ?_
        obtain ⟨rfl, a2, a3⟩ := a1
        have R1 := R.grow g1
        obtain ⟨u, f1, f2, h1, h2, pm, close⟩ := R1.focus2 hs
        rw [a2] at h1
        cases h1
        have of1 : ∀ b ∈ f1, F1 b = none := fun b m => R1.off b (pm.mem_iff.mpr (List.mem_append_left _ m))
        have ff : ∀ b o, F1 b = some o → (fun b => if b ∈ f1 then H1 b else F1 b) b = some o := fun b o e => by
          dsimp only
          rw [if_neg fun m => by rw [of1 b m] at e; cases e]; exact e
        have sub : ∀ b o, (fun b => if b ∈ f1 then H1 b else F1 b) b = some o → H1 b = some o := fun b o e => by
          dsimp only at e
          split at e
          · exact e
          · exact R1.sub b o e
        have g2 : Grow F1 H1 f1 (fun b => if b ∈ f1 then H1 b else F1 b) H1 [] := ⟨ff, sub, fun _ _ h _ => h, fun _ m => (nomatch m), fun b h0 m e => (if_neg m).trans e⟩
        have dq := Own.dpIn ff s h2 (fun b m o e => (if_pos m).trans e) hD
        obtain ⟨R2, nd2, g3⟩ := close _ _ (.dat D) [] [] [] (by simpa using g2) (fun _ m => nomatch m) (.dat dq) List.nodup_nil (fun _ m => nomatch m)
        exact q v _ H1 [] ([] ++ f2) (g1.mine.trans (by simpa using g3)) R2 (.dat dq) (by simpa using nd2) (fun _ m => nomatch m)
      · cases e
    · cases e
  · next D hp =>
    cases e
    refine h L R hp fun v F1 H1 fr g1 a1 nd of => ?_
    have o := Own.dat_inv (show Own K F1 H1 v (.dat D) fr from a1) rfl
    exact q v F1 H1 [] fp g1.mine (R.grow g1) (.dat o.1) (by simpa using R.nd) (fun _ m => nomatch m)
  · cases e
end Mv
namespace Mv
open PySem PySem.Spec PyProof.Rows L2 NX
variable {K : PySem.W.Frag} {F F' F1 F2 F3 H H' H1 H2 H3 : Hp} {v u x y : V} {vs ws : List V} {s t : S} {ss tts : List S} {fp fq fr fp' fp1 fp2 f1 f2 : List Addr} {ρ as : Ro} {E E' : En} {n : Nat}
variable {W : WXm} {te ta tb tc : TE} {d da db dc : En → Option Rs} {tr : TA} {dr : En → Option (List Rs)} {de df : En → Option (S × En)} {tt : TT} {dte : En → Option (Bool × En)} {t1 t2 ts : TS}
variable {P : Program} {w : World} {a : Addr} {z z' : List NK}
def IZ (P : Program) (w : World) (K : PySem.W.Frag) (F H : Hp) (fp : List Addr) (a : Addr) (z : List NK) : Prop :=
  a ∉ fp ∧ F a = none ∧ ∃ xs : List (NK × Addr × Value), xs.map (·.1) = z ∧ H a = some (DN P w a xs) ∧ KeysIn K F xs
theorem IZ.there (h : IZ P w K F H fp a z) : H a ≠ none := by
  obtain ⟨_, _, xs, _, e, _⟩ := h
  rw [e]; exact fun q => nomatch q
theorem IZ.grow (h : IZ P w K F H fp a z) (g : Grow F H fp F' H' fp') : IZ P w K F' H' fp' a z := by
  have h0 := h.there
  obtain ⟨h1, h2, xs, e1, e2, e3⟩ := h
  exact ⟨fun m => (g.new a m).elim h1 h0, g.off a h0 h1 h2, xs, e1, g.keep a _ e2 h1, e3.mono g.f⟩
theorem IZ.sub (h : IZ P w K F H fp a z) (s : ∀ b ∈ fq, b ∈ fp) : IZ P w K F H fq a z := ⟨fun m => h.1 (s a m), h.2⟩
theorem Grow.withA (g : Grow F H fp F' H' fp') (a : Addr) : Grow F H (a :: fp) F' H' (a :: fp') :=
  ⟨g.f, g.sub, fun b o e m => g.keep b o e fun q => m (List.mem_cons_of_mem _ q), fun b m => by
    rcases List.mem_cons.mp m with q | q
    · exact .inl (by rw [q]; exact List.mem_cons_self)
    · exact (g.new b q).imp (List.mem_cons_of_mem _) id, fun b h0 m e => g.off b h0 (fun q => m (List.mem_cons_of_mem _ q)) e⟩
def Out.goZ (P : Program) (w : World) (K : PySem.W.Frag) (n : Nat) (as : Ro) (a : Addr) (z' : List NK) (F H : Hp) (fp : List Addr) (D : Ends) : Out → Prop
  | .nx E' => ∀ (σ' : L2.St) F' H' fp', σ'.length = n → Grow F H (a :: fp) F' H' (a :: fp') → Rep K F' H' (σ' ++ as) E' fp' → IZ P w K F' H' fp' a z' → D.nx σ' H'
  | .bk E' => ∀ (σ' : L2.St) F' H' fp', σ'.length = n → Grow F H (a :: fp) F' H' (a :: fp') → Rep K F' H' (σ' ++ as) E' fp' → IZ P w K F' H' fp' a z' → D.bk σ' H'
  | .ct E' => ∀ (σ' : L2.St) F' H' fp', σ'.length = n → Grow F H (a :: fp) F' H' (a :: fp') → Rep K F' H' (σ' ++ as) E' fp' → IZ P w K F' H' fp' a z' → D.ct σ' H'
  | .ex _ _ => False
  | .rt s E' => ∀ v (σ' : L2.St) F' H' fr fp', σ'.length = n → Grow F H (a :: fp) F' H' (a :: (fr ++ fp')) → Rep K F' H' (σ' ++ as) E' fp' → Own K F' H' v s fr → (fr ++ fp').Nodup → (∀ b ∈ fr, F' b = none) → IZ P w K F' H' (fr ++ fp') a z' → D.rt v H'
theorem Out.goZ.grow {o : Out} {D : Ends} (h : o.goZ P w K n as a z' F H fp D) (g : Grow F H (a :: fp) F1 H1 (a :: fp1)) : o.goZ P w K n as a z' F1 H1 fp1 D := by
  cases o with
  | rt s E' => exact fun v σ' F' H' fr fp' L g' R o nd of i => h v σ' F' H' fr fp' L (g.trans g') R o nd of i
  | ex c E' => exact h
  | _ => exact fun σ' F' H' fp' L g' R i => h σ' F' H' fp' L (g.trans g') R i
def EvZ (P : Program) (w : World) (K : PySem.W.Frag) (n : Nat) (as : Ro) (a : Addr) (ts : TS) (d : En → List NK → Option (Out × List NK)) : Prop :=
  ∀ {F H : Hp} {σ : L2.St} {E : En} {fp : List Addr} {z : List NK}, σ.length = n → Rep K F H (σ ++ as) E fp → IZ P w K F H fp a z → ∀ {o : Out} {z' : List NK}, d E z = some (o, z') → ∀ {D : Ends}, o.goZ P w K n as a z' F H fp D → ts D σ H
def EvTZ (P : Program) (w : World) (K : PySem.W.Frag) (n : Nat) (as : Ro) (a : Addr) (tt : TT) (d : En → List NK → Option (Bool × En)) : Prop :=
  ∀ {F H : Hp} {σ : L2.St} {E : En} {fp : List Addr} {z : List NK}, σ.length = n → Rep K F H (σ ++ as) E fp → IZ P w K F H fp a z → ∀ {b : Bool} {E' : En}, d E z = some (b, E') → ∀ {Q : Bool → Hp → Prop},
    (∀ F' H' fp', Grow F H fp F' H' fp' → Rep K F' H' (σ ++ as) E' fp' → Q b H') → tt σ H Q
def zL (d : En → Option Out) (E : En) (z : List NK) : Option (Out × List NK) := match d E with
  | some (.ex _ _) => none
  | some o => some (o, z)
  | none => none
theorem z_lift {d : En → Option Out} (h : ∀ W, EvS K n as W ts d) : EvZ P w K n as a ts (zL d) := by
  intro F H σ E fp z L R i o z' e D g
  unfold zL at e
  split at e
  · cases e
  · next o' _ hd =>
    cases e
    refine h (fun _ _ _ _ => False) L R hd ?_
    cases o with
    | nx E' => exact fun σ' F' H' fp' L' g' R' => g σ' F' H' fp' L' (g'.withA a) R' (i.grow g')
    | bk E' => exact fun σ' F' H' fp' L' g' R' => g σ' F' H' fp' L' (g'.withA a) R' (i.grow g')
    | ct E' => exact fun σ' F' H' fp' L' g' R' => g σ' F' H' fp' L' (g'.withA a) R' (i.grow g')
    | ex c E' => exact g.elim
    | rt s E' => exact fun v σ' F' H' fr fp' L' g' R' ow nd of => g v σ' F' H' fr fp' L' (g'.withA a) R' ow nd of (i.grow g')
  · cases e
def zSeq (d1 d2 : En → List NK → Option (Out × List NK)) (E : En) (z : List NK) : Option (Out × List NK) := match d1 E z with
  | some (.nx E1, z1) => d2 E1 z1
  | r => r
theorem z_seq {d1 d2 : En → List NK → Option (Out × List NK)} (h1 : EvZ P w K n as a t1 d1) (h2 : EvZ P w K n as a t2 d2) : EvZ P w K n as a (tSeq t1 t2) (zSeq d1 d2) := by
  intro F H σ E fp z L R i o z' e D g
  unfold zSeq at e
  split at e
  · next E1 z1 hd =>
    refine h1 L R i hd ?_
    exact fun σ' F' H' fp' L' g' R' i' => h2 L' R' i' e (g.grow g')
  · next hn =>
    refine h1 L R i e ?_
    cases o with
    | nx E1 => exact absurd e (hn E1 z')
    | rt s E1 => exact g
    | bk E1 => exact g
    | ct E1 => exact g
    | ex c E1 => exact g
def zT (dt : En → Option (Bool × En)) (E : En) (_ : List NK) : Option (Bool × En) := dt E
theorem zt_lift {dt : En → Option (Bool × En)} (h : EvTE K n as tt dt) : EvTZ P w K n as a tt (zT dt) := fun L R _ _ _ e _ q => h L R e q
def zIf (dt : En → List NK → Option (Bool × En)) (d1 d2 : En → List NK → Option (Out × List NK)) (E : En) (z : List NK) : Option (Out × List NK) := match dt E z with
  | some (true, E1) => d1 E1 z
  | some (false, E1) => d2 E1 z
  | none => none
theorem z_if {dt : En → List NK → Option (Bool × En)} {d1 d2 : En → List NK → Option (Out × List NK)} (ht : EvTZ P w K n as a tt dt) (h1 : EvZ P w K n as a t1 d1) (h2 : EvZ P w K n as a t2 d2) : EvZ P w K n as a (tIfS tt t1 t2) (zIf dt d1 d2) := by
  intro F H σ E fp z L R i o z' e D g
  unfold zIf at e
  split at e
  · next E1 et => exact ht L R i et fun F1 H1 fp1 g1 R1 => iteT (h1 L R1 (i.grow g1) e (g.grow (g1.withA a)))
  · next E1 et => exact ht L R i et fun F1 H1 fp1 g1 R1 => iteF (h2 L R1 (i.grow g1) e (g.grow (g1.withA a)))
  · cases e
def nkOf : PyData → Option NK
  | .tuple [.tuple ds, .int l] => (ds.mapM fun d => match d with | PyData.int k => some k | _ => none).map fun ks => (ks, l)
  | _ => none
theorem ints_of : ∀ {ds : List PyData} {ks : List Int}, (ds.mapM fun d => match d with | PyData.int k => some k | _ => none) = some ks → ds = ks.map PyData.int
  | [], ks, h => by
    simp only [List.mapM_nil] at h
    cases h
    rfl
  | d :: ds, ks, h => by
    rw [List.mapM_cons] at h
    cases d with
    | int k =>
      obtain ⟨r, h1, h2⟩ := Option.bind_eq_some_iff.mp (show ((ds.mapM fun d => match d with | PyData.int k => some k | _ => none).bind fun r => some (k :: r)) = some ks from h)
      cases h2
      rw [ints_of h1]
      rfl
    | _ => cases h
theorem dq_ints : ∀ {vs : List V} {ks : List Int}, DqAll K F vs (ks.map PyData.int) → vs = ks.map V.int
  | [], [], _ => rfl
  | _, _ :: _, h => by
    rw [List.map_cons] at h
    cases h with
    | cons h1 h2 =>
      cases h1
      rw [dq_ints h2]
      rfl
theorem nest_of {D : PyData} {k : NK} (h : nkOf D = some k) (q : Dq K F v D) : ∃ b, v = .ref b ∧ NestK K F k b := by
  unfold nkOf at h
  split at h
  · next ds l =>
    obtain ⟨ks, hk, rfl⟩ := Option.map_eq_some_iff.mp h
    have := ints_of hk
    subst this
    cases q with
    | @tup b xs _ t1 l1 =>
      cases l1 with
      | cons h1 l2 =>
        cases l2 with
        | cons h2 l3 =>
          cases l3
          cases h2
          cases h1 with
          | @tup c ys _ t2 l4 =>
            have := dq_ints l4
            subst this
            exact ⟨b, rfl, c, t1, t2⟩
  · cases h
theorem at_mem {xs : List (NK × Addr × Value)} {k : NK} : (atKey xs k).isSome = decide (k ∈ xs.map (·.1)) := by
  induction xs with
  | nil => rfl
  | cons x xs ih =>
    unfold atKey at ih ⊢
    rw [List.find?_cons]
    by_cases e : x.1 = k
    · simp [e]
    · rw [decide_eq_false e]
      dsimp only
      rw [ih]
      have : (k ∈ (x :: xs).map (·.1)) ↔ (k ∈ xs.map (·.1)) := by
        rw [List.map_cons, List.mem_cons]
        exact ⟨fun q => q.elim (fun q => absurd q.symm e) id, .inr⟩
      rw [decide_eq_decide.mpr this]
theorem stored_keys {xs : List (NK × Addr × Value)} {k : NK} {b : Addr} {u : Value} : (storedH xs k b u).map (·.1) = if k ∈ xs.map (·.1) then xs.map (·.1) else xs.map (·.1) ++ [k] := by
  unfold storedH
  rw [at_mem]
  by_cases h : k ∈ xs.map (·.1)
  · rw [if_pos h, if_pos (decide_eq_true h), List.map_map]
    refine List.map_congr_left fun x _ => ?_
    show (putAt k u x).1 = x.1
    unfold putAt
    split <;> rfl
  · rw [if_neg h, if_neg (by simpa using h), List.map_append]
    rfl
theorem stored_in {xs : List (NK × Addr × Value)} {k : NK} {b : Addr} {u : Value} (h : KeysIn K F xs) (hb : NestK K F k b) : KeysIn K F (storedH xs k b u) := by
  intro x m
  unfold storedH at m
  split at m
  · obtain ⟨y, my, e⟩ := List.mem_map.mp m
    subst e
    unfold putAt
    split <;> exact h y my
  · rcases List.mem_append.mp m with q | q
    · exact h x q
    · rw [List.mem_singleton.mp q]; exact hb
def zIn (j : Nat) (a : Addr) (dk : En → Option (S × En)) (E : En) (z : List NK) : Option (Bool × En) := match dk E with
  | some (.dat D, E1) => match nkOf D, E1[j]? with
    | some k, some (.own (.con (.ref b))) => if b = a then some (decide (k ∈ z), E1) else none
    | _, _ => none
  | _ => none
theorem at_con {j : Nat} (hj : j < n) {σ : L2.St} (L : σ.length = n) (R : Rep K F H (σ ++ as) E fp) (e : E[j]? = some (.own (.con v))) : σ[j]? = some (some v) := by
  obtain ⟨u, h1⟩ := R.core.set j _ e
  have g : eget E [j] = some (.con v) := by simp only [eget, e, S.get_nil]
  obtain ⟨x, g1, g2, e1, o, c, _⟩ := R.core.take g
  have eu : x = u := by simp only [followE, h1, follow_nil] at e1; exact (Option.some.inj e1).symm
  subst eu
  have := (o.con_inv rfl).1
  subst this
  rwa [List.getElem?_append_left (by omega)] at h1
theorem z_in {j : Nat} {dk : En → Option (S × En)} (hj : j < n) (hk : EvE K n as te dk) : EvTZ P w K n as a (tB (tNIn P w K te (tVar j))) (zIn j a dk) := by
  intro F H σ E fp z L R i b E' e Q q
  unfold zIn at e
  split at e
  · next D E1 ed =>
    split at e
    · next k b0 ek ej =>
      split at e
      · next hb =>
        subst hb
        cases e
        refine hk L R ed fun v F1 H1 fr fp1 g1 R1 ow nd of => ?_
        have i1 := (i.grow g1).sub (fq := fp1) fun b m => List.mem_append_right _ m
        have hd := Own.dat_inv ow rfl
        obtain ⟨c, rfl, nk⟩ := nest_of ek hd.1
        obtain ⟨_, _, xs, e1, e2, e3⟩ := i1
        refine ⟨.ref b0, at_con hj L R1 ej, b0, xs, c, k, rfl, e2, e3.mono R1.sub, rfl, nk.mono R1.sub, ?_⟩
        refine ⟨_, rfl, ?_⟩
        rw [at_mem, e1]
        exact q F1 H1 fp1 (g1.less fun b m => List.mem_append_right _ m) R1
      · cases e
    · cases e
  · cases e
def zPutKey (k : NK) (z : List NK) : List NK := if k ∈ z then z else z ++ [k]
def zPut (j : Nat) (a : Addr) (dk : En → Option (S × En)) (E : En) (z : List NK) : Option (Out × List NK) := match dk E with
  | some (.dat D, E1) => match nkOf D, E[j]? with
    | some k, some (.own (.con (.ref b))) => if b = a ∧ z.length < 10000000 then some (.nx E1, zPutKey k z) else none
    | _, _ => none
  | _ => none
theorem z_put {j : Nat} {dk : En → Option (S × En)} {c0 : V} (hj : j < n) (hk : EvE K n as te dk) : EvZ P w K n as a (tNPut P w K (tVar j) te (tC c0)) (zPut j a dk) := by
  intro F H σ E fp z L R i o z' e D g
  unfold zPut at e
  split at e
  · next DD E1 ed =>
    split at e
    · next k b0 ek ej =>
      split at e
      · next hb =>
        obtain ⟨hb, hz⟩ := hb
        subst hb
        cases e
        have fin : ∀ F1 H1 fr fp1 c, Grow F H fp F1 H1 (fr ++ fp1) → Rep K F1 H1 (σ ++ as) E1 fp1 → NestK K F1 k c →
            ∃ a xs b k', V.ref b0 = .ref a ∧ H1 a = some (DN P w a xs) ∧ KeysIn K H1 xs ∧ V.ref c = .ref b ∧ NestK K H1 k' b ∧ xs.length < sizeLine ∧ ∀ u, D.nx σ (upd H1 a (DN P w a (storedH xs k' b u))) := by
          intro F1 H1 fr fp1 c g1 R1 nk
          have i1 := (i.grow g1).sub (fq := fp1) fun b m => List.mem_append_right _ m
          obtain ⟨i2, i3, xs, e1, e2, e3⟩ := i1
          have hl : xs.length = z.length := by rw [← e1, List.length_map]
          refine ⟨b0, xs, c, k, rfl, e2, e3.mono R1.sub, rfl, nk.mono R1.sub, by rw [hl, sizeLine_eq]; omega, fun u => ?_⟩
          have sub : ∀ b o, F1 b = some o → upd H1 b0 (DN P w b0 (storedH xs k c u)) b = some o := fun b o h => by
            rw [upd_ne (fun q => by rw [q, i3] at h; cases h)]
            exact R1.sub b o h
          have g2 : Grow F1 H1 (b0 :: fp1) F1 (upd H1 b0 (DN P w b0 (storedH xs k c u))) (b0 :: fp1) :=
            ⟨fun _ _ h => h, sub, fun b o h m => by rw [upd_ne (fun q => m (by rw [q]; exact List.mem_cons_self))]; exact h, fun b m => .inl m, fun _ _ _ h => h⟩
          have R2 : Rep K F1 (upd H1 b0 (DN P w b0 (storedH xs k c u))) (σ ++ as) E1 fp1 := R1.grow2 (fq := [b0]) (fr := [b0])
            ⟨fun _ _ h => h, sub, fun b o h m => by rw [upd_ne (fun q => m (by rw [q]; exact List.mem_cons_self))]; exact h, fun b m => .inl m, fun _ _ _ h => h⟩ fun b m q => i2 (by rw [← List.mem_singleton.mp q]; exact m)
          refine g σ F1 _ fp1 L (((g1.less fun b m => List.mem_append_right _ m).withA b0).trans g2) R2 ⟨i2, i3, _, ?_, upd_same, stored_in e3 nk⟩
          rw [stored_keys, e1]
          rfl
        refine ⟨.ref b0, at_con hj L R ej, hk L R ed fun v F1 H1 fr fp1 g1 R1 ow nd of => ?_⟩
        have hd := Own.dat_inv ow rfl
        obtain ⟨c, rfl, nk⟩ := nest_of ek hd.1
        exact fin F1 H1 fr fp1 c g1 R1 nk
      · cases e
    · cases e
  · cases e
def zLoop (bd : Rs → En → Option En) (db : En → List NK → Option (Out × List NK)) : Nat → Nat → En → List NK → Option (Out × List NK)
  | 0, _, E, z => some (.nx E, z)
  | m + 1, i, E, z => match bd (.val (.dat (.int (i : Nat)))) E with
    | none => none
    | some E1 => match db E1 z with
      | some (.nx E2, z2) => zLoop bd db m (i + 1) E2 z2
      | some (.rt s E2, z2) => some (.rt s E2, z2)
      | _ => none
def zFor (d : En → Option Rs) (bd : Rs → En → Option En) (db : En → List NK → Option (Out × List NK)) (E : En) (z : List NK) : Option (Out × List NK) := match d E with
  | some (.val (.dat (.int j))) => if j < 2 ^ 62 ∧ -(2 ^ 62) ≤ j then zLoop bd db j.toNat 0 E z else none
  | _ => none
theorem z_for {g : TG} {tb : TS} {bd : Rs → En → Option En} {db : En → List NK → Option (Out × List NK)} (h : EvP K n as te d) (hg : EvG K n g bd) (hb : EvZ P w K n as a tb db) :
    EvZ P w K n as a (tFor (iRng1 (tCons te tNil)) g tb) (zFor d bd db) := by
  intro F H σ E fp z L R iz o z' e D gg
  unfold zFor at e
  split at e
  · next j ed =>
    split at e
    · next hj =>
      refine h L R ed fun v F1 H1 f1 g1 a1 n1 o1 => ?_
      cases (Own.dat_inv (show Own K F1 H1 v _ f1 from a1) rfl).1
      refine ⟨j, rfl, hj.2, hj.1, ?_⟩
      refine ⟨fun i m σ2 H2 => i + m = j.toNat ∧ ∃ F2 E2 fp2 z2, σ2.length = n ∧ Grow F H (a :: fp) F2 H2 (a :: fp2) ∧ Rep K F2 H2 (σ2 ++ as) E2 fp2 ∧ IZ P w K F2 H2 fp2 a z2 ∧ zLoop bd db m i E2 z2 = some (o, z'),
        ⟨j.toNat, by omega, F1, E, fp, z, L, g1.mine.withA a, R.grow g1, iz.grow g1.mine, e⟩, fun i m σ2 H2 hW => ?_⟩
      obtain ⟨hm, F2, E2, fp2, z2, L2, g2, R2, i2, h2⟩ := hW
      cases m with
      | zero =>
        unfold zLoop at h2
        cases h2
        exact .inl ⟨show j.toNat ≤ i by omega, gg σ2 F2 H2 fp2 L2 g2 R2 i2⟩
      | succ m =>
        unfold zLoop at h2
        refine .inr ⟨show i < j.toNat by omega, fun σ' H' => i + 1 + m = j.toNat ∧ ∃ F2 E2 fp2 z2, σ'.length = n ∧ Grow F H (a :: fp) F2 H' (a :: fp2) ∧ Rep K F2 H' (σ' ++ as) E2 fp2 ∧ IZ P w K F2 H' fp2 a z2 ∧ zLoop bd db m (i + 1) E2 z2 = some (o, z'),
          fun σ' H' hN => ⟨m, Nat.lt_succ_self m, hN⟩, fun x H' hy => ?_⟩
        obtain ⟨rfl, rfl⟩ := hy
        split at h2
        · cases h2
        · next E3 e3 =>
          have ex : (0 : Int) + (i : Int) = ((i : Nat) : Int) := by omega
          rw [ex]
          refine hg L2 R2 (show RsAt K F2 _ (σ2 ++ as) E2 (.int ((i : Nat) : Int)) (.val (.dat (.int ((i : Nat) : Int)))) [] from .dat (.int _)) e3 fun σ3 F3 H3 fp3 L3 g3 R3 => ?_
          have g23 := g2.trans (g3.withA a)
          have i3 := i2.grow g3
          split at h2
          · next E4 z4 e4 => exact hb L3 R3 i3 e4 fun σ' F' H' fp' L' g' R' i' => ⟨by omega, F', E4, fp', z4, L', g23.trans g', R', i', h2⟩
          · next s4 E4 z4 e4 =>
            cases h2
            exact hb L3 R3 i3 e4 fun v σ' F' H' fr fp' L' g' R' ow nd of i' => gg v σ' F' H' fr fp' L' (g23.trans g') R' ow nd of i'
          · cases h2
    · cases e
  · cases e
def spZ (P : Program) (w : World) (K : PySem.W.Frag) (g : Addr → PyData → PyData → List NK → Option (S × List NK)) : Sp := fun vs H Q _ => vs.length = 3 ∧ ∃ F v1 v2 a d1 d2 z s z', vs = [v1, v2, .ref a] ∧ (∀ b o, F b = some o → H b = some o) ∧ Dq K F v1 d1 ∧ Dq K F v2 d2 ∧
  IZ P w K F H [] a z ∧ g a d1 d2 z = some (s, z') ∧ ∀ v F' H' fr, Grow F H [a] F' H' (a :: fr) → IZ P w K F' H' fr a z' → Own K F' H' v s fr → fr.Nodup → (∀ b ∈ fr, F' b = none) → Q v H'
def zCall (i j : Nat) (a : Addr) (g : Addr → PyData → PyData → List NK → Option (S × List NK)) (d1 : En → Option Rs) (d2 : En → Option (S × En)) (E : En) (z : List NK) : Option (Out × List NK) := match d1 E with
  | some (.val (.dat a1)) => match d2 E with
    | some (.dat a2, E1) => match E1[j]? with
      | some (.own (.con (.ref b))) => if b = a then match g a a1 a2 z with
          | some (s, z') => some (.nx (slotSet E1 i (.own s)), z')
          | none => none
        else none
      | _ => none
    | _ => none
  | _ => none
theorem z_call {i j : Nat} {g : Addr → PyData → PyData → List NK → Option (S × List NK)} {d1 : En → Option Rs} {d2 : En → Option (S × En)} {EX : XK} (hi : i < n) (hj : j < n) (h1 : EvP K n as ta d1) (h2 : EvE K n as tb d2) :
    EvZ P w K n as a (tAsg (tCall (spZ P w K g) [] EX (tCons ta (tCons tb (tCons (tVar j) tNil)))) (gName i)) (zCall i j a g d1 d2) := by
  intro F H σ E fp z L R iz o z' e D gg
  unfold zCall at e
  split at e
  · next a1 e1 =>
    split at e
    · next a2 E1 e2 =>
      split at e
      · next b0 ej =>
        split at e
        · next hb =>
          subst hb
          split at e
          · next s z2 eg =>
            cases e
            refine h1 L R e1 fun v1 F1 H1 fr1 g1 r1 n1 o1 => h2 L (R.grow g1) e2 fun v2 F2 H2 fr fp2 g2 R2 ow nd of => ?_
            have q1 := Own.dat_inv (show Own K F1 H1 v1 (.dat a1) fr1 from r1) rfl
            have q2 := Own.dat_inv ow rfl
            obtain ⟨q2, rfl⟩ := q2
            have g12 : Grow F H fp F2 H2 fp2 := (g1.mine.trans g2).less fun b m => by simpa using m
            have i2 := iz.grow g12
            refine ⟨.ref b0, at_con hj L R2 ej, rfl, F2, v1, v2, b0, a1, a2, z, s, z', rfl, R2.sub, Dq.mono g2.f q1.1, q2, i2.sub (fun _ m => nomatch m), eg, fun v F3 H3 fr3 g3 i3 ow3 nd3 of3 => ?_⟩
            have dj : ∀ b ∈ fp2, b ∉ [b0] := fun b m q => i2.1 (by rw [← List.mem_singleton.mp q]; exact m)
            have R3 : Rep K F3 H3 (σ ++ as) E1 fp2 := R2.grow2 g3 dj
            have hl : i < (σ ++ as).length := by rw [List.length_append]; omega
            have new3 : ∀ b ∈ fr3, b ∉ fp2 := fun b m m2 => by
              rcases g3.new b (List.mem_cons_of_mem _ m) with q | q
              · exact i3.1 (by rw [← List.mem_singleton.mp q]; exact m)
              · obtain ⟨o, eo⟩ := R2.there b m2
                rw [eo] at q; cases q
            have nd4 : (fr3 ++ fp2).Nodup := List.nodup_append.mpr ⟨nd3, R3.nd, fun b m c m2 q => by subst q; exact new3 b m m2⟩
            obtain ⟨fq, R4, sb⟩ := R3.setSlot (e := .own s) hl ow3 nd4 of3
            have g4 : Grow F2 H2 (b0 :: fp2) F3 H3 (b0 :: fq) := g3.wide (fun b m => by rw [List.mem_singleton.mp m]; exact List.mem_cons_self) fun b m => by
              rcases List.mem_cons.mp m with q | q
              · exact .inl (by rw [q]; exact List.mem_cons_self)
              · rcases List.mem_append.mp (sb b q) with q | q
                · rcases g3.new b (List.mem_cons_of_mem _ q) with y | y
                  · exact .inl (by rw [List.mem_singleton.mp y]; exact List.mem_cons_self)
                  · exact .inr y
                · exact .inl (List.mem_cons_of_mem _ q)
            have ia : b0 ∉ fr3 ++ fp2 := fun m => (List.mem_append.mp m).elim i3.1 i2.1
            exact gg (σ.set i (some v)) F3 H3 fq (by rw [List.length_set]; exact L) ((g12.withA b0).trans g4) (by rw [set_app (by omega)]; exact R4) ⟨fun m => ia (sb b0 m), i3.2⟩
          · cases e
        · cases e
      · cases e
    · cases e
  · cases e
def fnZ (n : Nat) (f : Addr → En → List NK → Option (Out × List NK)) (a : Addr) (d1 d2 : PyData) (z : List NK) : Option (S × List NK) := match f a (entry n [.dat d1, .dat d2, .con (.ref a)]) z with
  | some (.rt s _, z') => some (s, z')
  | _ => none
section
variable {mg : Str → Option Value} {base : Heap}
theorem fn_z {x qual : Str} {st : Stmt} {f : Addr} {fd : FuncData} {N ps : List Str} {k : Nat} {dd : Addr → En → List NK → Option (Out × List NK)} (Fn : Fun K x qual st f fd) (Sc : FnScope N ps (defScope st)) (h3 : ps.length = 3)
    (body : ∀ (cdv : Value) (A : Around) (outer : List Env) (s : Shared) (H : Hp) (E : XK) (as : Ro), Room k (A.deeper (envOfC qual (defScope st) s.heap.objs.size f cdv)) →
      ∃ t, PSs (cxOf CX0 P w K mg base N qual (defScope st) f cdv A outer s H E).nox (defBody st) t ∧ ∀ a, EvZ P w K N.length as a t (dd a)) :
    FnOk P w K mg base CX0 (k + 1) f fd ps (spZ P w K (fnZ N.length dd)) := by
  have hps : ps.length ≤ N.length := by have := congrArg List.length Sc.pre; rw [List.length_take] at this; omega
  refine Fn.ok Sc (fun vs H Q E h => h.1.trans h3.symm) (fun cdv A outer s H vs Q E hr h => ?_)
  obtain ⟨hl, F, v1, v2, a, d1, d2, z, r, z', rfl, sub, q1, q2, iz, hg, q⟩ := h
  obtain ⟨t, e1, e2⟩ := body cdv A outer s H E ([v1, v2, .ref a].map some) hr
  refine ⟨t, e1, ?_⟩
  have l : OwnL K F H [v1, v2, .ref a] [.dat d1, .dat d2, .con (.ref a)] [] := OwnL.cons (fp := []) (fq := []) (.dat q1) (OwnL.cons (fp := []) (fq := []) (.dat q2) (OwnL.cons (fp := []) (fq := []) .con .nil))
  have R := Rep.entry (N := N) sub l List.nodup_nil (fun _ m => nomatch m) (by show 3 ≤ N.length; omega)
  have L : (start N [v1, v2, .ref a]).length = N.length := by
    rw [start_eq, List.length_append, List.length_map, List.length_replicate]
    show 3 + (N.length - 3) = N.length
    omega
  unfold fnZ at hg
  split at hg
  · next s2 E2 z2 hd =>
    cases hg
    refine e2 a L R iz hd fun v σ' F' H' fr fp' L' g R' ow nd of i' => ?_
    exact q v F' H' fr (g.less fun b m => by
      rcases List.mem_cons.mp m with y | y
      · rw [y]; exact List.mem_cons_self
      · exact List.mem_cons_of_mem _ (List.mem_append_left _ y)) (i'.sub fun b m => List.mem_append_left _ m) ow (List.nodup_append.mp nd).1 of
  · cases hg
theorem fn_zNone {k : Nat} {f : Addr} {fd : FuncData} {ps : List Str} (h3 : ps.length = 3) : FnOk P w K mg base CX0 k f fd ps (spZ P w K (fun _ _ _ _ => none)) :=
  ⟨fun vs H Q E h => h.1.trans h3.symm, fun A outer s H args us vs Q E hr he hb hv h => by
    obtain ⟨_, F, v1, v2, a, d1, d2, z, r, z', rfl, sub, q1, q2, iz, hg, q⟩ := h
    cases hg⟩
end
def eFirst (G : PyData → Option S) (d1 : En → Option Rs) (E : En) : Option (S × En) := match d1 E with
  | some (.val (.dat D)) => (G D).map fun s => (s, E)
  | _ => none
theorem e_first {g : Addr → PyData → PyData → List NK → Option (S × List NK)} {G : PyData → Option S} {EX : XK} (hG : ∀ a D s, G D = some s → ∃ z', g a D (.list []) [] = some (s, z')) (h1 : EvP K n as ta da) :
    EvE K n as (tCall (spZ P w K g) [] EX (tCons ta (tCons (tLst tNil) (tCons (tNNew P w) tNil)))) (eFirst G da) := by
  intro F H σ E fp L R s E' e Q q
  unfold eFirst at e
  split at e
  · next D e1 =>
    obtain ⟨s1, hs, e⟩ := Option.map_eq_some_iff.mp e
    cases e
    refine h1 L R e1 fun v1 F1 H1 fr1 g1 r1 n1 o1 => ?_
    have q1 := Own.dat_inv (show Own K F1 H1 v1 (.dat D) fr1 from r1) rfl
    have R1 := R.grow g1
    refine ⟨Nat.zero_le _, fun p hp => fun d hd => ?_⟩
    have gA : Grow F1 H1 [] (upd F1 p (.lst [])) (upd H1 p (.lst [])) [] := Grow.share R1.sub hp
    have gB : Grow (upd F1 p (.lst [])) (upd H1 p (.lst [])) [] (upd F1 p (.lst [])) (upd (upd H1 p (.lst [])) d (DN P w d [])) [d] := Grow.alloc gA.sub hd
    have gAB := gA.trans gB
    have dp : d ≠ p := fun y => by rw [y, upd_same] at hd; cases hd
    have fd : (upd F1 p (.lst [])) d = none := by
      cases y : (upd F1 p (.lst [])) d with
      | none => rfl
      | some o => rw [gA.sub d o y] at hd; cases hd
    obtain ⟨z', eg⟩ := hG d D s hs
    refine ⟨rfl, _, v1, .ref p, d, D, .list [], [], s, z', rfl, gB.sub, Dq.mono gA.f q1.1, .lst (.inl (.inl upd_same)) .nil, (show IZ P w K _ _ [] d [] from ⟨(fun m => nomatch m), fd, [], rfl, upd_same, fun x m => nomatch m⟩), eg, fun v F' H' fr g3 i3 ow nd of => ?_⟩
    have g13 : Grow F1 H1 [] F' H' fr := (gAB.trans g3).less fun b m => List.mem_cons_of_mem _ m
    exact q v F' H' fr fp (g1.mine.trans (g13.ours fp)) (R1.grow g13) ow (R1.apart_new g13 nd) of
  · cases e
def eAt (i : Nat) (dc : En → Option (S × En)) (f : Int → En → Option (S × En)) (E : En) : Option (S × En) := match dVar i E, dc E with
  | some _, some (.dat (.int k), E1) => f k E1
  | _, _ => none
theorem e_bmAt {i : Nat} {r : V → List V → Hp → VK → Prop} {tr : TA} {dd : Int → En → Option (S × En)} (hi : i < n) (hc : EvE K n as tc de) (hd : ∀ k, EvE K n as (tBM K "list" r (tOp (rIxL K) (tVar i) (tC (.int k))) tr) (dd k)) :
    EvE K n as (tBM K "list" r (tOp (rIxL K) (tVar i) tc) tr) (eAt i de dd) := by
  intro F H σ E fp L R s0 E0 e Q q
  unfold eAt at e
  split at e
  · next r0 k E1 ev ec =>
    obtain ⟨v, hv, _⟩ := p_var (K := K) (as := as) hi L R ev (Q := fun _ _ => True) fun _ _ _ _ _ _ _ _ => trivial
    refine ⟨v, hv, hc L R ec fun y F1 H1 fr fp1 g1 R1 ow nd of => ?_⟩
    cases (Own.dat_inv ow rfl).1
    obtain ⟨v', hv', h⟩ := hd k L R1 e fun v2 F2 H2 fr2 fp2 g2 R2 ow2 nd2 of2 => q v2 F2 H2 fr2 fp2 ((g1.less fun b m => List.mem_append_right _ m).trans g2) R2 ow2 nd2 of2
    rw [hv] at hv'
    cases hv'
    exact h
  · cases e
end Mv
namespace K17
open PySem PySem.Spec PyProof.Rows L2 Mv
def topS (i : Nat) : Stmt := PySem.Challenge.pw_drainhouse_k17_in_one.main.body.getD i (.Pass ⟨0, 0, 0, 0⟩)
abbrev s_with_more : Stmt := topS 2
theorem sc_with_more : FnScope ["worth", "more"] ["worth", "more"] (defScope s_with_more) := ⟨rfl, rfl, rfl, by decide +kernel, rfl, by decide +kernel, by decide +kernel⟩
abbrev s_in_one : Stmt := topS 7
theorem sc_in_one : FnScope ["rows", "tally", "begun", "row", "make", "place", "deed", "deeds"] ["rows"] (defScope s_in_one) := ⟨rfl, rfl, rfl, by decide +kernel, rfl, by decide +kernel, by decide +kernel⟩
abbrev s_next_place : Stmt := topS 8
theorem sc_next_place : FnScope ["rows", "begun", "tally", "make", "place", "deeds", "deed"] ["rows", "begun", "tally", "make"] (defScope s_next_place) := ⟨rfl, rfl, rfl, by decide +kernel, rfl, by decide +kernel, by decide +kernel⟩
abbrev s__law_begun : Stmt := topS 10
theorem sc__law_begun : FnScope ["_law_script", "_law_stirred", "_law_cell"] ["_law_script"] (defScope s__law_begun) := ⟨rfl, rfl, rfl, by decide +kernel, rfl, by decide +kernel, by decide +kernel⟩
abbrev s__law_take : Stmt := topS 11
theorem sc__law_take : FnScope ["_law_box", "_law_many", "_law_number"] ["_law_box", "_law_many"] (defScope s__law_take) := ⟨rfl, rfl, rfl, by decide +kernel, rfl, by decide +kernel, by decide +kernel⟩
abbrev s__law_alike : Stmt := topS 12
theorem sc__law_alike : FnScope ["_law_found", "_law_due", "_law_k"] ["_law_found", "_law_due"] (defScope s__law_alike) := ⟨rfl, rfl, rfl, by decide +kernel, rfl, by decide +kernel, by decide +kernel⟩
abbrev s__law_parted : Stmt := topS 13
theorem sc__law_parted : FnScope ["_law_box", "_law_many", "_law_rows", "_law_slots", "_law_numbers", "_law_make", "_law_turn", "_law_slot", "_law_asker", "_law_more", "_law_count", "_law_worth", "_law_deed", "_law_k"] ["_law_box", "_law_many"] (defScope s__law_parted) := ⟨rfl, rfl, rfl, by decide +kernel, rfl, by decide +kernel, by decide +kernel⟩
abbrev s__law_bent : Stmt := topS 14
theorem sc__law_bent : FnScope ["_law_box", "_law_mine", "_law_way", "_law_at", "_law_worth"] ["_law_box", "_law_mine", "_law_way"] (defScope s__law_bent) := ⟨rfl, rfl, rfl, by decide +kernel, rfl, by decide +kernel, by decide +kernel⟩
abbrev s__law_lets : Stmt := topS 15
theorem sc__law_lets : FnScope ["_law_ahead", "_law_deed", "_law_slot", "_law_count", "_law_asker", "_law_number", "_law_more", "_law_worth", "_law_make", "_law_mine", "_law_place", "_law_one"] ["_law_ahead", "_law_deed"] (defScope s__law_lets) := ⟨rfl, rfl, rfl, by decide +kernel, rfl, by decide +kernel, by decide +kernel⟩
abbrev s__law_first : Stmt := topS 16
theorem sc__law_first : FnScope ["_law_rows", "_law_ahead", "_law_known", "_law_places", "_law_last", "_law_k", "_law_found", "_law_place", "_law_one", "_law_row"] ["_law_rows", "_law_ahead", "_law_known"] (defScope s__law_first) := ⟨rfl, rfl, rfl, by decide +kernel, rfl, by decide +kernel, by decide +kernel⟩
abbrev s_law : Stmt := topS 17
theorem sc_law : FnScope ["_law_script", "_law_box", "_law_turn", "_law_rows", "_law_due", "_law_handed", "_law_again", "_law_found", "_law_row"] ["_law_script"] (defScope s_law) := ⟨rfl, rfl, rfl, by decide +kernel, rfl, by decide +kernel, by decide +kernel⟩
abbrev s_Tally___init__ : Stmt := inClass (topS 5) 0
theorem sc_Tally___init__ : FnScope ["self"] ["self"] (defScope s_Tally___init__) := ⟨rfl, rfl, rfl, by decide +kernel, rfl, by decide +kernel, by decide +kernel⟩
abbrev s_Tally_lets : Stmt := inClass (topS 5) 1
theorem sc_Tally_lets : FnScope ["self", "deed", "slot", "count", "asker", "number", "more", "worth", "make", "ahead", "many"] ["self", "deed"] (defScope s_Tally_lets) := ⟨rfl, rfl, rfl, by decide +kernel, rfl, by decide +kernel, by decide +kernel⟩
abbrev s_Tally_note : Stmt := inClass (topS 5) 2
theorem sc_Tally_note : FnScope ["self", "deed", "slot", "count", "asker", "number", "more", "worth", "make"] ["self", "deed"] (defScope s_Tally_note) := ⟨rfl, rfl, rfl, by decide +kernel, rfl, by decide +kernel, by decide +kernel⟩
structure Txt (K : PySem.W.Frag) (mg : Str → Option Value) where
  n_bool : mg "bool" = none
  n_enumerate : mg "enumerate" = none
  n_int : mg "int" = none
  n_isinstance : mg "isinstance" = none
  n_len : mg "len" = none
  n_list : mg "list" = none
  n_range : mg "range" = none
  n_sorted : mg "sorted" = none
  n_str : mg "str" = none
  n_tuple : mg "tuple" = none
  t_WORTHS : Tok
  c_WORTHS : mg "WORTHS" = some (.int (1000) t_WORTHS)
  a_NEW_SLOT : Addr
  c_NEW_SLOT : mg "NEW_SLOT" = some (.ref a_NEW_SLOT)
  q_NEW_SLOT : ∀ F, Dq K F (.ref a_NEW_SLOT) (.tuple [.int 0, .int 0])
  C_Tally : Addr
  k_Tally : clsOf K 4 C_Tally
  cl_Tally : Cls K C_Tally
  na_Tally_grown : NoAttr K C_Tally "grown"
  na_Tally_numbers : NoAttr K C_Tally "numbers"
  na_Tally_make : NoAttr K C_Tally "make"
  a_with_more : Addr
  d_with_more : FuncData
  F_with_more : Fun K "with_more" "with_more" s_with_more a_with_more d_with_more
  b_with_more : Binds K d_with_more ["worth", "more"] []
  m_with_more : mg "with_more" = some (.ref a_with_more)
  a_in_one : Addr
  d_in_one : FuncData
  F_in_one : Fun K "in_one" "in_one" s_in_one a_in_one d_in_one
  b_in_one : Binds K d_in_one ["rows"] []
  m_in_one : mg "in_one" = some (.ref a_in_one)
  a_next_place : Addr
  d_next_place : FuncData
  F_next_place : Fun K "next_place" "next_place" s_next_place a_next_place d_next_place
  b_next_place : Binds K d_next_place ["rows", "begun", "tally", "make"] []
  m_next_place : mg "next_place" = some (.ref a_next_place)
  a__law_begun : Addr
  d__law_begun : FuncData
  F__law_begun : Fun K "_law_begun" "_law_begun" s__law_begun a__law_begun d__law_begun
  b__law_begun : Binds K d__law_begun ["_law_script"] []
  m__law_begun : mg "_law_begun" = some (.ref a__law_begun)
  a__law_take : Addr
  d__law_take : FuncData
  F__law_take : Fun K "_law_take" "_law_take" s__law_take a__law_take d__law_take
  b__law_take : Binds K d__law_take ["_law_box", "_law_many"] []
  m__law_take : mg "_law_take" = some (.ref a__law_take)
  a__law_alike : Addr
  d__law_alike : FuncData
  F__law_alike : Fun K "_law_alike" "_law_alike" s__law_alike a__law_alike d__law_alike
  b__law_alike : Binds K d__law_alike ["_law_found", "_law_due"] []
  m__law_alike : mg "_law_alike" = some (.ref a__law_alike)
  a__law_parted : Addr
  d__law_parted : FuncData
  F__law_parted : Fun K "_law_parted" "_law_parted" s__law_parted a__law_parted d__law_parted
  b__law_parted : Binds K d__law_parted ["_law_box", "_law_many"] []
  m__law_parted : mg "_law_parted" = some (.ref a__law_parted)
  a__law_bent : Addr
  d__law_bent : FuncData
  F__law_bent : Fun K "_law_bent" "_law_bent" s__law_bent a__law_bent d__law_bent
  b__law_bent : Binds K d__law_bent ["_law_box", "_law_mine", "_law_way"] []
  m__law_bent : mg "_law_bent" = some (.ref a__law_bent)
  a__law_lets : Addr
  d__law_lets : FuncData
  F__law_lets : Fun K "_law_lets" "_law_lets" s__law_lets a__law_lets d__law_lets
  b__law_lets : Binds K d__law_lets ["_law_ahead", "_law_deed"] []
  m__law_lets : mg "_law_lets" = some (.ref a__law_lets)
  a__law_first : Addr
  d__law_first : FuncData
  F__law_first : Fun K "_law_first" "_law_first" s__law_first a__law_first d__law_first
  b__law_first : Binds K d__law_first ["_law_rows", "_law_ahead", "_law_known"] []
  m__law_first : mg "_law_first" = some (.ref a__law_first)
  a_law : Addr
  d_law : FuncData
  F_law : Fun K "law" "law" s_law a_law d_law
  b_law : Binds K d_law ["_law_script"] []
  m_law : mg "law" = some (.ref a_law)
  a_Tally___init__ : Addr
  d_Tally___init__ : FuncData
  F_Tally___init__ : Fun K "__init__" "Tally.__init__" s_Tally___init__ a_Tally___init__ d_Tally___init__
  b_Tally___init__ : Binds K d_Tally___init__ ["self"] []
  M_Tally : Mk K C_Tally a_Tally___init__
  g_Tally : mg "Tally" = some (.ref C_Tally)
  a_Tally_lets : Addr
  d_Tally_lets : FuncData
  F_Tally_lets : Fun K "lets" "Tally.lets" s_Tally_lets a_Tally_lets d_Tally_lets
  b_Tally_lets : Binds K d_Tally_lets ["self", "deed"] []
  mt_Tally_lets : Meth K C_Tally "lets" a_Tally_lets
  a_Tally_note : Addr
  d_Tally_note : FuncData
  F_Tally_note : Fun K "note" "Tally.note" s_Tally_note a_Tally_note d_Tally_note
  b_Tally_note : Binds K d_Tally_note ["self", "deed"] []
  mt_Tally_note : Meth K C_Tally "note" a_Tally_note
end K17
namespace K17
open PySem PySem.Spec PyProof.Rows L2 Mv NX
def d_with_more : En → Option Out := (dRet (ePure (dOp fMod (dOp fAdd (dVar 0) (dVar 1)) (dC (.int 1000)))))
def g_with_more : List S → Option (S × List S) := fnG 2 d_with_more
def d_Tally___init__ : En → Option Out := (dSeq (dFPut 4 0 (dVar 0) (ePure dNewD))
    (dSeq (dFPut 4 1 (dVar 0) (ePure dNewD))
    (dFPut 4 2 (dVar 0) (ePure (dC (.int 0))))))
def g_Tally___init__ : List S → Option (S × List S) := fnG 1 d_Tally___init__
def d_Tally_note : En → Option Out := (dSeq (dAsg (bTup 7 (bCons (bName 2) (bCons (bName 3) (bCons (bName 4) (bCons (bName 5) (bCons (bName 6) (bCons (bName 7) (bCons (bName 8) bNil)))))))) (ePure (dVar 1)))
    (dSeq (dDPut (dFld 4 0 (dVar 0)) (dVar 2) (ePure (dTupL (dCons (dVar 7) (dCons (dVar 3) dNil)))))
    (dSeq (dDPut (dFld 4 1 (dVar 0)) (dVar 4) (ePure (dVar 5)))
    (dFPut 4 2 (dVar 0) (ePure (dVar 8))))))
def g_Tally_note : List S → Option (S × List S) := fnG 9 d_Tally_note
def d_Tally_lets : En → Option Out := (dSeq (dAsg (bTup 7 (bCons (bName 2) (bCons (bName 3) (bCons (bName 4) (bCons (bName 5) (bCons (bName 6) (bCons (bName 7) (bCons (bName 8) bNil)))))))) (ePure (dVar 1)))
    (dSeq (dAsg (bTup 2 (bCons (bName 9) (bCons (bName 10) bNil))) (ePure (dDGet2 (dFld 4 0 (dVar 0)) (dVar 2) (dC (.tuple [.int 0, .int 0])))))
    (dSeq (dIf (eOr (ePureT (dTest (dOp fNeS (dVar 3) (dOp fAdd (dVar 10) (dC (.int 1)))))) (eTest (eOp fNeS (ePure (dVar 7)) (eCall g_with_more (dCons (dVar 9) (dCons (dVar 6) dNil)))))) (dRet (ePure (dC (.bool false)))) dNext)
    (dRet (ePure (dAndV (dOp fEqS (dVar 5) (dOp fAdd (dDGet2 (dFld 4 1 (dVar 0)) (dVar 4) (dC (.int 0))) (dC (.int 1)))) (dOp fGe (dVar 8) (dFld 4 2 (dVar 0)))))))))
def g_Tally_lets : List S → Option (S × List S) := fnG 11 d_Tally_lets
def d_next_place : En → Option Out := (dSeq (dFor (iEnumS (dVar 0)) (bTup 2 (bCons (bName 4) (bCons (bName 5) bNil))) (dIf (ePureT (dTest (dOp fLt (dIxL (dVar 1) (dVar 4)) (dLen (dVar 5))))) (dSeq (dAlias 6 (dIxL (dVar 5) (dIxL (dVar 1) (dVar 4))))
    (dIf (eAnd (ePureT (dTest (dOp fEqS (dIxT (dVar 6) (dNeg (dC (.int 1)))) (dVar 3)))) (eTest (eCall g_Tally_lets (dCons (dIns 4 (dVar 2)) (dCons (dVar 6) dNil))))) (dRet (eMove 4)) dNext)) dNext))
    (dRet (ePure (dC .none))))
def g_next_place : List S → Option (S × List S) := fnG 7 d_next_place
def d_in_one : En → Option Out := (dSeq (dSet 1 (eEff lNil fun k => dWhen (k + 1) 1 (eMk 4 k g_Tally___init__)))
    (dSeq (dAlias 2 (dOpS fRep (dLst (dCons (dC (.int 0)) dNil)) (dLen (dVar 0))))
    (dSeq (dAlias 3 (dLst dNil))
    (dSeq (dFor (iLstE (eCS fSorted (eLc2 (dVar 0) 7 6 (dIxT (dVar 6) (dNeg (dC (.int 1))))))) (bName 4) (dSeq (dSet 5 (eCall g_next_place (dCons (dVar 0) (dCons (dVar 2) (dCons (dVar 1) (dCons (dVar 4) dNil))))))
    (dSeq (dIf (ePureT (dTest (dOp fIsN (dVar 5) (dC .none)))) (dRet (ePure (dC .none))) dNext)
    (dSeq (dAlias 6 (dIxL (dIxL (dVar 0) (dVar 5)) (dIxL (dVar 2) (dVar 5))))
    (dSeq (dLAug (dVar 2) (dVar 5) fAdd (dC (.int 1)))
    (dSeq (dDrop (eCall g_Tally_note (dCons (dIns 4 (dVar 1)) (dCons (dVar 6) dNil))))
    (dDrop (eBM1 oAppend (dVar 3) (dTupL (dCons (dVar 5) (dCons (dVar 6) dNil)))))))))))
    (dRet (eMove 3))))))
def g_in_one : List S → Option (S × List S) := fnG 8 d_in_one
def d__law_begun : En → Option Out := (dSeq (dAlias 1 (dC (.int 0)))
    (dSeq (dFor (iLst (dVar 0)) (bName 2) (dAlias 1 (dOp fMod (dOp fAdd (dOp fAdd (dOp fMul (dVar 1) (dC (.int 48271))) (dOp fMul (dVar 2) (dC (.int 69621)))) (dC (.int 11))) (dC (.int 2147483647)))))
    (dRet (ePure (dLst (dCons (dCS fList (dCons (dVar 0) dNil)) (dCons (dOp fMul (dVar 1) (dCB fInt (dCons (dOp fGt (dLen (dVar 0)) (dC (.int 2))) dNil))) dNil)))))))
def g__law_begun : List S → Option (S × List S) := fnG 3 d__law_begun
def d__law_take : En → Option Out := (dSeq (dIf (ePureT (dTest (dOp fEqD (dIxL (dVar 0) (dC (.int 0))) (dLst dNil)))) (dSeq (dLSet (dVar 0) (dC (.int 1)) (ePure (dOp fMod (dOp fMul (dIxL (dVar 0) (dC (.int 1))) (dC (.int 48271))) (dC (.int 2147483647)))))
    (dRet (ePure (dOp fMod (dOp fDiv (dIxL (dVar 0) (dC (.int 1))) (dC (.int 7))) (dVar 1))))) dNext)
    (dSeq (dAlias 2 (dIxL (dIxL (dVar 0) (dC (.int 0))) (dC (.int 0))))
    (dSeq (dLSet (dIxL (dVar 0) (dC (.int 0))) (dC (.int 0)) (ePure (dOp fDiv (dVar 2) (dVar 1))))
    (dSeq (dIf (ePureT (dOr (dTest (dOp fEqS (dIxL (dIxL (dVar 0) (dC (.int 0))) (dC (.int 0))) (dC (.int 0)))) (dTest (dOp fEqS (dIxL (dIxL (dVar 0) (dC (.int 0))) (dC (.int 0))) (dNeg (dC (.int 1))))))) (dDrop (eBM1 oPopAt (dIxL (dVar 0) (dC (.int 0))) (dC (.int 0)))) dNext)
    (dRet (ePure (dOp fMod (dVar 2) (dVar 1))))))))
def g__law_take : List S → Option (S × List S) := fnG 3 d__law_take
def f__law_alike (g : List S → Option (S × List S)) : En → Option Out := (dSeq (dIf (ePureT (dTest (dOp fIsN (dVar 1) (dC .none)))) (dRet (ePure (dOp fIsN (dVar 0) (dC .none)))) dNext)
    (dSeq (dIf (ePureT (dTest (dIsi .bool (dVar 1)))) (dRet (ePure (dAndV (dIsi .bool (dVar 0)) (dOp fEqD (dVar 0) (dVar 1))))) dNext)
    (dSeq (dIf (ePureT (dTest (dIsi .int (dVar 1)))) (dRet (ePure (dAndV (dIsi .int (dVar 0)) (dAndV (dNotV (dIsi .bool (dVar 0))) (dOp fEqD (dVar 0) (dVar 1)))))) dNext)
    (dSeq (dIf (ePureT (dTest (dIsi .str (dVar 1)))) (dRet (ePure (dAndV (dIsi .str (dVar 0)) (dOp fEqD (dVar 0) (dVar 1))))) dNext)
    (dSeq (dIf (ePureT (dOr (dTest (dOp fNeS (dIsi .tuple (dVar 1)) (dIsi .tuple (dVar 0)))) (dTest (dOp fNeS (dIsi .list (dVar 1)) (dIsi .list (dVar 0)))))) (dRet (ePure (dC (.bool false)))) dNext)
    (dSeq (dIf (ePureT (dTest (dOp fNeS (dLen (dVar 0)) (dLen (dVar 1))))) (dRet (ePure (dC (.bool false)))) dNext)
    (dSeq (dFor (iRange (dLen (dVar 1))) (bName 2) (dIf (eNot (eTest (eCall g (dCons (dIxA (dVar 0) (dVar 2)) (dCons (dIxA (dVar 1) (dVar 2)) dNil))))) (dRet (ePure (dC (.bool false)))) dNext))
    (dRet (ePure (dC (.bool true)))))))))))
def g__law_alike : Nat → List S → Option (S × List S)
  | 0 => gNone
  | k + 1 => fnG 3 (f__law_alike (g__law_alike k))
def d__law_bent : En → Option Out := (dSeq (dIf (ePureT (dOr (dTest (dOp fEqD (dVar 1) (dLst dNil))) (dTest (dOp fGt (dVar 2) (dC (.int 2)))))) (dRet (eMove 1)) dNext)
    (dSeq (dSet 3 (eCall g__law_take (dCons (dVar 0) (dCons (dLen (dVar 1)) dNil))))
    (dSeq (dIf (ePureT (dTest (dOp fEqS (dVar 2) (dC (.int 0))))) (dRet (ePure (dOpS fCatL (dOpS fCatL (dSl fSlL (dVar 1) dNoPart (dPart (dVar 3))) (dRev (dSl fSlL (dVar 1) (dPart (dVar 3)) (dPart (dOp fAdd (dVar 3) (dC (.int 2))))))) (dSl fSlL (dVar 1) (dPart (dOp fAdd (dVar 3) (dC (.int 2)))) dNoPart)))) dNext)
    (dSeq (dIf (ePureT (dTest (dOp fEqS (dVar 2) (dC (.int 1))))) (dSeq (dAlias 4 (dOp fMod (dOp fAdd (dIxT (dIxL (dVar 1) (dVar 3)) (dC (.int 5))) (dC (.int 1))) (dC (.int 1000))))
    (dRet (ePure (dOpS fCatL (dOpS fCatL (dSl fSlL (dVar 1) dNoPart (dPart (dVar 3))) (dLst (dCons (dOpS fCatT (dOpS fCatT (dSl fSlT (dIxL (dVar 1) (dVar 3)) dNoPart (dPart (dC (.int 5)))) (dTupL (dCons (dVar 4) dNil))) (dSl fSlT (dIxL (dVar 1) (dVar 3)) (dPart (dC (.int 6))) dNoPart)) dNil))) (dSl fSlL (dVar 1) (dPart (dOp fAdd (dVar 3) (dC (.int 1)))) dNoPart))))) dNext)
    (dRet (ePure (dOpS fCatL (dSl fSlL (dVar 1) dNoPart (dPart (dVar 3))) (dSl fSlL (dVar 1) (dPart (dOp fAdd (dVar 3) (dC (.int 1)))) dNoPart))))))))
def g__law_bent : List S → Option (S × List S) := fnG 5 d__law_bent
def d__law_parted : En → Option Out := (dSeq (dSet 2 (eLc (iRange (dVar 1)) 13 eYes (ePure (dLst dNil))))
    (dSeq (dParL3 3 4 5 (lConsP dNewD (lConsP dNewD (lConsP (dC (.int 0)) lNil))))
    (dSeq (dFor (iRangeE (eCall g__law_take (dCons (dVar 0) (dCons (dC (.int 17)) dNil)))) (bName 6) (dSeq (dParL 7 8 (lConsE (eCall g__law_take (dCons (dVar 0) (dCons (dC (.int 3)) dNil))) (lConsE (eCall g__law_take (dCons (dVar 0) (dCons (dC (.int 3)) dNil))) lNil)))
    (dSeq (dSet 9 (eOp fSub (eCall g__law_take (dCons (dVar 0) (dCons (dC (.int 199)) dNil))) (ePure (dC (.int 99)))))
    (dSeq (dSet 5 (eOp fAdd (ePure (dVar 5)) (eOp fDiv (eCall g__law_take (dCons (dVar 0) (dCons (dC (.int 8)) dNil))) (ePure (dC (.int 7))))))
    (dSeq (dAsg (bTup 2 (bCons (bName 10) (bCons (bName 11) bNil))) (ePure (dDGet2 (dVar 3) (dVar 7) (dTupL (dCons (dC (.int 0)) (dCons (dC (.int 0)) dNil))))))
    (dSeq (dDPut (dVar 3) (dVar 7) (ePure (dTupL (dCons (dOp fAdd (dVar 10) (dC (.int 1))) (dCons (dOp fMod (dOp fAdd (dVar 11) (dVar 9)) (dC (.int 1000))) dNil)))))
    (dSeq (dDPut (dVar 4) (dVar 8) (ePure (dOp fAdd (dDGet2 (dVar 4) (dVar 8) (dC (.int 0))) (dC (.int 1)))))
    (dSeq (dAlias 12 (dTupL (dCons (dVar 7) (dCons (dOp fAdd (dVar 10) (dC (.int 1))) (dCons (dVar 8) (dCons (dDGet (dVar 4) (dVar 8)) dNil))))))
    (dDrop (eAt 2 (eCall g__law_take (dCons (dVar 0) (dCons (dVar 1) dNil))) fun k => eBM1 oAppend (dIxL (dVar 2) (dC (.int k))) (dOpS fCatT (dVar 12) (dTupL (dCons (dVar 9) (dCons (dIxT (dDGet (dVar 3) (dVar 7)) (dC (.int 1))) (dCons (dVar 5) dNil)))))))))))))))
    (dSeq (dSet 13 (eCall g__law_take (dCons (dVar 0) (dCons (dVar 1) dNil))))
    (dSeq (dLSet (dVar 2) (dVar 13) (eEff (lConsP (dVar 0) (lConsE (eSealP (dIxL (dVar 2) (dVar 13))) (lConsE (eCall g__law_take (dCons (dVar 0) (dCons (dC (.int 6)) dNil))) lNil))) fun k => dWhen k 3 (eCall g__law_bent (dGhs k))))
    (dRet (eMove 2)))))))
def g__law_parted : List S → Option (S × List S) := fnG 14 d__law_parted
def d__law_lets : En → Option Out := (dSeq (dAsg (bTup 7 (bCons (bName 2) (bCons (bName 3) (bCons (bName 4) (bCons (bName 5) (bCons (bName 6) (bCons (bName 7) (bCons (bName 8) bNil)))))))) (ePure (dVar 1)))
    (dSeq (dSet 9 (eLcG (iLst (dVar 0)) [10, 11] (bTup 2 (bCons (bName 10) (bCons (bName 11) bNil))) (ePureT (dTest (dOp fEqS (dIxT (dVar 11) (dC (.int 0))) (dVar 2)))) (ePure (dVar 11))))
    (dSeq (dIf (eTest (eOp fNeS (ePure (dVar 3)) (eOp fAdd (eEff (lConsE (eEff (lConsP (dLst (dCons (dC (.int 0)) dNil)) (lConsE (eLc (iLst (dVar 9)) 11 eYes (ePure (dIxT (dVar 11) (dC (.int 1))))) lNil)) fun k => dWhen k 2 (ePure ((dOpS fCatL) (dGh k 0) (dGh k 1)))) (lConsP (dNeg (dC (.int 1))) lNil)) fun k => dWhen k 2 (ePure (dIxL (dGh k 0) (dGh k 1)))) (ePure (dC (.int 1)))))) (dRet (ePure (dC (.bool false)))) dNext)
    (dSeq (dIf (eTest (eOp fNeS (ePure (dVar 7)) (eOp fMod (eOp fAdd (eEff (lConsE (eEff (lConsP (dLst (dCons (dC (.int 0)) dNil)) (lConsE (eLc (iLst (dVar 9)) 11 eYes (ePure (dIxT (dVar 11) (dC (.int 5))))) lNil)) fun k => dWhen k 2 (ePure ((dOpS fCatL) (dGh k 0) (dGh k 1)))) (lConsP (dNeg (dC (.int 1))) lNil)) fun k => dWhen k 2 (ePure (dIxL (dGh k 0) (dGh k 1)))) (ePure (dVar 6))) (ePure (dC (.int 1000)))))) (dRet (ePure (dC (.bool false)))) dNext)
    (dSeq (dIf (eTest (eOp fNeS (ePure (dVar 5)) (eOp fAdd (eEff (lConsE (eEff (lConsP (dLst (dCons (dC (.int 0)) dNil)) (lConsE (eLcG (iLst (dVar 0)) [10, 11] (bTup 2 (bCons (bName 10) (bCons (bName 11) bNil))) (ePureT (dTest (dOp fEqS (dIxT (dVar 11) (dC (.int 2))) (dVar 4)))) (ePure (dIxT (dVar 11) (dC (.int 3))))) lNil)) fun k => dWhen k 2 (ePure ((dOpS fCatL) (dGh k 0) (dGh k 1)))) (lConsP (dNeg (dC (.int 1))) lNil)) fun k => dWhen k 2 (ePure (dIxL (dGh k 0) (dGh k 1)))) (ePure (dC (.int 1)))))) (dRet (ePure (dC (.bool false)))) dNext)
    (dRet (eOp fGe (ePure (dVar 8)) (eEff (lConsE (eEff (lConsP (dLst (dCons (dC (.int 0)) dNil)) (lConsE (eLcG (iLst (dVar 0)) [10, 11] (bTup 2 (bCons (bName 10) (bCons (bName 11) bNil))) eYes (ePure (dIxT (dVar 11) (dC (.int 6))))) lNil)) fun k => dWhen k 2 (ePure ((dOpS fCatL) (dGh k 0) (dGh k 1)))) (lConsP (dNeg (dC (.int 1))) lNil)) fun k => dWhen k 2 (ePure (dIxL (dGh k 0) (dGh k 1)))))))))))
def g__law_lets : List S → Option (S × List S) := fnG 12 d__law_lets
def f__law_first (g : Addr → PyData → PyData → List NK → Option (S × List NK)) (a : Addr) : En → List NK → Option (Out × List NK) := (zSeq (zL (dSet 3 (eCS fTuple (eLc (iRange (dLen (dVar 0))) 5 eYes (eEff (lConsE (eLcG (iLst (dVar 1)) [7, 8] (bTup 2 (bCons (bName 7) (bCons (bName 8) bNil))) (ePureT (dTest (dOp fEqS (dVar 7) (dVar 5)))) (ePure (dVar 8))) lNil) fun k => dWhen k 1 (ePure (dLen (dGh k 0))))))))
    (zSeq (zL (dIf (eTest (eEff (lConsP (dVar 3) (lConsE (eCS fTuple (eLc (iLst (dVar 0)) 9 eYes (ePure (dLen (dVar 9))))) lNil)) fun k => dWhen k 2 (ePure ((dOp fEqD) (dGh k 0) (dGh k 1))))) (dRet (ePure (dCS fList (dCons (dVar 1) dNil)))) dNext))
    (zSeq (zL (dAlias 4 (dIfE (dTest (dOp fNeD (dVar 1) (dLst dNil))) (dIxT (dIxT (dIxL (dVar 1) (dNeg (dC (.int 1)))) (dC (.int 1))) (dC (.int 6))) (dC (.int 0)))))
    (zSeq (zIf (zIn 2 a (ePure (dTupL (dCons (dVar 3) (dCons (dVar 4) dNil))))) (zL (dRet (ePure (dC .none)))) (zL dNext))
    (zSeq (zFor (dLen (dVar 0)) (bName 5) (zIf (zT (eAnd (ePureT (dTest (dOp fLt (dIxT (dVar 3) (dVar 5)) (dLen (dIxL (dVar 0) (dVar 5)))))) (eTest (eCall g__law_lets (dCons (dVar 1) (dCons (dIxL (dIxL (dVar 0) (dVar 5)) (dIxT (dVar 3) (dVar 5))) dNil)))))) (zSeq (zCall 6 2 a (g) (dVar 0) (eSeal (ePure (dOpS fCatL (dVar 1) (dLst (dCons (dTupL (dCons (dVar 5) (dCons (dIxL (dIxL (dVar 0) (dVar 5)) (dIxT (dVar 3) (dVar 5))) dNil))) dNil)))))) (zL (dIf (ePureT (dTest (dOp fNotN (dVar 6) (dC .none)))) (dRet (eMove 6)) dNext))) (zL dNext)))
    (zSeq (zPut 2 a (ePure (dTupL (dCons (dVar 3) (dCons (dVar 4) dNil)))))
    (zL (dRet (ePure (dC .none))))))))))
def g__law_first : Nat → Addr → PyData → PyData → List NK → Option (S × List NK)
  | 0 => fun _ _ _ _ => none
  | k + 1 => fnZ 10 (f__law_first (g__law_first k))
open Classical in
noncomputable def G17 (D : PyData) : Option S := if h : ∃ s, ∀ a, ∃ z', g__law_first 40 a D (.list []) [] = some (s, z') then some h.choose else none
theorem G17_ok : ∀ a D s, G17 D = some s → ∃ z', g__law_first 40 a D (.list []) [] = some (s, z') := by
  intro a D s h
  unfold G17 at h
  split at h
  · next q =>
    cases h
    exact q.choose_spec a
  · cases h
noncomputable def d_law : En → Option Out := (dSeq (dSet 1 (eCall g__law_begun (dCons (dVar 0) dNil)))
    (dSeq (dFor (iRange (dC (.int 4))) (bName 2) (dSeq (dSet 3 (eSeal (eEff (lConsP (dVar 1) (lConsE (eOp fAdd (ePure (dC (.int 1))) (eCall g__law_take (dCons (dVar 1) (dCons (dC (.int 4)) dNil)))) lNil)) fun k => dWhen k 2 (eCall g__law_parted (dGhs k)))))
    (dSeq (dSet 4 (eSeal (eFirst G17 (dVar 3))))
    (dSeq (dSet 5 (eSeal (eLc (iLst (dVar 3)) 8 eYes (ePure (dCS fList (dCons (dVar 8) dNil))))))
    (dFor (iRange (dC (.int 2))) (bName 6) (dSeq (dSet 7 (eCall g_in_one (dCons (dVar 5) dNil)))
    (dSeq (dIf (eOr (eNot (eTest (eCall (g__law_alike 9) (dCons (dVar 7) (dCons (dVar 4) dNil))))) (ePureT (dTest (dOp fNeD (dVar 5) (dVar 3))))) (dRet (ePure (dC (.bool false)))) dNext)
    (dIf (ePureT (dTest (dOp fNotN (dVar 7) (dC .none)))) (dDrop (eBM1 oAppend (dVar 7) (dTupL dNil))) dNext))))))))
    (dRet (ePure (dC (.bool true))))))
noncomputable def g_law : List S → Option (S × List S) := fnG 9 d_law
section
variable {P : Program} {w : World} {K : PySem.W.Frag} {mg : Str → Option Value} {base : Heap}
theorem ok_with_more (T : Txt K mg) : FnOk P w K mg base CX0 1 T.a_with_more T.d_with_more ["worth", "more"] (spMv K 2 g_with_more) := by
  refine fn_mv T.F_with_more sc_with_more (fun cdv A outer s H E as hr => ?_)
  exact ⟨_, (pss_one (ps_ret (pe_op op_mod (pe_op op_add (pv 0) (pv 1)) (pe_glob (v := .int (1000)) rfl T.c_WORTHS ⟨_, rfl⟩)))),
    fun W => (s_ret (e_pure (p_op rv_mod (p_op rv_add (p_var (i := 0) (by decide)) (p_var (i := 1) (by decide))) (p_c (d := .int 1000)))))⟩
theorem ok_Tally___init__ (T : Txt K mg) : FnOk P w K mg base CX0 1 T.a_Tally___init__ T.d_Tally___init__ ["self"] (spMv K 1 g_Tally___init__) := by
  refine fn_mv T.F_Tally___init__ sc_Tally___init__ (fun cdv A outer s H E as hr => ?_)
  exact ⟨_, (pss_cons (ps_fld (pv 0) pe_dnewK rfl)
    (pss_cons (ps_fld (pv 0) pe_dnewK rfl)
    (pss_one (ps_fld (pv 0) pe_int rfl)))),
    fun W => (s_seq (s_fput T.k_Tally T.cl_Tally T.na_Tally_grown fx_Tally_grown (p_var (i := 0) (by decide)) (e_pure p_newD))
    (s_seq (s_fput T.k_Tally T.cl_Tally T.na_Tally_numbers fx_Tally_numbers (p_var (i := 0) (by decide)) (e_pure p_newD))
    (s_fput T.k_Tally T.cl_Tally T.na_Tally_make fx_Tally_make (p_var (i := 0) (by decide)) (e_pure (p_c (d := .int 0))))))⟩
theorem ok_Tally_note (T : Txt K mg) : FnOk P w K mg base CX0 1 T.a_Tally_note T.d_Tally_note ["self", "deed"] (spMv K 2 g_Tally_note) := by
  refine fn_mv T.F_Tally_note sc_Tally_note (fun cdv A outer s H E as hr => ?_)
  have hu := hu_of hr
  exact ⟨_, (pss_cons (ps_asg (pv 1) (pg_tup rfl (pgs_cons (pg_name (i := 2) sc_Tally_note.nd rfl (Or.inl rfl)) (pgs_cons (pg_name (i := 3) sc_Tally_note.nd rfl (Or.inl rfl)) (pgs_cons (pg_name (i := 4) sc_Tally_note.nd rfl (Or.inl rfl)) (pgs_cons (pg_name (i := 5) sc_Tally_note.nd rfl (Or.inl rfl)) (pgs_cons (pg_name (i := 6) sc_Tally_note.nd rfl (Or.inl rfl)) (pgs_cons (pg_name (i := 7) sc_Tally_note.nd rfl (Or.inl rfl)) (pgs_cons (pg_name (i := 8) sc_Tally_note.nd rfl (Or.inl rfl)) pgs_nil)))))))))
    (pss_cons (ps_dput hu (pe_fld (pv 0) rfl) (pv 2) (pe_tupF (pa_cons (pv 7) (pa_cons (pv 3) pa_nil))) rfl)
    (pss_cons (ps_dput hu (pe_fld (pv 0) rfl) (pv 4) (pv 5) rfl)
    (pss_one (ps_fld (pv 0) (pv 8) rfl))))),
    fun W => (s_seq (s_asg (g_tup (gs_cons (g_name (i := 2) (by decide)) (gs_cons (g_name (i := 3) (by decide)) (gs_cons (g_name (i := 4) (by decide)) (gs_cons (g_name (i := 5) (by decide)) (gs_cons (g_name (i := 6) (by decide)) (gs_cons (g_name (i := 7) (by decide)) (gs_cons (g_name (i := 8) (by decide)) gs_nil)))))))) (e_pure (p_var (i := 1) (by decide))))
    (s_seq (s_dput (p_fld T.k_Tally T.cl_Tally T.na_Tally_grown fx_Tally_grown (p_var (i := 0) (by decide))) (p_var (i := 2) (by decide)) (e_pure (p_tup (p_cons (p_var (i := 7) (by decide)) (p_cons (p_var (i := 3) (by decide)) p_nil)))))
    (s_seq (s_dput (p_fld T.k_Tally T.cl_Tally T.na_Tally_numbers fx_Tally_numbers (p_var (i := 0) (by decide))) (p_var (i := 4) (by decide)) (e_pure (p_var (i := 5) (by decide))))
    (s_fput T.k_Tally T.cl_Tally T.na_Tally_make fx_Tally_make (p_var (i := 0) (by decide)) (e_pure (p_var (i := 8) (by decide)))))))⟩
theorem ok_Tally_lets (T : Txt K mg) : FnOk P w K mg base CX0 2 T.a_Tally_lets T.d_Tally_lets ["self", "deed"] (spMv K 2 g_Tally_lets) := by
  refine fn_mv T.F_Tally_lets sc_Tally_lets (fun cdv A outer s H E as hr => ?_)
  have hu := hu_of hr
  exact ⟨_, (pss_cons (ps_asg (pv 1) (pg_tup rfl (pgs_cons (pg_name (i := 2) sc_Tally_lets.nd rfl (Or.inl rfl)) (pgs_cons (pg_name (i := 3) sc_Tally_lets.nd rfl (Or.inl rfl)) (pgs_cons (pg_name (i := 4) sc_Tally_lets.nd rfl (Or.inl rfl)) (pgs_cons (pg_name (i := 5) sc_Tally_lets.nd rfl (Or.inl rfl)) (pgs_cons (pg_name (i := 6) sc_Tally_lets.nd rfl (Or.inl rfl)) (pgs_cons (pg_name (i := 7) sc_Tally_lets.nd rfl (Or.inl rfl)) (pgs_cons (pg_name (i := 8) sc_Tally_lets.nd rfl (Or.inl rfl)) pgs_nil)))))))))
    (pss_cons (ps_asg (pe_dget2 hu (pe_fld (pv 0) rfl) (pv 2) (pe_glob (v := .ref T.a_NEW_SLOT) rfl T.c_NEW_SLOT rfl) ⟨rfl, rfl, rfl, rfl⟩) (pg_tup rfl (pgs_cons (pg_name (i := 9) sc_Tally_lets.nd rfl (Or.inl rfl)) (pgs_cons (pg_name (i := 10) sc_Tally_lets.nd rfl (Or.inl rfl)) pgs_nil))))
    (pss_cons (ps_if (PW.pt (pw_or (pt_cmpR op_ne (pv 3) (pe_op op_add (pv 10) pe_int) (nomark _)) (pw_or1 (pt_cmpR op_ne (pv 7) (pe_call (ok_with_more T) (hr.mono (by decide)) rfl T.m_with_more T.F_with_more.kp T.b_with_more .nil pass0 (pa_cons (pv 9) (pa_cons (pv 6) pa_nil))) (nomark _))))) (pss_one (ps_ret pe_bl)) pss_nil)
    (pss_one (ps_ret (pe_and (pe_cmpR op_eq (pv 5) (pe_op op_add (pe_dget2 hu (pe_fld (pv 0) rfl) (pv 4) pe_int ⟨rfl, rfl, rfl, rfl⟩) pe_int) (nomark _)) (pe_one (pe_cmpR op_ge (pv 8) (pe_fld (pv 0) rfl) (nomark _))))))))),
    fun W => (s_seq (s_asg (g_tup (gs_cons (g_name (i := 2) (by decide)) (gs_cons (g_name (i := 3) (by decide)) (gs_cons (g_name (i := 4) (by decide)) (gs_cons (g_name (i := 5) (by decide)) (gs_cons (g_name (i := 6) (by decide)) (gs_cons (g_name (i := 7) (by decide)) (gs_cons (g_name (i := 8) (by decide)) gs_nil)))))))) (e_pure (p_var (i := 1) (by decide))))
    (s_seq (s_asg (g_tup (gs_cons (g_name (i := 9) (by decide)) (gs_cons (g_name (i := 10) (by decide)) gs_nil))) (e_pure (p_dget2 (p_fld T.k_Tally T.cl_Tally T.na_Tally_grown fx_Tally_grown (p_var (i := 0) (by decide))) (p_var (i := 2) (by decide)) (p_cq (d := .tuple [.int 0, .int 0]) T.q_NEW_SLOT))))
    (s_seq (s_if (e_or (e_pureT (p_test (p_op rv_ne (p_var (i := 3) (by decide)) (p_op rv_add (p_var (i := 10) (by decide)) (p_c (d := .int 1)))))) (e_test (e_op rv_ne (e_pure (p_var (i := 7) (by decide))) (e_call (p_cons (p_var (i := 9) (by decide)) (p_cons (p_var (i := 6) (by decide)) p_nil)) (dl_cons (dl_cons dl_nil)))))) (s_ret (e_pure (p_c (d := .bool false)))) s_next)
    (s_ret (e_pure (p_andV (p_op rv_eq (p_var (i := 5) (by decide)) (p_op rv_add (p_dget2 (p_fld T.k_Tally T.cl_Tally T.na_Tally_numbers fx_Tally_numbers (p_var (i := 0) (by decide))) (p_var (i := 4) (by decide)) (p_c (d := .int 0))) (p_c (d := .int 1)))) (p_op rv_ge (p_var (i := 8) (by decide)) (p_fld T.k_Tally T.cl_Tally T.na_Tally_make fx_Tally_make (p_var (i := 0) (by decide))))))))))⟩
theorem ok_next_place (T : Txt K mg) : FnOk P w K mg base CX0 3 T.a_next_place T.d_next_place ["rows", "begun", "tally", "make"] (spMv K 4 g_next_place) := by
  refine fn_mv T.F_next_place sc_next_place (fun cdv A outer s H E as hr => ?_)
  exact ⟨_, (pss_cons (ps_for PassesOwn.never rfl (pi_enum (by rfl) T.n_enumerate (pa_cons (pv 0) pa_nil)) (pg_tup rfl (pgs_cons (pg_name (i := 4) sc_next_place.nd rfl (Or.inl rfl)) (pgs_cons (pg_name (i := 5) sc_next_place.nd rfl (Or.inl rfl)) pgs_nil))) (pss_one (ps_if (pt_cmpR op_lt (pe_ix (r := rIxL K) ix_list (pv 1) (pv 4) (fun _ _ => rfl)) (pe_callB (r := rLenK K) call_lenK (by rfl) T.n_len PySem.boot_len (pa_cons (pv 5) pa_nil)) (nomark _)) (pss_cons (ps_set (i := 6) sc_next_place.nd rfl (Or.inl rfl) (pe_ix (r := rIxL K) ix_list (pv 5) (pe_ix (r := rIxL K) ix_list (pv 1) (pv 4) (fun _ _ => rfl)) (fun _ _ => rfl)))
    (pss_one (ps_if (PW.pt (pw_and (pt_cmpR op_eq (pe_ix (r := rIxT K) ix_tup (pv 6) (pe_un un_neg pe_int) (fun _ _ => rfl)) (pv 3) (nomark _)) (pw_and1 (pt_val (pe_meth (pv 2) T.cl_Tally T.mt_Tally_lets (ok_Tally_lets T) (hr.mono (by decide)) T.b_Tally_lets .nil pass0 (pa_cons (pv 6) pa_nil)))))) (pss_one (ps_ret (pv 4))) pss_nil))) pss_nil)))
    (pss_one (ps_ret pe_non))),
    fun W => (s_seq (s_forEnum (p_var (i := 0) (by decide)) (gs_cons (g_name (i := 4) (by decide)) (gs_cons (g_name (i := 5) (by decide)) gs_nil)) (fun _ => (s_if (e_pureT (p_test (p_op rv_lt (p_ixL (p_var (i := 1) (by decide)) (p_var (i := 4) (by decide))) (p_len (p_var (i := 5) (by decide)))))) (s_seq (s_alias (by decide) (p_ixL (p_var (i := 5) (by decide)) (p_ixL (p_var (i := 1) (by decide)) (p_var (i := 4) (by decide)))))
    (s_if (e_and (e_pureT (p_test (p_op rv_eq (p_ixT (p_var (i := 6) (by decide)) (p_neg (p_c (d := .int 1)))) (p_var (i := 3) (by decide))))) (e_tB (e_meth (e_call (p_cons (p_ins T.k_Tally fm_Tally_lets (p_var (i := 2) (by decide))) (p_cons (p_var (i := 6) (by decide)) p_nil)) (dl_cons (dl_cons dl_nil)))))) (s_ret (e_move (i := 4) (by decide))) s_next)) s_next)))
    (s_ret (e_pure (p_c (d := .none)))))⟩
theorem ok_in_one (T : Txt K mg) : FnOk P w K mg base CX0 4 T.a_in_one T.d_in_one ["rows"] (spMv K 1 g_in_one) := by
  refine fn_mv T.F_in_one sc_in_one (fun cdv A outer s H E as hr => ?_)
  exact ⟨_, (pss_cons (ps_set (i := 1) sc_in_one.nd rfl (Or.inl rfl) (pe_make0 T.M_Tally (ok_Tally___init__ T) (hr.mono (by decide)) (by rfl) T.g_Tally T.b_Tally___init__ .nil pass0))
    (pss_cons (ps_set (i := 2) sc_in_one.nd rfl (Or.inl rfl) (pe_op (r := rRep) op_rep (pe_lst (pa_cons pe_int pa_nil)) (pe_callB (r := rLenK K) call_lenK (by rfl) T.n_len PySem.boot_len (pa_cons (pv 0) pa_nil))))
    (pss_cons (ps_set (i := 3) sc_in_one.nd rfl (Or.inl rfl) (pe_lst pa_nil))
    (pss_cons (ps_for PassesOwn.never rfl (pi_list (pe_callB (r := rSortedI K) cr_sortedI (by rfl) T.n_sorted (by decide +kernel) (pa_cons (pe_lc2 (own := [("deeds", 7), ("deed", 6)]) (vs1 := [6]) rfl sc_in_one.nd (pi_list (pv 0)) (blkOk_by (N := ["rows", "tally", "begun", "row", "make", "place", "deed", "deeds"]) (sc := defScope s_in_one) (by decide +kernel)) (by decide) (fun _ _ _ _ _ => pg_name (i := 7) sc_in_one.nd rfl (Or.inl rfl)) (fun _ _ _ _ _ => pts_nil) (fun _ _ _ _ _ => (pi_list (pv 7))) (fun _ _ _ _ _ => pg_name (i := 6) sc_in_one.nd rfl (Or.inl rfl)) (fun _ _ _ _ _ => pts_nil) (fun _ _ _ _ _ => (pe_ix (r := rIxT K) ix_tup (pv 6) (pe_un un_neg pe_int) (fun _ _ => rfl)))) pa_nil))) (pg_name (i := 4) sc_in_one.nd rfl (Or.inl rfl)) (pss_cons (ps_set (i := 5) sc_in_one.nd rfl (Or.inl rfl) (pe_call (ok_next_place T) (hr.mono (by decide)) rfl T.m_next_place T.F_next_place.kp T.b_next_place .nil pass0 (pa_cons (pv 0) (pa_cons (pv 2) (pa_cons (pv 1) (pa_cons (pv 4) pa_nil))))))
    (pss_cons (ps_if (pt_cmpR op_isN (pv 5) pe_non (nomark _)) (pss_one (ps_ret pe_non)) pss_nil)
    (pss_cons (ps_set (i := 6) sc_in_one.nd rfl (Or.inl rfl) (pe_ix (r := rIxL K) ix_list (pe_ix (r := rIxL K) ix_list (pv 0) (pv 5) (fun _ _ => rfl)) (pe_ix (r := rIxL K) ix_list (pv 2) (pv 5) (fun _ _ => rfl)) (fun _ _ => rfl)))
    (pss_cons (ps_augS (tget := rIxL K) (pv 2) (pv 5) get_listL pe_int ip_add set_list)
    (pss_cons (ps_expr (pe_meth (pv 1) T.cl_Tally T.mt_Tally_note (ok_Tally_note T) (hr.mono (by decide)) T.b_Tally_note .nil pass0 (pa_cons (pv 6) pa_nil)))
    (pss_one (ps_expr (pe_K (t := fun K => tBM K "list" rAppend _ _) (pe_bm PySem.F.plainAttrs_list PySem.F.slot_list_append PySem.F.type_list_append mt_append (pv 3) (pa_cons (pe_tupF (pa_cons (pv 5) (pa_cons (pv 6) pa_nil))) pa_nil)))))))))))
    (pss_one (ps_ret (pv 3))))))),
    fun W => (s_seq (s_set (by decide) (e_make T.k_Tally l_nil))
    (s_seq (s_alias (by decide) (p_opS rv_rep (p_lst (p_cons (p_c (d := .int 0)) p_nil)) (p_len (p_var (i := 0) (by decide)))))
    (s_seq (s_alias (by decide) (p_lst p_nil))
    (s_seq (s_for (i_lstE (e_cs1 rc_sorted (e_lc2 (by decide) (by decide) (by decide) (p_var (i := 0) (by decide)) (p_ixT (p_var (i := 6) (by decide)) (p_neg (p_c (d := .int 1))))))) (g_name (i := 4) (by decide)) (fun _ => (s_seq (s_set (by decide) (e_call (p_cons (p_var (i := 0) (by decide)) (p_cons (p_var (i := 2) (by decide)) (p_cons (p_var (i := 1) (by decide)) (p_cons (p_var (i := 4) (by decide)) p_nil)))) (dl_cons (dl_cons (dl_cons (dl_cons dl_nil))))))
    (s_seq (s_if (e_pureT (p_test (p_op rv_isN (p_var (i := 5) (by decide)) (p_c (d := .none))))) (s_ret (e_pure (p_c (d := .none)))) s_next)
    (s_seq (s_alias (by decide) (p_ixL (p_ixL (p_var (i := 0) (by decide)) (p_var (i := 5) (by decide))) (p_ixL (p_var (i := 2) (by decide)) (p_var (i := 5) (by decide)))))
    (s_seq (s_laug (p_var (i := 2) (by decide)) (p_var (i := 5) (by decide)) rv_ipadd (p_c (d := .int 1)))
    (s_seq (s_drop (e_meth (e_call (p_cons (p_ins T.k_Tally fm_Tally_note (p_var (i := 1) (by decide))) (p_cons (p_var (i := 6) (by decide)) p_nil)) (dl_cons (dl_cons dl_nil)))))
    (s_drop (e_bm1 nd_append (p_var (i := 3) (by decide)) (p_tup (p_cons (p_var (i := 5) (by decide)) (p_cons (p_var (i := 6) (by decide)) p_nil))))))))))))
    (s_ret (e_move (i := 3) (by decide)))))))⟩
end
section
variable {P : Program} {w : World} {K : PySem.W.Frag} {mg : Str → Option Value} {base : Heap}
theorem ok__law_begun (T : Txt K mg) : FnOk P w K mg base CX0 1 T.a__law_begun T.d__law_begun ["_law_script"] (spMv K 1 g__law_begun) := by
  refine fn_mv T.F__law_begun sc__law_begun (fun cdv A outer s H E as hr => ?_)
  exact ⟨_, (pss_cons (ps_set (i := 1) sc__law_begun.nd rfl (Or.inl rfl) pe_int)
    (pss_cons (ps_for PassesOwn.never rfl (pi_list (pv 0)) (pg_name (i := 2) sc__law_begun.nd rfl (Or.inl rfl)) (pss_one (ps_set (i := 1) sc__law_begun.nd rfl (Or.inl rfl) (pe_op op_mod (pe_op op_add (pe_op op_add (pe_op op_mul (pv 1) pe_int) (pe_op op_mul (pv 2) pe_int)) pe_int) pe_int))))
    (pss_one (ps_ret (pe_lst (pa_cons (pe_callTy (r := rListOfK K) call_listK (by rfl) T.n_list (by decide +kernel) (pa_cons (pv 0) pa_nil)) (pa_cons (pe_op op_mul (pv 1) (pe_callTy call_int1 (by rfl) T.n_int (by decide +kernel) (pa_cons (pe_cmpR op_gt (pe_callB (r := rLenK K) call_lenK (by rfl) T.n_len PySem.boot_len (pa_cons (pv 0) pa_nil)) pe_int (nomark _)) pa_nil))) pa_nil))))))),
    fun W => (s_seq (s_alias (by decide) (p_c (d := .int 0)))
    (s_seq (s_for (i_lst (p_var (i := 0) (by decide))) (g_name (i := 2) (by decide)) (fun _ => (s_alias (by decide) (p_op rv_mod (p_op rv_add (p_op rv_add (p_op rv_mul (p_var (i := 1) (by decide)) (p_c (d := .int 48271))) (p_op rv_mul (p_var (i := 2) (by decide)) (p_c (d := .int 69621)))) (p_c (d := .int 11))) (p_c (d := .int 2147483647))))))
    (s_ret (e_pure (p_lst (p_cons (p_cs rc_list (p_cons (p_var (i := 0) (by decide)) p_nil)) (p_cons (p_op rv_mul (p_var (i := 1) (by decide)) (p_cb rc_int (p_cons (p_op rv_gt (p_len (p_var (i := 0) (by decide))) (p_c (d := .int 2))) p_nil))) p_nil)))))))⟩
theorem ok__law_take (T : Txt K mg) : FnOk P w K mg base CX0 1 T.a__law_take T.d__law_take ["_law_box", "_law_many"] (spMv K 2 g__law_take) := by
  refine fn_mv T.F__law_take sc__law_take (fun cdv A outer s H E as hr => ?_)
  exact ⟨_, (pss_cons (ps_if (pt_cmpR (r := rEqD K) (op_eqD hr.units) (pe_ix (r := rIxL K) ix_list (pv 0) pe_int (fun _ _ => rfl)) (pe_lst pa_nil) (nomark _)) (pss_cons (ps_asg (pe_op op_mod (pe_op op_mul (pe_ix (r := rIxL K) ix_list (pv 0) pe_int (fun _ _ => rfl)) pe_int) pe_int) (pg_sub (pv 0) pe_int set_list))
    (pss_one (ps_ret (pe_op op_mod (pe_op op_fdiv (pe_ix (r := rIxL K) ix_list (pv 0) pe_int (fun _ _ => rfl)) pe_int) (pv 1))))) pss_nil)
    (pss_cons (ps_set (i := 2) sc__law_take.nd rfl (Or.inl rfl) (pe_ix (r := rIxL K) ix_list (pe_ix (r := rIxL K) ix_list (pv 0) pe_int (fun _ _ => rfl)) pe_int (fun _ _ => rfl)))
    (pss_cons (ps_asg (pe_op op_fdiv (pv 2) (pv 1)) (pg_sub (pe_ix (r := rIxL K) ix_list (pv 0) pe_int (fun _ _ => rfl)) pe_int set_list))
    (pss_cons (ps_if (PW.pt (pw_or (pt_cmpR op_eq (pe_ix (r := rIxL K) ix_list (pe_ix (r := rIxL K) ix_list (pv 0) pe_int (fun _ _ => rfl)) pe_int (fun _ _ => rfl)) pe_int (nomark _)) (pw_or1 (pt_cmpR op_eq (pe_ix (r := rIxL K) ix_list (pe_ix (r := rIxL K) ix_list (pv 0) pe_int (fun _ _ => rfl)) pe_int (fun _ _ => rfl)) (pe_un un_neg pe_int) (nomark _))))) (pss_one (ps_expr (pe_K (t := fun K => tBM K "list" rPopAt _ _) (pe_bm PySem.F.plainAttrs_list PySem.F.slot_list_pop PySem.F.type_list_pop mt_popAt (pe_ix (r := rIxL K) ix_list (pv 0) pe_int (fun _ _ => rfl)) (pa_cons pe_int pa_nil))))) pss_nil)
    (pss_one (ps_ret (pe_op op_mod (pv 2) (pv 1)))))))),
    fun W => (s_seq (s_if (e_pureT (p_test (p_op rv_eqD (p_ixL (p_var (i := 0) (by decide)) (p_c (d := .int 0))) (p_lst p_nil)))) (s_seq (s_lset (p_var (i := 0) (by decide)) (p_c (d := .int 1)) (e_pure (p_op rv_mod (p_op rv_mul (p_ixL (p_var (i := 0) (by decide)) (p_c (d := .int 1))) (p_c (d := .int 48271))) (p_c (d := .int 2147483647)))))
    (s_ret (e_pure (p_op rv_mod (p_op rv_div (p_ixL (p_var (i := 0) (by decide)) (p_c (d := .int 1))) (p_c (d := .int 7))) (p_var (i := 1) (by decide)))))) s_next)
    (s_seq (s_alias (by decide) (p_ixL (p_ixL (p_var (i := 0) (by decide)) (p_c (d := .int 0))) (p_c (d := .int 0))))
    (s_seq (s_lset (p_ixL (p_var (i := 0) (by decide)) (p_c (d := .int 0))) (p_c (d := .int 0)) (e_pure (p_op rv_div (p_var (i := 2) (by decide)) (p_var (i := 1) (by decide)))))
    (s_seq (s_if (e_pureT (p_or (p_test (p_op rv_eq (p_ixL (p_ixL (p_var (i := 0) (by decide)) (p_c (d := .int 0))) (p_c (d := .int 0))) (p_c (d := .int 0)))) (p_test (p_op rv_eq (p_ixL (p_ixL (p_var (i := 0) (by decide)) (p_c (d := .int 0))) (p_c (d := .int 0))) (p_neg (p_c (d := .int 1))))))) (s_drop (e_bm1 nd_popAt (p_ixL (p_var (i := 0) (by decide)) (p_c (d := .int 0))) (p_c (d := .int 0)))) s_next)
    (s_ret (e_pure (p_op rv_mod (p_var (i := 2) (by decide)) (p_var (i := 1) (by decide)))))))))⟩
theorem step__law_alike (T : Txt K mg) {g : List S → Option (S × List S)} {k : Nat} (G : FnOk P w K mg base CX0 k T.a__law_alike T.d__law_alike ["_law_found", "_law_due"] (spMv K 2 g)) : FnOk P w K mg base CX0 (k + 1) T.a__law_alike T.d__law_alike ["_law_found", "_law_due"] (spMv K 2 (fnG 3 (f__law_alike g))) := by
  refine fn_mv T.F__law_alike sc__law_alike (fun cdv A outer s H E as hr => ?_)
  exact ⟨_, (pss_cons (ps_if (pt_cmpR op_isN (pv 1) pe_non (nomark _)) (pss_one (ps_ret (pe_cmpR op_isN (pv 0) pe_non (nomark _)))) pss_nil)
    (pss_cons (ps_if (pt_val (pe_callB (r := rIsi K) call_isi (by rfl) T.n_isinstance (by decide +kernel) (pa_cons (pv 1) (pa_cons (pe_bltn (v := .ty "bool") (u := .type "bool") (by rfl) T.n_bool (by decide +kernel) rfl) pa_nil)))) (pss_one (ps_ret (pe_and (pe_callB (r := rIsi K) call_isi (by rfl) T.n_isinstance (by decide +kernel) (pa_cons (pv 0) (pa_cons (pe_bltn (v := .ty "bool") (u := .type "bool") (by rfl) T.n_bool (by decide +kernel) rfl) pa_nil))) (pe_one (pe_cmpR (r := rEqD K) (op_eqD hr.units) (pv 0) (pv 1) (nomark _)))))) pss_nil)
    (pss_cons (ps_if (pt_val (pe_callB (r := rIsi K) call_isi (by rfl) T.n_isinstance (by decide +kernel) (pa_cons (pv 1) (pa_cons (pe_bltn (v := .ty "int") (u := .type "int") (by rfl) T.n_int (by decide +kernel) rfl) pa_nil)))) (pss_one (ps_ret (pe_and (pe_callB (r := rIsi K) call_isi (by rfl) T.n_isinstance (by decide +kernel) (pa_cons (pv 0) (pa_cons (pe_bltn (v := .ty "int") (u := .type "int") (by rfl) T.n_int (by decide +kernel) rfl) pa_nil))) (pe_and (pe_not (pe_callB (r := rIsi K) call_isi (by rfl) T.n_isinstance (by decide +kernel) (pa_cons (pv 0) (pa_cons (pe_bltn (v := .ty "bool") (u := .type "bool") (by rfl) T.n_bool (by decide +kernel) rfl) pa_nil)))) (pe_one (pe_cmpR (r := rEqD K) (op_eqD hr.units) (pv 0) (pv 1) (nomark _))))))) pss_nil)
    (pss_cons (ps_if (pt_val (pe_callB (r := rIsi K) call_isi (by rfl) T.n_isinstance (by decide +kernel) (pa_cons (pv 1) (pa_cons (pe_bltn (v := .ty "str") (u := .type "str") (by rfl) T.n_str (by decide +kernel) rfl) pa_nil)))) (pss_one (ps_ret (pe_and (pe_callB (r := rIsi K) call_isi (by rfl) T.n_isinstance (by decide +kernel) (pa_cons (pv 0) (pa_cons (pe_bltn (v := .ty "str") (u := .type "str") (by rfl) T.n_str (by decide +kernel) rfl) pa_nil))) (pe_one (pe_cmpR (r := rEqD K) (op_eqD hr.units) (pv 0) (pv 1) (nomark _)))))) pss_nil)
    (pss_cons (ps_if (PW.pt (pw_or (pt_cmpR op_ne (pe_callB (r := rIsi K) call_isi (by rfl) T.n_isinstance (by decide +kernel) (pa_cons (pv 1) (pa_cons (pe_bltn (v := .ty "tuple") (u := .type "tuple") (by rfl) T.n_tuple (by decide +kernel) rfl) pa_nil))) (pe_callB (r := rIsi K) call_isi (by rfl) T.n_isinstance (by decide +kernel) (pa_cons (pv 0) (pa_cons (pe_bltn (v := .ty "tuple") (u := .type "tuple") (by rfl) T.n_tuple (by decide +kernel) rfl) pa_nil))) (nomark _)) (pw_or1 (pt_cmpR op_ne (pe_callB (r := rIsi K) call_isi (by rfl) T.n_isinstance (by decide +kernel) (pa_cons (pv 1) (pa_cons (pe_bltn (v := .ty "list") (u := .type "list") (by rfl) T.n_list (by decide +kernel) rfl) pa_nil))) (pe_callB (r := rIsi K) call_isi (by rfl) T.n_isinstance (by decide +kernel) (pa_cons (pv 0) (pa_cons (pe_bltn (v := .ty "list") (u := .type "list") (by rfl) T.n_list (by decide +kernel) rfl) pa_nil))) (nomark _))))) (pss_one (ps_ret pe_bl)) pss_nil)
    (pss_cons (ps_if (pt_cmpR op_ne (pe_callB (r := rLenK K) call_lenK (by rfl) T.n_len PySem.boot_len (pa_cons (pv 0) pa_nil)) (pe_callB (r := rLenK K) call_lenK (by rfl) T.n_len PySem.boot_len (pa_cons (pv 1) pa_nil)) (nomark _)) (pss_one (ps_ret pe_bl)) pss_nil)
    (pss_cons (ps_for PassesOwn.never rfl (pi_range1 (by rfl) T.n_range (pa_cons (pe_callB (r := rLenK K) call_lenK (by rfl) T.n_len PySem.boot_len (pa_cons (pv 1) pa_nil)) pa_nil)) (pg_name (i := 2) sc__law_alike.nd rfl (Or.inl rfl)) (pss_one (ps_if (pt_not (pt_val (pe_call G (hr.mono (Nat.le_refl _)) rfl T.m__law_alike T.F__law_alike.kp T.b__law_alike .nil pass0 (pa_cons (pe_ix (r := rIxA K) ix_any (pv 0) (pv 2) (fun _ _ => rfl)) (pa_cons (pe_ix (r := rIxA K) ix_any (pv 1) (pv 2) (fun _ _ => rfl)) pa_nil))))) (pss_one (ps_ret pe_bl)) pss_nil)))
    (pss_one (ps_ret pe_bl))))))))),
    fun W => (s_seq (s_if (e_pureT (p_test (p_op rv_isN (p_var (i := 1) (by decide)) (p_c (d := .none))))) (s_ret (e_pure (p_op rv_isN (p_var (i := 0) (by decide)) (p_c (d := .none))))) s_next)
    (s_seq (s_if (e_pureT (p_tB (p_isi (T := .bool) (p_var (i := 1) (by decide))))) (s_ret (e_pure (p_andV (p_isi (T := .bool) (p_var (i := 0) (by decide))) (p_op rv_eqD (p_var (i := 0) (by decide)) (p_var (i := 1) (by decide)))))) s_next)
    (s_seq (s_if (e_pureT (p_tB (p_isi (T := .int) (p_var (i := 1) (by decide))))) (s_ret (e_pure (p_andV (p_isi (T := .int) (p_var (i := 0) (by decide))) (p_andV (p_notV (p_isi (T := .bool) (p_var (i := 0) (by decide)))) (p_op rv_eqD (p_var (i := 0) (by decide)) (p_var (i := 1) (by decide))))))) s_next)
    (s_seq (s_if (e_pureT (p_tB (p_isi (T := .str) (p_var (i := 1) (by decide))))) (s_ret (e_pure (p_andV (p_isi (T := .str) (p_var (i := 0) (by decide))) (p_op rv_eqD (p_var (i := 0) (by decide)) (p_var (i := 1) (by decide)))))) s_next)
    (s_seq (s_if (e_pureT (p_or (p_test (p_op rv_ne (p_isi (T := .tuple) (p_var (i := 1) (by decide))) (p_isi (T := .tuple) (p_var (i := 0) (by decide))))) (p_test (p_op rv_ne (p_isi (T := .list) (p_var (i := 1) (by decide))) (p_isi (T := .list) (p_var (i := 0) (by decide))))))) (s_ret (e_pure (p_c (d := .bool false)))) s_next)
    (s_seq (s_if (e_pureT (p_test (p_op rv_ne (p_len (p_var (i := 0) (by decide))) (p_len (p_var (i := 1) (by decide)))))) (s_ret (e_pure (p_c (d := .bool false)))) s_next)
    (s_seq (s_for (i_range (p_len (p_var (i := 1) (by decide)))) (g_name (i := 2) (by decide)) (fun _ => (s_if (e_not (e_tB (e_call (p_cons (p_ixA (p_var (i := 0) (by decide)) (p_var (i := 2) (by decide))) (p_cons (p_ixA (p_var (i := 1) (by decide)) (p_var (i := 2) (by decide))) p_nil)) (dl_cons (dl_cons dl_nil))))) (s_ret (e_pure (p_c (d := .bool false)))) s_next)))
    (s_ret (e_pure (p_c (d := .bool true)))))))))))⟩
theorem all__law_alike (T : Txt K mg) : ∀ j : Nat, FnOk P w K mg base CX0 j T.a__law_alike T.d__law_alike ["_law_found", "_law_due"] (spMv K 2 (g__law_alike j))
  | 0 => fn_none (ps := ["_law_found", "_law_due"])
  | j + 1 => step__law_alike T (all__law_alike T j)
theorem ok__law_alike (T : Txt K mg) : FnOk P w K mg base CX0 9 T.a__law_alike T.d__law_alike ["_law_found", "_law_due"] (spMv K 2 (g__law_alike 9)) := all__law_alike T 9
theorem ok__law_bent (T : Txt K mg) : FnOk P w K mg base CX0 2 T.a__law_bent T.d__law_bent ["_law_box", "_law_mine", "_law_way"] (spMv K 3 g__law_bent) := by
  refine fn_mv T.F__law_bent sc__law_bent (fun cdv A outer s H E as hr => ?_)
  exact ⟨_, (pss_cons (ps_if (PW.pt (pw_or (pt_cmpR (r := rEqD K) (op_eqD hr.units) (pv 1) (pe_lst pa_nil) (nomark _)) (pw_or1 (pt_cmpR op_gt (pv 2) pe_int (nomark _))))) (pss_one (ps_ret (pv 1))) pss_nil)
    (pss_cons (ps_set (i := 3) sc__law_bent.nd rfl (Or.inl rfl) (pe_call (ok__law_take T) (hr.mono (by decide)) rfl T.m__law_take T.F__law_take.kp T.b__law_take .nil pass0 (pa_cons (pv 0) (pa_cons (pe_callB (r := rLenK K) call_lenK (by rfl) T.n_len PySem.boot_len (pa_cons (pv 1) pa_nil)) pa_nil))))
    (pss_cons (ps_if (pt_cmpR op_eq (pv 2) pe_int (nomark _)) (pss_one (ps_ret (pe_op (r := rCatS K) op_catS (pe_op (r := rCatS K) op_catS (pe_slice (r := rSlL K) sl_list (pv 1) po_none (po_some (pv 3))) (pe_revL (pe_slice (r := rSlL K) sl_list (pv 1) (po_some (pv 3)) (po_some (pe_op op_add (pv 3) pe_int))))) (pe_slice (r := rSlL K) sl_list (pv 1) (po_some (pe_op op_add (pv 3) pe_int)) po_none)))) pss_nil)
    (pss_cons (ps_if (pt_cmpR op_eq (pv 2) pe_int (nomark _)) (pss_cons (ps_set (i := 4) sc__law_bent.nd rfl (Or.inl rfl) (pe_op op_mod (pe_op op_add (pe_ix (r := rIxT K) ix_tup (pe_ix (r := rIxL K) ix_list (pv 1) (pv 3) (fun _ _ => rfl)) pe_int (fun _ _ => rfl)) pe_int) pe_int))
    (pss_one (ps_ret (pe_op (r := rCatS K) op_catS (pe_op (r := rCatS K) op_catS (pe_slice (r := rSlL K) sl_list (pv 1) po_none (po_some (pv 3))) (pe_lst (pa_cons (pe_op (r := rCatF K) op_catF (pe_op (r := rCatF K) op_catF (pe_slice (r := rSlF K) sl_tupF (pe_ix (r := rIxL K) ix_list (pv 1) (pv 3) (fun _ _ => rfl)) po_none (po_some pe_int)) (pe_tupF (pa_cons (pv 4) pa_nil))) (pe_slice (r := rSlF K) sl_tupF (pe_ix (r := rIxL K) ix_list (pv 1) (pv 3) (fun _ _ => rfl)) (po_some pe_int) po_none)) pa_nil))) (pe_slice (r := rSlL K) sl_list (pv 1) (po_some (pe_op op_add (pv 3) pe_int)) po_none))))) pss_nil)
    (pss_one (ps_ret (pe_op (r := rCatS K) op_catS (pe_slice (r := rSlL K) sl_list (pv 1) po_none (po_some (pv 3))) (pe_slice (r := rSlL K) sl_list (pv 1) (po_some (pe_op op_add (pv 3) pe_int)) po_none)))))))),
    fun W => (s_seq (s_if (e_pureT (p_or (p_test (p_op rv_eqD (p_var (i := 1) (by decide)) (p_lst p_nil))) (p_test (p_op rv_gt (p_var (i := 2) (by decide)) (p_c (d := .int 2)))))) (s_ret (e_move (i := 1) (by decide))) s_next)
    (s_seq (s_set (by decide) (e_call (p_cons (p_var (i := 0) (by decide)) (p_cons (p_len (p_var (i := 1) (by decide))) p_nil)) (dl_cons (dl_cons dl_nil))))
    (s_seq (s_if (e_pureT (p_test (p_op rv_eq (p_var (i := 2) (by decide)) (p_c (d := .int 0))))) (s_ret (e_pure (p_opS rv_catL (p_opS rv_catL (p_sliceL (p_var (i := 1) (by decide)) p_noPart (p_part (p_var (i := 3) (by decide)))) (p_revL (p_sliceL (p_var (i := 1) (by decide)) (p_part (p_var (i := 3) (by decide))) (p_part (p_op rv_add (p_var (i := 3) (by decide)) (p_c (d := .int 2))))))) (p_sliceL (p_var (i := 1) (by decide)) (p_part (p_op rv_add (p_var (i := 3) (by decide)) (p_c (d := .int 2)))) p_noPart)))) s_next)
    (s_seq (s_if (e_pureT (p_test (p_op rv_eq (p_var (i := 2) (by decide)) (p_c (d := .int 1))))) (s_seq (s_alias (by decide) (p_op rv_mod (p_op rv_add (p_ixT (p_ixL (p_var (i := 1) (by decide)) (p_var (i := 3) (by decide))) (p_c (d := .int 5))) (p_c (d := .int 1))) (p_c (d := .int 1000))))
    (s_ret (e_pure (p_opS rv_catL (p_opS rv_catL (p_sliceL (p_var (i := 1) (by decide)) p_noPart (p_part (p_var (i := 3) (by decide)))) (p_lst (p_cons (p_opS rv_catT (p_opS rv_catT (p_sliceT (p_ixL (p_var (i := 1) (by decide)) (p_var (i := 3) (by decide))) p_noPart (p_part (p_c (d := .int 5)))) (p_tup (p_cons (p_var (i := 4) (by decide)) p_nil))) (p_sliceT (p_ixL (p_var (i := 1) (by decide)) (p_var (i := 3) (by decide))) (p_part (p_c (d := .int 6))) p_noPart)) p_nil))) (p_sliceL (p_var (i := 1) (by decide)) (p_part (p_op rv_add (p_var (i := 3) (by decide)) (p_c (d := .int 1)))) p_noPart))))) s_next)
    (s_ret (e_pure (p_opS rv_catL (p_sliceL (p_var (i := 1) (by decide)) p_noPart (p_part (p_var (i := 3) (by decide)))) (p_sliceL (p_var (i := 1) (by decide)) (p_part (p_op rv_add (p_var (i := 3) (by decide)) (p_c (d := .int 1)))) p_noPart))))))))⟩
theorem ok__law_parted (T : Txt K mg) : FnOk P w K mg base CX0 3 T.a__law_parted T.d__law_parted ["_law_box", "_law_many"] (spMv K 2 g__law_parted) := by
  refine fn_mv T.F__law_parted sc__law_parted (fun cdv A outer s H E as hr => ?_)
  have hu := hu_of hr
  exact ⟨_, (pss_cons (ps_setLc (i := 2) (own := [("_law_k", 13)]) rfl sc__law_parted.nd rfl rfl (sw_true rfl rfl rfl (by decide +kernel)) (pi_range1 (by rfl) T.n_range (pa_cons (pv 1) pa_nil)) (blkOk_by (N := ["_law_box", "_law_many", "_law_rows", "_law_slots", "_law_numbers", "_law_make", "_law_turn", "_law_slot", "_law_asker", "_law_more", "_law_count", "_law_worth", "_law_deed", "_law_k"]) (sc := defScope s__law_parted) (by decide +kernel)) (fun _ _ _ _ _ => pg_name (i := 13) sc__law_parted.nd rfl (Or.inl rfl)) (fun _ _ _ _ _ => pts_nil) (fun _ _ _ _ _ => (pe_lst pa_nil)))
    (pss_cons (ps_par3 (i := 3) (j := 4) (l := 5) (by rfl) sc__law_parted.nd rfl rfl rfl (by decide) (by decide) (by decide) rfl rfl rfl (pa_cons pe_dnewK (pa_cons pe_dnewK (pa_cons pe_int pa_nil))) (by rfl))
    (pss_cons (ps_for PassesOwn.never rfl (pi_range1 (by rfl) T.n_range (pa_cons (pe_call (ok__law_take T) (hr.mono (by decide)) rfl T.m__law_take T.F__law_take.kp T.b__law_take .nil pass0 (pa_cons (pv 0) (pa_cons pe_int pa_nil))) pa_nil)) (pg_name (i := 6) sc__law_parted.nd rfl (Or.inl rfl)) (pss_cons (ps_par (i := 7) (j := 8) (by rfl) sc__law_parted.nd rfl rfl (by decide) rfl rfl (pa_cons (pe_call (ok__law_take T) (hr.mono (by decide)) rfl T.m__law_take T.F__law_take.kp T.b__law_take .nil pass0 (pa_cons (pv 0) (pa_cons pe_int pa_nil))) (pa_cons (pe_call (ok__law_take T) (hr.mono (by decide)) rfl T.m__law_take T.F__law_take.kp T.b__law_take .nil pass0 (pa_cons (pv 0) (pa_cons pe_int pa_nil))) pa_nil)) (by rfl))
    (pss_cons (ps_set (i := 9) sc__law_parted.nd rfl (Or.inl rfl) (pe_op op_sub (pe_call (ok__law_take T) (hr.mono (by decide)) rfl T.m__law_take T.F__law_take.kp T.b__law_take .nil pass0 (pa_cons (pv 0) (pa_cons pe_int pa_nil))) pe_int))
    (pss_cons (ps_set (i := 5) sc__law_parted.nd rfl (Or.inl rfl) (pe_op op_add (pv 5) (pe_op op_fdiv (pe_call (ok__law_take T) (hr.mono (by decide)) rfl T.m__law_take T.F__law_take.kp T.b__law_take .nil pass0 (pa_cons (pv 0) (pa_cons pe_int pa_nil))) pe_int)))
    (pss_cons (ps_asg (pe_dget2 hu (pv 3) (pv 7) (pe_tupF (pa_cons pe_int (pa_cons pe_int pa_nil))) ⟨rfl, rfl, rfl, rfl⟩) (pg_tup rfl (pgs_cons (pg_name (i := 10) sc__law_parted.nd rfl (Or.inl rfl)) (pgs_cons (pg_name (i := 11) sc__law_parted.nd rfl (Or.inl rfl)) pgs_nil))))
    (pss_cons (ps_dput hu (pv 3) (pv 7) (pe_tupF (pa_cons (pe_op op_add (pv 10) pe_int) (pa_cons (pe_op op_mod (pe_op op_add (pv 11) (pv 9)) pe_int) pa_nil))) rfl)
    (pss_cons (ps_dput hu (pv 4) (pv 8) (pe_op op_add (pe_dget2 hu (pv 4) (pv 8) pe_int ⟨rfl, rfl, rfl, rfl⟩) pe_int) rfl)
    (pss_cons (ps_set (i := 12) sc__law_parted.nd rfl (Or.inl rfl) (pe_tupF (pa_cons (pv 7) (pa_cons (pe_op op_add (pv 10) pe_int) (pa_cons (pv 8) (pa_cons (pe_dget hu (pv 4) (pv 8) (fun _ _ => rfl)) pa_nil))))))
    (pss_one (ps_expr (pe_K (t := fun K => tBM K "list" rAppend _ _) (pe_bm PySem.F.plainAttrs_list PySem.F.slot_list_append PySem.F.type_list_append mt_append (pe_ix (r := rIxL K) ix_list (pv 2) (pe_call (ok__law_take T) (hr.mono (by decide)) rfl T.m__law_take T.F__law_take.kp T.b__law_take .nil pass0 (pa_cons (pv 0) (pa_cons (pv 1) pa_nil))) (fun _ _ => rfl)) (pa_cons (pe_op (r := rCatF K) op_catF (pv 12) (pe_tupF (pa_cons (pv 9) (pa_cons (pe_ix (r := rIxT K) ix_tup (pe_dget hu (pv 3) (pv 7) (fun _ _ => rfl)) pe_int (fun _ _ => rfl)) (pa_cons (pv 5) pa_nil))))) pa_nil)))))))))))))
    (pss_cons (ps_set (i := 13) sc__law_parted.nd rfl (Or.inl rfl) (pe_call (ok__law_take T) (hr.mono (by decide)) rfl T.m__law_take T.F__law_take.kp T.b__law_take .nil pass0 (pa_cons (pv 0) (pa_cons (pv 1) pa_nil))))
    (pss_cons (ps_asg (pe_call (ok__law_bent T) (hr.mono (by decide)) rfl T.m__law_bent T.F__law_bent.kp T.b__law_bent .nil pass0 (pa_cons (pv 0) (pa_cons (pe_ix (r := rIxL K) ix_list (pv 2) (pv 13) (fun _ _ => rfl)) (pa_cons (pe_call (ok__law_take T) (hr.mono (by decide)) rfl T.m__law_take T.F__law_take.kp T.b__law_take .nil pass0 (pa_cons (pv 0) (pa_cons pe_int pa_nil))) pa_nil)))) (pg_sub (pv 2) (pv 13) set_list))
    (pss_one (ps_ret (pv 2)))))))),
    fun W => (s_seq (s_set (by decide) (e_lc (by decide) (i_range (p_var (i := 1) (by decide))) (fun _ => e_yes) (fun _ => (e_pure (p_lst p_nil)))))
    (s_seq (s_parL3 (by decide) (by decide) (by decide) (l_consP p_newD (fun _ => (l_consP p_newD (fun _ => (l_consP (p_c (d := .int 0)) (fun _ => l_nil)))))))
    (s_seq (s_for (i_rangeE (e_call (p_cons (p_var (i := 0) (by decide)) (p_cons (p_c (d := .int 17)) p_nil)) (dl_cons (dl_cons dl_nil)))) (g_name (i := 6) (by decide)) (fun _ => (s_seq (s_parL (by decide) (by decide) (l_consE (e_call (p_cons (p_var (i := 0) (by decide)) (p_cons (p_c (d := .int 3)) p_nil)) (dl_cons (dl_cons dl_nil))) (fun _ => (l_consE (e_call (p_cons (p_var (i := 0) (by decide)) (p_cons (p_c (d := .int 3)) p_nil)) (dl_cons (dl_cons dl_nil))) (fun _ => l_nil)))))
    (s_seq (s_set (by decide) (e_op rv_sub (e_call (p_cons (p_var (i := 0) (by decide)) (p_cons (p_c (d := .int 199)) p_nil)) (dl_cons (dl_cons dl_nil))) (e_pure (p_c (d := .int 99)))))
    (s_seq (s_set (by decide) (e_op rv_add (e_pure (p_var (i := 5) (by decide))) (e_op rv_div (e_call (p_cons (p_var (i := 0) (by decide)) (p_cons (p_c (d := .int 8)) p_nil)) (dl_cons (dl_cons dl_nil))) (e_pure (p_c (d := .int 7))))))
    (s_seq (s_asg (g_tup (gs_cons (g_name (i := 10) (by decide)) (gs_cons (g_name (i := 11) (by decide)) gs_nil))) (e_pure (p_dget2 (p_var (i := 3) (by decide)) (p_var (i := 7) (by decide)) (p_tup (p_cons (p_c (d := .int 0)) (p_cons (p_c (d := .int 0)) p_nil))))))
    (s_seq (s_dput (p_var (i := 3) (by decide)) (p_var (i := 7) (by decide)) (e_pure (p_tup (p_cons (p_op rv_add (p_var (i := 10) (by decide)) (p_c (d := .int 1))) (p_cons (p_op rv_mod (p_op rv_add (p_var (i := 11) (by decide)) (p_var (i := 9) (by decide))) (p_c (d := .int 1000))) p_nil)))))
    (s_seq (s_dput (p_var (i := 4) (by decide)) (p_var (i := 8) (by decide)) (e_pure (p_op rv_add (p_dget2 (p_var (i := 4) (by decide)) (p_var (i := 8) (by decide)) (p_c (d := .int 0))) (p_c (d := .int 1)))))
    (s_seq (s_alias (by decide) (p_tup (p_cons (p_var (i := 7) (by decide)) (p_cons (p_op rv_add (p_var (i := 10) (by decide)) (p_c (d := .int 1))) (p_cons (p_var (i := 8) (by decide)) (p_cons (p_dget (p_var (i := 4) (by decide)) (p_var (i := 8) (by decide))) p_nil))))))
    (s_drop (e_bmAt (i := 2) (by decide) (e_call (p_cons (p_var (i := 0) (by decide)) (p_cons (p_var (i := 1) (by decide)) p_nil)) (dl_cons (dl_cons dl_nil))) (fun k => e_bm1 nd_append (p_ixL (p_var (i := 2) (by decide)) (p_c (d := .int k))) (p_opS rv_catT (p_var (i := 12) (by decide)) (p_tup (p_cons (p_var (i := 9) (by decide)) (p_cons (p_ixT (p_dget (p_var (i := 3) (by decide)) (p_var (i := 7) (by decide))) (p_c (d := .int 1))) (p_cons (p_var (i := 5) (by decide)) p_nil)))))))))))))))))
    (s_seq (s_set (by decide) (e_call (p_cons (p_var (i := 0) (by decide)) (p_cons (p_var (i := 1) (by decide)) p_nil)) (dl_cons (dl_cons dl_nil))))
    (s_seq (s_lset (p_var (i := 2) (by decide)) (p_var (i := 13) (by decide)) (e_callE (l_consP (p_var (i := 0) (by decide)) (fun _ => (l_consE (e_sealP (p_ixL (p_var (i := 2) (by decide)) (p_var (i := 13) (by decide)))) (fun _ => (l_consE (e_call (p_cons (p_var (i := 0) (by decide)) (p_cons (p_c (d := .int 6)) p_nil)) (dl_cons (dl_cons dl_nil))) (fun _ => l_nil))))))))
    (s_ret (e_move (i := 2) (by decide))))))))⟩
theorem ok__law_lets (T : Txt K mg) : FnOk P w K mg base CX0 1 T.a__law_lets T.d__law_lets ["_law_ahead", "_law_deed"] (spMv K 2 g__law_lets) := by
  refine fn_mv T.F__law_lets sc__law_lets (fun cdv A outer s H E as hr => ?_)
  exact ⟨_, (pss_cons (ps_asg (pv 1) (pg_tup rfl (pgs_cons (pg_name (i := 2) sc__law_lets.nd rfl (Or.inr rfl)) (pgs_cons (pg_name (i := 3) sc__law_lets.nd rfl (Or.inl rfl)) (pgs_cons (pg_name (i := 4) sc__law_lets.nd rfl (Or.inr rfl)) (pgs_cons (pg_name (i := 5) sc__law_lets.nd rfl (Or.inl rfl)) (pgs_cons (pg_name (i := 6) sc__law_lets.nd rfl (Or.inl rfl)) (pgs_cons (pg_name (i := 7) sc__law_lets.nd rfl (Or.inl rfl)) (pgs_cons (pg_name (i := 8) sc__law_lets.nd rfl (Or.inl rfl)) pgs_nil)))))))))
    (pss_cons (ps_setLc (i := 9) (own := [("_law_place", 10), ("_law_one", 11)]) rfl sc__law_lets.nd rfl rfl (sw_true rfl rfl rfl (by decide +kernel)) (pi_list (pv 0)) (blkOk_by (N := ["_law_ahead", "_law_deed", "_law_slot", "_law_count", "_law_asker", "_law_number", "_law_more", "_law_worth", "_law_make", "_law_mine", "_law_place", "_law_one"]) (sc := defScope s__law_lets) (by decide +kernel)) (fun _ _ _ _ _ => pg_tup rfl (pgs_cons (pg_name (i := 10) sc__law_lets.nd rfl (Or.inl rfl)) (pgs_cons (pg_name (i := 11) sc__law_lets.nd rfl (Or.inl rfl)) pgs_nil))) (fun _ _ _ _ _ => pts_one (pt_cmpR op_eq (pe_ix (r := rIxT K) ix_tup (pv 11) pe_int (fun _ _ => rfl)) (pv 2) (nomark _))) (fun _ _ _ _ _ => (pv 11)))
    (pss_cons (ps_if (pt_cmpR op_ne (pv 3) (pe_op op_add (pe_ix (r := rIxL K) ix_list (pe_op (r := rCatS K) op_catS (pe_lst (pa_cons pe_int pa_nil)) (pe_lc (own := [("_law_one", 11)]) rfl sc__law_lets.nd (pi_list (pv 9)) (blkOk_by (N := ["_law_ahead", "_law_deed", "_law_slot", "_law_count", "_law_asker", "_law_number", "_law_more", "_law_worth", "_law_make", "_law_mine", "_law_place", "_law_one"]) (sc := defScope s__law_lets) (by decide +kernel)) (fun _ _ _ _ _ => pg_name (i := 11) sc__law_lets.nd rfl (Or.inl rfl)) (fun _ _ _ _ _ => pts_nil) (fun _ _ _ _ _ => (pe_ix (r := rIxT K) ix_tup (pv 11) pe_int (fun _ _ => rfl))))) (pe_un un_neg pe_int) (fun _ _ => rfl)) pe_int) (nomark _)) (pss_one (ps_ret pe_bl)) pss_nil)
    (pss_cons (ps_if (pt_cmpR op_ne (pv 7) (pe_op op_mod (pe_op op_add (pe_ix (r := rIxL K) ix_list (pe_op (r := rCatS K) op_catS (pe_lst (pa_cons pe_int pa_nil)) (pe_lc (own := [("_law_one", 11)]) rfl sc__law_lets.nd (pi_list (pv 9)) (blkOk_by (N := ["_law_ahead", "_law_deed", "_law_slot", "_law_count", "_law_asker", "_law_number", "_law_more", "_law_worth", "_law_make", "_law_mine", "_law_place", "_law_one"]) (sc := defScope s__law_lets) (by decide +kernel)) (fun _ _ _ _ _ => pg_name (i := 11) sc__law_lets.nd rfl (Or.inl rfl)) (fun _ _ _ _ _ => pts_nil) (fun _ _ _ _ _ => (pe_ix (r := rIxT K) ix_tup (pv 11) pe_int (fun _ _ => rfl))))) (pe_un un_neg pe_int) (fun _ _ => rfl)) (pv 6)) pe_int) (nomark _)) (pss_one (ps_ret pe_bl)) pss_nil)
    (pss_cons (ps_if (pt_cmpR op_ne (pv 5) (pe_op op_add (pe_ix (r := rIxL K) ix_list (pe_op (r := rCatS K) op_catS (pe_lst (pa_cons pe_int pa_nil)) (pe_lc (own := [("_law_place", 10), ("_law_one", 11)]) rfl sc__law_lets.nd (pi_list (pv 0)) (blkOk_by (N := ["_law_ahead", "_law_deed", "_law_slot", "_law_count", "_law_asker", "_law_number", "_law_more", "_law_worth", "_law_make", "_law_mine", "_law_place", "_law_one"]) (sc := defScope s__law_lets) (by decide +kernel)) (fun _ _ _ _ _ => pg_tup rfl (pgs_cons (pg_name (i := 10) sc__law_lets.nd rfl (Or.inl rfl)) (pgs_cons (pg_name (i := 11) sc__law_lets.nd rfl (Or.inl rfl)) pgs_nil))) (fun _ _ _ _ _ => pts_one (pt_cmpR op_eq (pe_ix (r := rIxT K) ix_tup (pv 11) pe_int (fun _ _ => rfl)) (pv 4) (nomark _))) (fun _ _ _ _ _ => (pe_ix (r := rIxT K) ix_tup (pv 11) pe_int (fun _ _ => rfl))))) (pe_un un_neg pe_int) (fun _ _ => rfl)) pe_int) (nomark _)) (pss_one (ps_ret pe_bl)) pss_nil)
    (pss_one (ps_ret (pe_cmpR op_ge (pv 8) (pe_ix (r := rIxL K) ix_list (pe_op (r := rCatS K) op_catS (pe_lst (pa_cons pe_int pa_nil)) (pe_lc (own := [("_law_place", 10), ("_law_one", 11)]) rfl sc__law_lets.nd (pi_list (pv 0)) (blkOk_by (N := ["_law_ahead", "_law_deed", "_law_slot", "_law_count", "_law_asker", "_law_number", "_law_more", "_law_worth", "_law_make", "_law_mine", "_law_place", "_law_one"]) (sc := defScope s__law_lets) (by decide +kernel)) (fun _ _ _ _ _ => pg_tup rfl (pgs_cons (pg_name (i := 10) sc__law_lets.nd rfl (Or.inl rfl)) (pgs_cons (pg_name (i := 11) sc__law_lets.nd rfl (Or.inl rfl)) pgs_nil))) (fun _ _ _ _ _ => pts_nil) (fun _ _ _ _ _ => (pe_ix (r := rIxT K) ix_tup (pv 11) pe_int (fun _ _ => rfl))))) (pe_un un_neg pe_int) (fun _ _ => rfl)) (nomark _))))))))),
    fun W => (s_seq (s_asg (g_tup (gs_cons (g_name (i := 2) (by decide)) (gs_cons (g_name (i := 3) (by decide)) (gs_cons (g_name (i := 4) (by decide)) (gs_cons (g_name (i := 5) (by decide)) (gs_cons (g_name (i := 6) (by decide)) (gs_cons (g_name (i := 7) (by decide)) (gs_cons (g_name (i := 8) (by decide)) gs_nil)))))))) (e_pure (p_var (i := 1) (by decide))))
    (s_seq (s_set (by decide) (e_lcG (js := [10, 11]) (by decide) (i_lst (p_var (i := 0) (by decide))) (gw_tup (gsw_cons (gw_name (i := 10) (by decide) (by decide)) (gsw_cons (gw_name (i := 11) (by decide) (by decide)) gsw_nil))) (fun _ => (e_pureT (p_test (p_op rv_eq (p_ixT (p_var (i := 11) (by decide)) (p_c (d := .int 0))) (p_var (i := 2) (by decide)))))) (fun _ => (e_pure (p_var (i := 11) (by decide))))))
    (s_seq (s_if (e_test (e_op rv_ne (e_pure (p_var (i := 3) (by decide))) (e_op rv_add (e_op2E (fun a b => p_ixL a b) (l_consE (e_op2E (fun a b => (p_opS rv_catL) a b) (l_consP (p_lst (p_cons (p_c (d := .int 0)) p_nil)) (fun _ => (l_consE (e_lc (by decide) (i_lst (p_var (i := 9) (by decide))) (fun _ => e_yes) (fun _ => (e_pure (p_ixT (p_var (i := 11) (by decide)) (p_c (d := .int 1)))))) (fun _ => l_nil))))) (fun _ => (l_consP (p_neg (p_c (d := .int 1))) (fun _ => l_nil))))) (e_pure (p_c (d := .int 1)))))) (s_ret (e_pure (p_c (d := .bool false)))) s_next)
    (s_seq (s_if (e_test (e_op rv_ne (e_pure (p_var (i := 7) (by decide))) (e_op rv_mod (e_op rv_add (e_op2E (fun a b => p_ixL a b) (l_consE (e_op2E (fun a b => (p_opS rv_catL) a b) (l_consP (p_lst (p_cons (p_c (d := .int 0)) p_nil)) (fun _ => (l_consE (e_lc (by decide) (i_lst (p_var (i := 9) (by decide))) (fun _ => e_yes) (fun _ => (e_pure (p_ixT (p_var (i := 11) (by decide)) (p_c (d := .int 5)))))) (fun _ => l_nil))))) (fun _ => (l_consP (p_neg (p_c (d := .int 1))) (fun _ => l_nil))))) (e_pure (p_var (i := 6) (by decide)))) (e_pure (p_c (d := .int 1000)))))) (s_ret (e_pure (p_c (d := .bool false)))) s_next)
    (s_seq (s_if (e_test (e_op rv_ne (e_pure (p_var (i := 5) (by decide))) (e_op rv_add (e_op2E (fun a b => p_ixL a b) (l_consE (e_op2E (fun a b => (p_opS rv_catL) a b) (l_consP (p_lst (p_cons (p_c (d := .int 0)) p_nil)) (fun _ => (l_consE (e_lcG (js := [10, 11]) (by decide) (i_lst (p_var (i := 0) (by decide))) (gw_tup (gsw_cons (gw_name (i := 10) (by decide) (by decide)) (gsw_cons (gw_name (i := 11) (by decide) (by decide)) gsw_nil))) (fun _ => (e_pureT (p_test (p_op rv_eq (p_ixT (p_var (i := 11) (by decide)) (p_c (d := .int 2))) (p_var (i := 4) (by decide)))))) (fun _ => (e_pure (p_ixT (p_var (i := 11) (by decide)) (p_c (d := .int 3)))))) (fun _ => l_nil))))) (fun _ => (l_consP (p_neg (p_c (d := .int 1))) (fun _ => l_nil))))) (e_pure (p_c (d := .int 1)))))) (s_ret (e_pure (p_c (d := .bool false)))) s_next)
    (s_ret (e_op rv_ge (e_pure (p_var (i := 8) (by decide))) (e_op2E (fun a b => p_ixL a b) (l_consE (e_op2E (fun a b => (p_opS rv_catL) a b) (l_consP (p_lst (p_cons (p_c (d := .int 0)) p_nil)) (fun _ => (l_consE (e_lcG (js := [10, 11]) (by decide) (i_lst (p_var (i := 0) (by decide))) (gw_tup (gsw_cons (gw_name (i := 10) (by decide) (by decide)) (gsw_cons (gw_name (i := 11) (by decide) (by decide)) gsw_nil))) (fun _ => e_yes) (fun _ => (e_pure (p_ixT (p_var (i := 11) (by decide)) (p_c (d := .int 6)))))) (fun _ => l_nil))))) (fun _ => (l_consP (p_neg (p_c (d := .int 1))) (fun _ => l_nil))))))))))))⟩
theorem step__law_first (T : Txt K mg) {g : Addr → PyData → PyData → List NK → Option (S × List NK)} {k : Nat} (G : FnOk P w K mg base CX0 (k + 1) T.a__law_first T.d__law_first ["_law_rows", "_law_ahead", "_law_known"] (spZ P w K g)) : FnOk P w K mg base CX0 (k + 2) T.a__law_first T.d__law_first ["_law_rows", "_law_ahead", "_law_known"] (spZ P w K (fnZ 10 (f__law_first g))) := by
  refine fn_z T.F__law_first sc__law_first rfl (fun cdv A outer s H E as hr => ?_)
  have hu := hu_of hr
  have hu2 : (A.deeper (envOfC "_law_first" (defScope s__law_first) s.heap.objs.size T.a__law_first cdv)).units + 2 < cLine := Nat.lt_of_le_of_lt (Nat.add_le_add_left (by decide : 2 ≤ 64) _) hr.units
  exact ⟨_, (pss_cons (ps_set (i := 3) sc__law_first.nd rfl (Or.inl rfl) (pe_callTy (r := rTupQ K) cr_tupQ (by rfl) T.n_tuple (by decide +kernel) (pa_cons (pe_lc (own := [("_law_k", 5)]) rfl sc__law_first.nd (pi_range1 (by rfl) T.n_range (pa_cons (pe_callB (r := rLenK K) call_lenK (by rfl) T.n_len PySem.boot_len (pa_cons (pv 0) pa_nil)) pa_nil)) (blkOk_by (N := ["_law_rows", "_law_ahead", "_law_known", "_law_places", "_law_last", "_law_k", "_law_found", "_law_place", "_law_one", "_law_row"]) (sc := defScope s__law_first) (by decide +kernel)) (fun _ _ _ _ _ => pg_name (i := 5) sc__law_first.nd rfl (Or.inr rfl)) (fun _ _ _ _ _ => pts_nil) (fun _ _ _ _ _ => (pe_callB (r := rLenK K) call_lenK (by rfl) T.n_len PySem.boot_len (pa_cons (pe_lc (own := [("_law_place", 7), ("_law_one", 8)]) rfl sc__law_first.nd (pi_list (pv 1)) (blkOk_by rfl) (fun _ _ _ _ _ => pg_tup rfl (pgs_cons (pg_name (i := 7) sc__law_first.nd rfl (Or.inl rfl)) (pgs_cons (pg_name (i := 8) sc__law_first.nd rfl (Or.inl rfl)) pgs_nil))) (fun _ _ _ _ _ => pts_one (pt_cmpR op_eq (pv 7) (pv 5) (nomark _))) (fun _ _ _ _ _ => (pv 8))) pa_nil)))) pa_nil)))
    (pss_cons (ps_if (pt_cmpR (r := rEqD K) (op_eqD hr.units) (pv 3) (pe_callTy (r := rTupQ K) cr_tupQ (by rfl) T.n_tuple (by decide +kernel) (pa_cons (pe_lc (own := [("_law_row", 9)]) rfl sc__law_first.nd (pi_list (pv 0)) (blkOk_by (N := ["_law_rows", "_law_ahead", "_law_known", "_law_places", "_law_last", "_law_k", "_law_found", "_law_place", "_law_one", "_law_row"]) (sc := defScope s__law_first) (by decide +kernel)) (fun _ _ _ _ _ => pg_name (i := 9) sc__law_first.nd rfl (Or.inl rfl)) (fun _ _ _ _ _ => pts_nil) (fun _ _ _ _ _ => (pe_callB (r := rLenK K) call_lenK (by rfl) T.n_len PySem.boot_len (pa_cons (pv 9) pa_nil)))) pa_nil)) (nomark _)) (pss_one (ps_ret (pe_callTy (r := rListOfK K) call_listK (by rfl) T.n_list (by decide +kernel) (pa_cons (pv 1) pa_nil)))) pss_nil)
    (pss_cons (ps_set (i := 4) sc__law_first.nd rfl (Or.inl rfl) (pe_ifExp (pt_cmpR (r := rNeD K) (op_neD hr.units) (pv 1) (pe_lst pa_nil) (nomark _)) (pe_ix (r := rIxT K) ix_tup (pe_ix (r := rIxT K) ix_tup (pe_ix (r := rIxL K) ix_list (pv 1) (pe_un un_neg pe_int) (fun _ _ => rfl)) pe_int (fun _ _ => rfl)) pe_int (fun _ _ => rfl)) pe_int))
    (pss_cons (ps_if (pt_cmp (pc_nin hu2 (pe_tupF (pa_cons (pv 3) (pa_cons (pv 4) pa_nil))) (pv 2))) (pss_one (ps_ret pe_non)) pss_nil)
    (pss_cons (ps_for PassesOwn.never rfl (pi_range1 (by rfl) T.n_range (pa_cons (pe_callB (r := rLenK K) call_lenK (by rfl) T.n_len PySem.boot_len (pa_cons (pv 0) pa_nil)) pa_nil)) (pg_name (i := 5) sc__law_first.nd rfl (Or.inl rfl)) (pss_one (ps_if (PW.pt (pw_and (pt_cmpR op_lt (pe_ix (r := rIxT K) ix_tup (pv 3) (pv 5) (fun _ _ => rfl)) (pe_callB (r := rLenK K) call_lenK (by rfl) T.n_len PySem.boot_len (pa_cons (pe_ix (r := rIxL K) ix_list (pv 0) (pv 5) (fun _ _ => rfl)) pa_nil)) (nomark _)) (pw_and1 (pt_val (pe_call (ok__law_lets T) (hr.mono (Nat.le_add_left 1 _)) rfl T.m__law_lets T.F__law_lets.kp T.b__law_lets .nil pass0 (pa_cons (pv 1) (pa_cons (pe_ix (r := rIxL K) ix_list (pe_ix (r := rIxL K) ix_list (pv 0) (pv 5) (fun _ _ => rfl)) (pe_ix (r := rIxT K) ix_tup (pv 3) (pv 5) (fun _ _ => rfl)) (fun _ _ => rfl)) pa_nil))))))) (pss_cons (ps_set (i := 6) sc__law_first.nd rfl (Or.inl rfl) (pe_call G (hr.mono (Nat.le_refl _)) rfl T.m__law_first T.F__law_first.kp T.b__law_first .nil pass0 (pa_cons (pv 0) (pa_cons (pe_op (r := rCatS K) op_catS (pv 1) (pe_lst (pa_cons (pe_tupF (pa_cons (pv 5) (pa_cons (pe_ix (r := rIxL K) ix_list (pe_ix (r := rIxL K) ix_list (pv 0) (pv 5) (fun _ _ => rfl)) (pe_ix (r := rIxT K) ix_tup (pv 3) (pv 5) (fun _ _ => rfl)) (fun _ _ => rfl)) pa_nil))) pa_nil))) (pa_cons (pv 2) pa_nil))))) (pss_one (ps_if (pt_cmpR op_notN (pv 6) pe_non (nomark _)) (pss_one (ps_ret (pv 6))) pss_nil))) pss_nil)))
    (pss_cons (ps_nput hu2 (pv 2) (pe_tupF (pa_cons (pv 3) (pa_cons (pv 4) pa_nil))) pe_bl rfl)
    (pss_one (ps_ret pe_non)))))))),
    fun a => (z_seq (z_lift (fun W => (s_set (by decide) (e_cs1 rc_tuple (e_lc (by decide) (i_range (p_len (p_var (i := 0) (by decide)))) (fun _ => e_yes) (fun _ => (e_un1E (t1 := fun te => tCB _ (tCons te tNil)) (fun _ _ _ _ => rfl) (fun a => p_len a) (l_consE (e_lcG (js := [7, 8]) (by decide) (i_lst (p_var (i := 1) (by decide))) (gw_tup (gsw_cons (gw_name (i := 7) (by decide) (by decide)) (gsw_cons (gw_name (i := 8) (by decide) (by decide)) gsw_nil))) (fun _ => (e_pureT (p_test (p_op rv_eq (p_var (i := 7) (by decide)) (p_var (i := 5) (by decide)))))) (fun _ => (e_pure (p_var (i := 8) (by decide))))) (fun _ => l_nil)))))))))
    (z_seq (z_lift (fun W => (s_if (e_test (e_op2E (fun a b => (p_op rv_eqD) a b) (l_consP (p_var (i := 3) (by decide)) (fun _ => (l_consE (e_cs1 rc_tuple (e_lc (by decide) (i_lst (p_var (i := 0) (by decide))) (fun _ => e_yes) (fun _ => (e_pure (p_len (p_var (i := 9) (by decide))))))) (fun _ => l_nil)))))) (s_ret (e_pure (p_cs rc_list (p_cons (p_var (i := 1) (by decide)) p_nil)))) s_next)))
    (z_seq (z_lift (fun W => (s_alias (by decide) (p_ifE (p_test (p_op rv_neD (p_var (i := 1) (by decide)) (p_lst p_nil))) (p_ixT (p_ixT (p_ixL (p_var (i := 1) (by decide)) (p_neg (p_c (d := .int 1)))) (p_c (d := .int 1))) (p_c (d := .int 6))) (p_c (d := .int 0))))))
    (z_seq (z_if (z_in (j := 2) (by decide) (e_pure (p_tup (p_cons (p_var (i := 3) (by decide)) (p_cons (p_var (i := 4) (by decide)) p_nil))))) (z_lift (fun W => (s_ret (e_pure (p_c (d := .none)))))) (z_lift (fun W => s_next)))
    (z_seq (z_for (p_len (p_var (i := 0) (by decide))) (g_name (i := 5) (by decide)) (z_if (zt_lift (e_and (e_pureT (p_test (p_op rv_lt (p_ixT (p_var (i := 3) (by decide)) (p_var (i := 5) (by decide))) (p_len (p_ixL (p_var (i := 0) (by decide)) (p_var (i := 5) (by decide))))))) (e_tB (e_call (p_cons (p_var (i := 1) (by decide)) (p_cons (p_ixL (p_ixL (p_var (i := 0) (by decide)) (p_var (i := 5) (by decide))) (p_ixT (p_var (i := 3) (by decide)) (p_var (i := 5) (by decide)))) p_nil)) (dl_cons (dl_cons dl_nil)))))) (z_seq (z_call (i := 6) (j := 2) (by decide) (by decide) (p_var (i := 0) (by decide)) (e_seal (e_pure (p_opS rv_catL (p_var (i := 1) (by decide)) (p_lst (p_cons (p_tup (p_cons (p_var (i := 5) (by decide)) (p_cons (p_ixL (p_ixL (p_var (i := 0) (by decide)) (p_var (i := 5) (by decide))) (p_ixT (p_var (i := 3) (by decide)) (p_var (i := 5) (by decide)))) p_nil))) p_nil)))))) (z_lift (fun W => (s_if (e_pureT (p_test (p_op rv_notN (p_var (i := 6) (by decide)) (p_c (d := .none))))) (s_ret (e_move (i := 6) (by decide))) s_next)))) (z_lift (fun W => s_next))))
    (z_seq (z_put (j := 2) (by decide) (e_pure (p_tup (p_cons (p_var (i := 3) (by decide)) (p_cons (p_var (i := 4) (by decide)) p_nil)))))
    (z_lift (fun W => (s_ret (e_pure (p_c (d := .none))))))))))))⟩
theorem all__law_first (T : Txt K mg) : ∀ j : Nat, FnOk P w K mg base CX0 (j + 1) T.a__law_first T.d__law_first ["_law_rows", "_law_ahead", "_law_known"] (spZ P w K (g__law_first j))
  | 0 => fn_zNone rfl
  | j + 1 => step__law_first T (all__law_first T j)
theorem ok__law_first (T : Txt K mg) : FnOk P w K mg base CX0 41 T.a__law_first T.d__law_first ["_law_rows", "_law_ahead", "_law_known"] (spZ P w K (g__law_first 40)) := all__law_first T 40
theorem ok_law (T : Txt K mg) : FnOk P w K mg base CX0 42 T.a_law T.d_law ["_law_script"] (spMv K 1 g_law) := by
  refine fn_mv T.F_law sc_law (fun cdv A outer s H E as hr => ?_)
  exact ⟨_, (pss_cons (ps_set (i := 1) sc_law.nd rfl (Or.inl rfl) (pe_call (ok__law_begun T) (hr.mono (by decide)) rfl T.m__law_begun T.F__law_begun.kp T.b__law_begun .nil pass0 (pa_cons (pv 0) pa_nil)))
    (pss_cons (ps_for PassesOwn.never rfl (pi_range1 (by rfl) T.n_range (pa_cons pe_int pa_nil)) (pg_name (i := 2) sc_law.nd rfl (Or.inl rfl)) (pss_cons (ps_set (i := 3) sc_law.nd rfl (Or.inl rfl) (pe_call (ok__law_parted T) (hr.mono (by decide)) rfl T.m__law_parted T.F__law_parted.kp T.b__law_parted .nil pass0 (pa_cons (pv 1) (pa_cons (pe_op op_add pe_int (pe_call (ok__law_take T) (hr.mono (by decide)) rfl T.m__law_take T.F__law_take.kp T.b__law_take .nil pass0 (pa_cons (pv 1) (pa_cons pe_int pa_nil)))) pa_nil))))
    (pss_cons (ps_set (i := 4) sc_law.nd rfl (Or.inl rfl) (pe_call (ok__law_first T) (hr.mono (by decide)) rfl T.m__law_first T.F__law_first.kp T.b__law_first .nil pass0 (pa_cons (pv 3) (pa_cons (pe_lst pa_nil) (pa_cons pe_dnewN pa_nil)))))
    (pss_cons (ps_setLc (i := 5) (own := [("_law_row", 8)]) rfl sc_law.nd rfl rfl (sw_true rfl rfl rfl (by decide +kernel)) (pi_list (pv 3)) (blkOk_by (N := ["_law_script", "_law_box", "_law_turn", "_law_rows", "_law_due", "_law_handed", "_law_again", "_law_found", "_law_row"]) (sc := defScope s_law) (by decide +kernel)) (fun _ _ _ _ _ => pg_name (i := 8) sc_law.nd rfl (Or.inl rfl)) (fun _ _ _ _ _ => pts_nil) (fun _ _ _ _ _ => (pe_callTy (r := rListOfK K) call_listK (by rfl) T.n_list (by decide +kernel) (pa_cons (pv 8) pa_nil))))
    (pss_one (ps_for PassesOwn.never rfl (pi_range1 (by rfl) T.n_range (pa_cons pe_int pa_nil)) (pg_name (i := 6) sc_law.nd rfl (Or.inl rfl)) (pss_cons (ps_set (i := 7) sc_law.nd rfl (Or.inl rfl) (pe_call (ok_in_one T) (hr.mono (by decide)) rfl T.m_in_one T.F_in_one.kp T.b_in_one .nil pass0 (pa_cons (pv 5) pa_nil)))
    (pss_cons (ps_if (PW.pt (pw_or (pt_not (pt_val (pe_call (ok__law_alike T) (hr.mono (by decide)) rfl T.m__law_alike T.F__law_alike.kp T.b__law_alike .nil pass0 (pa_cons (pv 7) (pa_cons (pv 4) pa_nil))))) (pw_or1 (pt_cmpR (r := rNeD K) (op_neD hr.units) (pv 5) (pv 3) (nomark _))))) (pss_one (ps_ret pe_bl)) pss_nil)
    (pss_one (ps_if (pt_cmpR op_notN (pv 7) pe_non (nomark _)) (pss_one (ps_expr (pe_K (t := fun K => tBM K "list" rAppend _ _) (pe_bm PySem.F.plainAttrs_list PySem.F.slot_list_append PySem.F.type_list_append mt_append (pv 7) (pa_cons (pe_tupF pa_nil) pa_nil))))) pss_nil))))))))))
    (pss_one (ps_ret pe_bl)))),
    fun W => (s_seq (s_set (by decide) (e_call (p_cons (p_var (i := 0) (by decide)) p_nil) (dl_cons dl_nil)))
    (s_seq (s_for (i_range (p_c (d := .int 4))) (g_name (i := 2) (by decide)) (fun _ => (s_seq (s_set (by decide) (e_seal (e_callE (l_consP (p_var (i := 1) (by decide)) (fun _ => (l_consE (e_op rv_add (e_pure (p_c (d := .int 1))) (e_call (p_cons (p_var (i := 1) (by decide)) (p_cons (p_c (d := .int 4)) p_nil)) (dl_cons (dl_cons dl_nil)))) (fun _ => l_nil)))))))
    (s_seq (s_set (by decide) (e_seal (e_first G17_ok (p_var (i := 3) (by decide)))))
    (s_seq (s_set (by decide) (e_seal (e_lc (by decide) (i_lst (p_var (i := 3) (by decide))) (fun _ => e_yes) (fun _ => (e_pure (p_cs rc_list (p_cons (p_var (i := 8) (by decide)) p_nil)))))))
    (s_for (i_range (p_c (d := .int 2))) (g_name (i := 6) (by decide)) (fun _ => (s_seq (s_set (by decide) (e_call (p_cons (p_var (i := 5) (by decide)) p_nil) (dl_cons dl_nil)))
    (s_seq (s_if (e_or (e_not (e_tB (e_call (p_cons (p_var (i := 7) (by decide)) (p_cons (p_var (i := 4) (by decide)) p_nil)) (dl_cons (dl_cons dl_nil))))) (e_pureT (p_test (p_op rv_neD (p_var (i := 5) (by decide)) (p_var (i := 3) (by decide)))))) (s_ret (e_pure (p_c (d := .bool false)))) s_next)
    (s_if (e_pureT (p_test (p_op rv_notN (p_var (i := 7) (by decide)) (p_c (d := .none))))) (s_drop (e_bm1 nd_append (p_var (i := 7) (by decide)) (p_tup p_nil))) s_next))))))))))
    (s_ret (e_pure (p_c (d := .bool true))))))⟩
end
end K17
namespace Gn
open PySem PySem.Spec PyProof.Rows L2 Mv
theorem canLay_ints : ∀ (ns : List Int), PyData.canLayAll0 (ns.map PyData.int) = true
  | [] => rfl
  | a :: r => by simp [PyData.canLayAll0, PyData.canLay0, canLay_ints r]
theorem depth_ints : ∀ (ns : List Int), PyData.depthAll (ns.map PyData.int) = 0
  | [] => rfl
  | a :: r => by simp [PyData.depthAll, PyData.depth, depth_ints r]
theorem shaped_list (ns : List Int) : SeqAt.shaped (.list (ns.map PyData.int)) = true := by
  unfold SeqAt.shaped
  simp [PyData.canLay0, canLay_ints, PyData.depth, depth_ints]
theorem eqD_self (ns : List Int) : fEqD (.list (ns.map PyData.int)) (.list (ns.map PyData.int)) = some (.bool true) := by
  unfold fEqD
  rw [if_pos ⟨shaped_list ns, shaped_list ns⟩, SeqAt.eqv_refl _ (by simp [PyData.canLay0, canLay_ints])]
theorem lI_toD (ns : List Int) : (lI ns).toD = some (.list (ns.map .int)) := by
  show (S.toDs _).map PyData.list = _
  have : (ns.map fun i => S.dat (.int i)) = (ns.map PyData.int).map S.dat := by simp
  rw [this, toDs_dats]; rfl
theorem lI_seqL (ns : List Int) : (lI ns).seqL = some (ns.map .int) := by
  show datsS _ = _
  have : (ns.map fun i => S.dat (.int i)) = (ns.map PyData.int).map S.dat := by simp
  rw [this, datsS_dats]
theorem dCB_go {E : En} {f : List PyData → Option PyData} {dr : En → Option (List Rs)} {rs : List Rs} {ds : List PyData} {c : PyData} (h : dr E = some rs) (h2 : fulls E rs = some ds) (h3 : f ds = some c) : dCB f dr E = some (.val (.dat c)) := by
  unfold dCB; rw [h]; simp only [h2, h3]; rfl
theorem dOp_go {E : En} {f : PyData → PyData → Option PyData} {da db : En → Option Rs} {a b : Rs} {x y c : PyData} (ha : da E = some a) (hb : db E = some b) (hx : a.full E = some x) (hy : b.full E = some y) (h : f x y = some c) : dOp f da db E = some (.val (.dat c)) := by
  unfold dOp; rw [ha, hb]; simp only [hx, hy, h]; rfl
theorem ixL_I {E : En} {da db : En → Option Rs} {ns : List Int} {k : Nat} {v : Int} {r : Rs} (ha : da E = some r) (hr : r.at E = some (lI ns)) (hb : db E = some (.val (.dat (.int (k : Int))))) (h : ns[k]? = some v) : dIxL da db E = some (.val (.dat (.int v))) := by
  unfold dIxL
  rw [ha, hb]
  have hk := (List.getElem?_eq_some_iff.mp h).1
  have e1 : ixN (ns.map fun i => S.dat (.int i)).length (k : Int) = some k := ixN_in (by simpa using hk)
  simp only [hr, lI, e1, List.getElem?_map, h, Option.map_some]
  cases r <;> rfl
def kN {α : Type} (f : α → PyData) (m : List (Int × α)) : List (Key × S) := m.map fun p => (.inl p.1, .dat (f p.2))
def dL {α : Type} (f : α → PyData) (m : List α) : S := .lst (m.map fun d => S.dat (f d))
def ixK {α : Type} : List (Int × α) → Int → Option Nat
  | [], _ => none
  | p :: r, k => if p.1 = k then some 0 else (ixK r k).map (· + 1)
def getK {α : Type} : List (Int × α) → Int → Option α
  | [], _ => none
  | p :: r, k => if p.1 = k then some p.2 else getK r k
def putN {α : Type} : List (Int × α) → Int → α → List (Int × α)
  | [], k, x => [(k, x)]
  | p :: r, k, x => if p.1 = k then (p.1, x) :: r else p :: putN r k x
section
variable {α : Type} {f : α → PyData} {m : List (Int × α)} {k : Int}
theorem kix_N : kix ((kN f m).map (·.1)) (.inl k) = ixK m k := by
  induction m with
  | nil => rfl
  | cons p r ih =>
    show kix (Sum.inl p.1 :: (kN f r).map (·.1)) _ = _
    rw [kix, ih, ixK]
    by_cases h : p.1 = k
    · rw [if_pos h, if_pos (by rw [h])]
    · rw [if_neg h, if_neg (fun e => h (Sum.inl.inj e))]
theorem nodupK_N : nodupK ((kN f m).map (·.1)) = true ↔ (m.map (·.1)).Nodup := by
  induction m with
  | nil => simp [kN, nodupK]
  | cons p r ih =>
    show ((kix ((kN f r).map (·.1)) (.inl p.1)).isNone && nodupK ((kN f r).map (·.1))) = true ↔ _
    rw [Bool.and_eq_true, ih, kix_N, List.map_cons, List.nodup_cons]
    refine and_congr_left fun _ => ?_
    have go : ∀ (m : List (Int × α)) (k : Int), (ixK m k).isNone = true ↔ k ∉ m.map (·.1) := by
      intro m k
      induction m with
      | nil => simp [ixK]
      | cons q t ih2 =>
        by_cases h : q.1 = k
        · simp [ixK, h]
        · simp only [ixK, if_neg h, List.map_cons, List.mem_cons]
          constructor
          · intro z
            have : (ixK t k).isNone = true := by cases hh : ixK t k with | none => rfl | some _ => rw [hh] at z; cases z
            rintro (e | e)
            · exact h e.symm
            · exact ih2.mp this e
          · intro z
            have := ih2.mpr fun e => z (.inr e)
            cases hh : ixK t k with
            | none => rfl
            | some _ => rw [hh] at this; cases this
    exact go r p.1
theorem len_N : (kN f m).length = m.length := by simp [kN]
theorem getI_N : ∀ {m : List (Int × α)}, (match ixK m k with | some i => ((kN f m).map (·.2))[i]? | none => none) = (getK m k).map fun x => S.dat (f x)
  | [] => rfl
  | p :: r => by
    by_cases h : p.1 = k
    · simp [ixK, getK, h, kN]
    · have ih := getI_N (m := r)
      simp only [ixK, getK, if_neg h]
      cases hi : ixK r k with
      | none => rw [hi] at ih; simpa using ih
      | some i => rw [hi] at ih; simpa [kN] using ih
theorem ixK_iff : ∀ {m : List (Int × α)}, (ixK m k).isSome = (getK m k).isSome
  | [] => rfl
  | p :: r => by
    by_cases h : p.1 = k
    · simp [ixK, getK, h]
    · simp only [ixK, getK, if_neg h]
      rw [← ixK_iff (m := r)]
      cases ixK r k <;> rfl
theorem putS_N {x : α} : ∀ {m : List (Int × α)}, putS (kN f m) (.inl k) (.dat (f x)) = kN f (putN m k x)
  | [] => rfl
  | p :: r => by
    have ih := putS_N (x := x) (m := r)
    unfold putS at ih ⊢
    rw [kix_N] at ih ⊢
    by_cases h : p.1 = k
    · simp [ixK, putN, h, kN, setSnd]
    · simp only [ixK, putN, if_neg h]
      cases hi : ixK r k with
      | none => rw [hi] at ih; simp only [Option.map_none]; simpa [kN] using ih
      | some i => rw [hi] at ih; simp only [Option.map_some]; simpa [kN, setSnd] using ih
end
section
variable {α : Type} {f : α → PyData} {m : List (Int × α)} {k : Int} {E E1 : En} {r : Rs} {p : List Nat} {da db dx : En → Option Rs} {de : En → Option (S × En)}
theorem kid_dat (r : Rs) (i : Nat) (d : PyData) : r.kid i (.dat d) = some (.val (.dat d)) := by cases r <;> rfl
theorem dget_go (h1 : da E = some r) (h2 : r.at E = some (.dct false (kN f m))) (h3 : db E = some (.val (.dat (.int k)))) {x : α} (hx : getK m k = some x) : dDGet da db E = some (.val (.dat (f x))) := by
  unfold dDGet
  rw [h1, h3]
  have g := getI_N (f := f) (k := k) (m := m)
  simp only [h2, show (Rs.val (.dat (.int k))).key = some (Sum.inl k) from rfl, kix_N]
  cases hi : ixK m k with
  | none => rw [hi, hx] at g; cases g
  | some i => rw [hi, hx] at g; simp only at g ⊢; rw [g]; exact kid_dat ..
theorem dget2_go {d : PyData} (h1 : da E = some r) (h2 : r.at E = some (.dct false (kN f m))) (h3 : db E = some (.val (.dat (.int k)))) (h4 : dx E = some (.val (.dat d))) : dDGet2 da db dx E = some (.val (.dat (match getK m k with | some x => f x | none => d))) := by
  unfold dDGet2
  rw [h1, h3, h4]
  have g := getI_N (f := f) (k := k) (m := m)
  simp only [h2, show (Rs.val (.dat (.int k))).key = some (Sum.inl k) from rfl, kix_N]
  cases hi : ixK m k with
  | none =>
    have := ixK_iff (m := m) (k := k)
    rw [hi] at this
    cases hg : getK m k with
    | none => rfl
    | some x => rw [hg] at this; cases this
  | some i =>
    rw [hi] at g
    cases hg : getK m k with
    | none => have := ixK_iff (m := m) (k := k); rw [hi, hg] at this; cases this
    | some x => rw [hg] at g; simp only at g ⊢; rw [g]; exact kid_dat ..
theorem dput_go {x : α} (he : de E = some (.dat (f x), E1)) (h1 : da E1 = some (.pl p)) (h2 : eget E1 p = some (.dct false (kN f m))) (h3 : db E1 = some (.val (.dat (.int k)))) (nd : (m.map (·.1)).Nodup) (hl : m.length < 100000) :
    dDPut da db de E = some (.nx (ekill (eput E1 p (.dct false (kN f (putN m k x)))) p)) := by
  unfold dDPut
  rw [he]
  simp only [h1, h3, show (Rs.val (.dat (.int k))).key = some (Sum.inl k) from rfl]
  unfold stepAt oDPut
  simp only [h2, if_pos (nodupK_N.mpr nd), len_N, if_pos hl, putS_N]
end
def d__law_begun : En → Option Out := (dSeq (dAlias 1 (dC (.int 0)))
    (dSeq (dFor (iLst (dVar 0)) (bName 2) (dAlias 1 (dOp fMod (dOp fAdd (dOp fAdd (dOp fMul (dVar 1) (dC (.int 48271))) (dOp fMul (dVar 2) (dC (.int 69621)))) (dC (.int 11))) (dC (.int 2147483647)))))
    (dRet (ePure (dLst (dCons (dCS fList (dCons (dVar 0) dNil)) (dCons (dOp fMul (dVar 1) (dCB fInt (dCons (dOp fGt (dLen (dVar 0)) (dC (.int 2))) dNil))) dNil)))))))
def g__law_begun : List S → Option (S × List S) := fnG 3 d__law_begun
def d__law_take : En → Option Out := (dSeq (dIf (ePureT (dTest (dOp fEqD (dIxL (dVar 0) (dC (.int 0))) (dLst dNil)))) (dSeq (dLSet (dVar 0) (dC (.int 1)) (ePure (dOp fMod (dOp fMul (dIxL (dVar 0) (dC (.int 1))) (dC (.int 48271))) (dC (.int 2147483647)))))
    (dRet (ePure (dOp fMod (dOp fDiv (dIxL (dVar 0) (dC (.int 1))) (dC (.int 7))) (dVar 1))))) dNext)
    (dSeq (dAlias 2 (dIxL (dIxL (dVar 0) (dC (.int 0))) (dC (.int 0))))
    (dSeq (dLSet (dIxL (dVar 0) (dC (.int 0))) (dC (.int 0)) (ePure (dOp fDiv (dVar 2) (dVar 1))))
    (dSeq (dIf (ePureT (dOr (dTest (dOp fEqS (dIxL (dIxL (dVar 0) (dC (.int 0))) (dC (.int 0))) (dC (.int 0)))) (dTest (dOp fEqS (dIxL (dIxL (dVar 0) (dC (.int 0))) (dC (.int 0))) (dNeg (dC (.int 1))))))) (dDrop (eBM1 oPopAt (dIxL (dVar 0) (dC (.int 0))) (dC (.int 0)))) dNext)
    (dRet (ePure (dOp fMod (dVar 2) (dVar 1))))))))
def g__law_take : List S → Option (S × List S) := fnG 3 d__law_take
def bx (ns : List Int) (st : Int) : S := .lst [lI ns, .dat (.int st)]
theorem mulR {i j : Int} (h : -1000000 < j ∧ j < 1000000) : fMul (.int i) (.int j) = some (.int (i * j)) := by
  show (if (-(2 ^ 64) < i ∧ i < 2 ^ 64) ∨ (-(2 ^ 64) < j ∧ j < 2 ^ 64) then some (PyData.int (i * j)) else none) = _
  exact if_pos (.inr ⟨by omega, by omega⟩)
theorem modP {i j : Int} (h : 0 < j) : fMod (.int i) (.int j) = some (.int (i % j)) := if_pos h
theorem divP {i j : Int} (h : 0 < j) (h2 : j < 1073741824) : fDiv (.int i) (.int j) = some (.int (i / j)) := if_pos ⟨h, by omega⟩
def eBg (ns : List Int) (st : Int) (s2 : Sl) : En := [.own (.dat (.list (ns.map .int))), .own (.dat (.int st)), s2, .own (.dat (.list (ns.map .int)))]
theorem v_begun {ns : List Int} (hl : ns.length < 1000) : ∃ st, g__law_begun [.dat (.list (ns.map .int))] = some (bx ns st, [.dat (.list (ns.map .int))]) := by
  have hloop := loop_inv (rd := rdD (ns.map .int)) (bd := bName 2) (db := dAlias 1 (dOp fMod (dOp fAdd (dOp fAdd (dOp fMul (dVar 1) (dC (.int 48271))) (dOp fMul (dVar 2) (dC (.int 69621)))) (dC (.int 11))) (dC (.int 2147483647))))
    (fun i E => ∃ st s2, E = eBg ns st s2) ns.length
    (fun i E hi hJ => by
      obtain ⟨st, s2, rfl⟩ := hJ
      have hv : ns[i]? = some ns[i] := List.getElem?_eq_getElem _
      generalize ns[i] = x at hv
      let E1 : En := [.own (.dat (.list (ns.map .int))), .own (.dat (.int st)), .own (.dat (.int x)), .own (.dat (.list (ns.map .int)))]
      have a1 : dOp fMul (dVar 1) (dC (.int 48271)) E1 = some (.val (.dat (.int (st * 48271)))) := dOp_go rfl rfl rfl rfl (mulR (by omega))
      have a2 : dOp fMul (dVar 2) (dC (.int 69621)) E1 = some (.val (.dat (.int (x * 69621)))) := dOp_go rfl rfl rfl rfl (mulR (by omega))
      have a3 : dOp fMod (dOp fAdd (dOp fAdd (dOp fMul (dVar 1) (dC (.int 48271))) (dOp fMul (dVar 2) (dC (.int 69621)))) (dC (.int 11))) (dC (.int 2147483647)) E1 = some (.val (.dat (.int ((st * 48271 + x * 69621 + 11) % 2147483647)))) :=
        dOp_go (dOp_go (dOp_go a1 a2 rfl rfl rfl) rfl rfl rfl rfl) rfl rfl rfl (modP (by omega))
      refine ⟨_, E1, eBg ns ((st * 48271 + x * 69621 + 11) % 2147483647) (.own (.dat (.int x))), rdD_I hv, rfl, ?_, _, _, rfl⟩
      unfold dAlias
      rw [a3]; rfl)
    (fun E _ => rdD_end (Nat.le_refl _)) ns.length 0 (ns.map PyData.int).length (eBg ns 0 .no) (by omega) (by simp) ⟨0, .no, rfl⟩
  obtain ⟨E', hE, st, s2, rfl⟩ := hloop
  have c2 := dFor_go (src := iLst (dVar 0)) (E := eBg ns 0 .no) (c := ⟨eBg ns 0 .no, [], rdD (ns.map .int), (ns.map PyData.int).length⟩) rfl hE
  have hll : (ns.map PyData.int).length = ns.length := by simp
  refine ⟨st * (if decide ((2 : Int) < (ns.length : Int)) = true then 1 else 0), ?_⟩
  have b1 : dCS fList (dCons (dVar 0) dNil) (eBg ns st s2) = some (.val (lI ns)) := by
    show (some (S.lst ((ns.map PyData.int).map S.dat))).map Rs.val = _
    simp [lI]
  have b2 : dCB fInt (dCons (dOp fGt (dLen (dVar 0)) (dC (.int 2))) dNil) (eBg ns st s2) = some (.val (.dat (.int (if decide ((2 : Int) < (ns.length : Int)) = true then 1 else 0)))) := by
    refine dCB_go (dcons_go (dOp_go (x := .int (ns.length : Int)) (show dLen (dVar 0) (eBg ns st s2) = some (.val (.dat (.int (ns.length : Int)))) from ?_) rfl rfl rfl rfl) rfl) rfl rfl
    show some (Rs.val (.dat (.int ((ns.map PyData.int).length : Nat)))) = _
    rw [hll]
  have b3 : dOp fMul (dVar 1) (dCB fInt (dCons (dOp fGt (dLen (dVar 0)) (dC (.int 2))) dNil)) (eBg ns st s2) = some (.val (.dat (.int (st * (if decide ((2 : Int) < (ns.length : Int)) = true then 1 else 0))))) :=
    dOp_go rfl b2 rfl rfl (mulR (by split <;> omega))
  have c3 : dRet (ePure (dLst (dCons (dCS fList (dCons (dVar 0) dNil)) (dCons (dOp fMul (dVar 1) (dCB fInt (dCons (dOp fGt (dLen (dVar 0)) (dC (.int 2))) dNil))) dNil)))) (eBg ns st s2) = some (.rt (bx ns (st * (if decide ((2 : Int) < (ns.length : Int)) = true then 1 else 0))) (eBg ns st s2)) := by
    unfold dRet ePure dLst
    rw [dcons_go b1 (dcons_go b3 rfl)]; rfl
  exact fnG_rt (dSeq_go (E1 := eBg ns 0 .no) rfl (dSeq_go c2 c3)) rfl
theorem v_take {ns : List Int} {st many : Int} (h0 : 0 < many) (h1 : many < 1073741824) (hl : ns.length < 1000) : ∃ r ns' st', 0 ≤ r ∧ r < many ∧ ns'.length ≤ ns.length ∧ g__law_take [bx ns st, .dat (.int many)] = some (.dat (.int r), [bx ns' st', .dat (.int many)]) := by
  cases ns with
  | nil =>
    let E0 : En := [.bor [3], .own (.dat (.int many)), .no, .own (bx [] st), .own (.dat (.int many))]
    have hc : ePureT (dTest (dOp fEqD (dIxL (dVar 0) (dC (.int 0))) (dLst dNil))) E0 = some (true, E0) := by
      have a1 : dOp fEqD (dIxL (dVar 0) (dC (.int 0))) (dLst dNil) E0 = some (.val (.dat (.bool true))) := dOp_go (a := .pl [3, 0]) (b := .val (.lst [])) (x := .list []) (y := .list []) rfl rfl rfl rfl (eqD_self [])
      unfold ePureT dTest
      rw [a1]; rfl
    have a0 : dIxL (dVar 0) (dC (.int 1)) E0 = some (.val (.dat (.int st))) := rfl
    have a1 : dOp fMod (dOp fMul (dIxL (dVar 0) (dC (.int 1))) (dC (.int 48271))) (dC (.int 2147483647)) E0 = some (.val (.dat (.int (st * 48271 % 2147483647)))) :=
      dOp_go (dOp_go a0 rfl rfl rfl (mulR (by omega))) rfl rfl rfl (modP (by omega))
    generalize hst : st * 48271 % 2147483647 = st' at a1
    have a2 : dLSet (dVar 0) (dC (.int 1)) (ePure (dOp fMod (dOp fMul (dIxL (dVar 0) (dC (.int 1))) (dC (.int 48271))) (dC (.int 2147483647)))) E0 = some (.nx [.bor [3], .own (.dat (.int many)), .no, .own (bx [] st'), .own (.dat (.int many))]) := by
      have e1 : ePure (dOp fMod (dOp fMul (dIxL (dVar 0) (dC (.int 1))) (dC (.int 48271))) (dC (.int 2147483647))) E0 = some (.dat (.int st'), E0) := by unfold ePure; rw [a1]
      unfold dLSet
      rw [e1]; rfl
    let E1 : En := [.bor [3], .own (.dat (.int many)), .no, .own (bx [] st'), .own (.dat (.int many))]
    have a3 : dOp fMod (dOp fDiv (dIxL (dVar 0) (dC (.int 1))) (dC (.int 7))) (dVar 1) E1 = some (.val (.dat (.int (st' / 7 % many)))) :=
      dOp_go (dOp_go (x := .int st') rfl rfl rfl rfl (divP (by omega) (by omega))) rfl rfl rfl (modP h0)
    have a4 : dRet (ePure (dOp fMod (dOp fDiv (dIxL (dVar 0) (dC (.int 1))) (dC (.int 7))) (dVar 1))) E1 = some (.rt (.dat (.int (st' / 7 % many))) E1) := by
      unfold dRet ePure
      rw [a3]
    exact ⟨st' / 7 % many, [], st', Int.emod_nonneg _ (by omega), Int.emod_lt_of_pos _ h0, Nat.le_refl _, fnG_rt (dSeq_rt (dIf_t hc (dSeq_go a2 a4))) rfl⟩
  | cons a t =>
    let E0 : En := [.bor [3], .own (.dat (.int many)), .no, .own (bx (a :: t) st), .own (.dat (.int many))]
    have hc : ePureT (dTest (dOp fEqD (dIxL (dVar 0) (dC (.int 0))) (dLst dNil))) E0 = some (false, E0) := by
      have a1 : dOp fEqD (dIxL (dVar 0) (dC (.int 0))) (dLst dNil) E0 = some (.val (.dat (.bool false))) := by
        refine dOp_go (a := .pl [3, 0]) (b := .val (.lst [])) (x := .list ((a :: t).map .int)) (y := .list []) rfl rfl (lI_toD (a :: t)) rfl ?_
        unfold fEqD
        rw [if_pos ⟨shaped_list (a :: t), shaped_list []⟩]; rfl
      unfold ePureT dTest
      rw [a1]; rfl
    let E1 : En := [.bor [3], .own (.dat (.int many)), .own (.dat (.int a)), .own (bx (a :: t) st), .own (.dat (.int many))]
    have hix : ∀ (b : Int) (E : En), dVar 0 E = some (.pl [3]) → eget E [3] = some (bx (b :: t) st) → eget E [3, 0] = some (lI (b :: t)) → dIxL (dIxL (dVar 0) (dC (.int 0))) (dC (.int 0)) E = some (.val (.dat (.int b))) := fun b E e1 e2 e3 => by
      have i1 : dIxL (dVar 0) (dC (.int 0)) E = some (.pl [3, 0]) := by
        unfold dIxL
        rw [e1]
        show (match eget E [3] with | some (.lst ss) => _ | some (.dat (.list ds)) => _ | _ => none) = _
        rw [e2]; rfl
      exact ixL_I (k := 0) (ns := b :: t) i1 e3 rfl rfl
    have c1 : dAlias 2 (dIxL (dIxL (dVar 0) (dC (.int 0))) (dC (.int 0))) E0 = some (.nx E1) := by
      unfold dAlias
      rw [hix a E0 rfl rfl rfl]; rfl
    have a2 : dOp fDiv (dVar 2) (dVar 1) E1 = some (.val (.dat (.int (a / many)))) := dOp_go rfl rfl rfl rfl (divP h0 (by omega))
    generalize hq : a / many = q at a2
    let E2 : En := [.bor [3], .own (.dat (.int many)), .own (.dat (.int a)), .own (bx (q :: t) st), .own (.dat (.int many))]
    have c2 : dLSet (dIxL (dVar 0) (dC (.int 0))) (dC (.int 0)) (ePure (dOp fDiv (dVar 2) (dVar 1))) E1 = some (.nx E2) := by
      have e1 : ePure (dOp fDiv (dVar 2) (dVar 1)) E1 = some (.dat (.int q), E1) := by unfold ePure; rw [a2]
      have e2 : oLSet 0 (lI (a :: t)) (.dat (.int q)) = some (lI (q :: t), .dat .none) := by
        have : ixN ((a :: t).map fun i => S.dat (.int i)).length ((0 : Nat) : Int) = some 0 := ixN_in (by simp)
        show (match ixN ((a :: t).map fun i => S.dat (.int i)).length ((0 : Nat) : Int) with | some j => some (S.lst (((a :: t).map fun i => S.dat (.int i)).set j (.dat (.int q))), S.dat PyData.none) | none => none) = _
        rw [this]; rfl
      unfold dLSet
      rw [e1]
      show stepAt (oLSet 0) E1 [3, 0] (.dat (.int q)) = _
      show (match oLSet 0 (lI (a :: t)) (.dat (.int q)) with | some (t', _) => some (Out.nx (ekill (eput E1 [3, 0] t') [3, 0])) | none => none) = _
      rw [e2]; rfl
    have hor : ePureT (dOr (dTest (dOp fEqS (dIxL (dIxL (dVar 0) (dC (.int 0))) (dC (.int 0))) (dC (.int 0)))) (dTest (dOp fEqS (dIxL (dIxL (dVar 0) (dC (.int 0))) (dC (.int 0))) (dNeg (dC (.int 1)))))) E2 = some (decide (q = 0) || decide (q = -1), E2) := by
      unfold ePureT dOr dTest
      rw [dOp_go (hix q E2 rfl rfl rfl) rfl rfl rfl rfl, dOp_go (hix q E2 rfl rfl rfl) rfl rfl rfl rfl]
      by_cases z : q = 0
      · simp [z]
      · simp [z]
    have c4 : ∀ E : En, dVar 2 E = some (.val (.dat (.int a))) → dVar 1 E = some (.val (.dat (.int many))) → dRet (ePure (dOp fMod (dVar 2) (dVar 1))) E = some (.rt (.dat (.int (a % many))) E) := fun E e1 e2 => by
      unfold dRet ePure
      rw [dOp_go e1 e2 rfl rfl (modP h0)]
    cases hb : (decide (q = 0) || decide (q = -1)) with
    | true =>
      rw [hb] at hor
      let E3 : En := [.bor [3], .own (.dat (.int many)), .own (.dat (.int a)), .own (bx t st), .own (.dat (.int many))]
      have c3 : dDrop (eBM1 oPopAt (dIxL (dVar 0) (dC (.int 0))) (dC (.int 0))) E2 = some (.nx E3) := by
        have e2 : oPopAt (lI (q :: t)) (.dat (.int 0)) = some (lI t, .dat (.int q)) := by
          have : ixN ((q :: t).map fun i => S.dat (.int i)).length ((0 : Nat) : Int) = some 0 := ixN_in (by simp)
          show (match ixN ((q :: t).map fun i => S.dat (.int i)).length ((0 : Nat) : Int) with | some j => (match ((q :: t).map fun i => S.dat (.int i))[j]? with | some s => if ((q :: t).map fun i => S.dat (.int i)).length < 100000 then some (S.lst (((q :: t).map fun i => S.dat (.int i)).eraseIdx j), s) else none | none => none) | none => none) = _
          rw [this]
          show (if ((q :: t).map fun i => S.dat (.int i)).length < 100000 then some (lI t, S.dat (.int q)) else none) = _
          exact if_pos (by simp at hl ⊢; omega)
        refine dDrop_go (s := .dat (.int q)) ?_
        show (match oPopAt (lI (q :: t)) (.dat (.int 0)) with | some (t', c) => some (c, ekill (eput E2 [3, 0] t') [3, 0]) | none => none) = _
        rw [e2]; rfl
      exact ⟨a % many, t, st, Int.emod_nonneg _ (by omega), Int.emod_lt_of_pos _ h0, by simp, fnG_rt (dSeq_go (dIf_f hc rfl) (dSeq_go c1 (dSeq_go c2 (dSeq_go (dIf_t hor c3) (c4 E3 rfl rfl))))) rfl⟩
    | false =>
      rw [hb] at hor
      exact ⟨a % many, q :: t, st, Int.emod_nonneg _ (by omega), Int.emod_lt_of_pos _ h0, by simp, fnG_rt (dSeq_go (dIf_f hc rfl) (dSeq_go c1 (dSeq_go c2 (dSeq_go (dIf_f hor rfl) (c4 E2 rfl rfl))))) rfl⟩
theorem bGo {i : Nat} {d : PyData} {ds : List PyData} {bs : List PyData → En → Option En} {E E1 : En} {r : Option En} (h : slotSet E i (.own (.dat d)) = E1) (h2 : bs ds E1 = r) : bCons (bName i) bs (d :: ds) E = r := by
  subst h; exact h2
theorem bEnd {E : En} : bNil [] E = some E := rfl
theorem dAsg_tup {k : Nat} {ds : List PyData} {bs : List PyData → En → Option En} {de : En → Option (S × En)} {E E0 E1 : En} (h : de E = some (.dat (.tuple ds), E0)) (hk : ds.length = k) (hb : bs ds E0 = some E1) : dAsg (bTup k bs) de E = some (.nx E1) := by
  unfold dAsg
  rw [h]
  show (if ds.length = k then bs ds E0 else none).map Out.nx = _
  rw [if_pos hk, hb]; rfl
section
variable {E E1 E2 : En} {s : S} {de : En → Option (S × En)} {da : En → Option Rs} {dl : En → Option (Nat × En)}
theorem eEff_go {dl : En → Option (Nat × En)} {dc : Nat → En → Option (S × En)} {k : Nat} (h : dl E = some (k, E1)) (h2 : dc k E1 = some (s, E2)) : eEff dl dc E = some (s, stripN k E2) := by unfold eEff; rw [h]; simp only [h2]
theorem when_go {k : Nat} {r : Option (S × En)} (h : de E = r) : dWhen k k de E = r := by unfold dWhen; rw [if_pos rfl]; exact h
def frs (n : Nat) : Sl → Bool
  | .bor (i :: _) => decide (i < n)
  | _ => true
theorem kill_frs {n j : Nat} (hj : n ≤ j) : ∀ {E : En}, E.all (frs n) = true → E.map (killHead j) = E
  | [], _ => rfl
  | e :: r, h => by
    simp only [List.all_cons, Bool.and_eq_true] at h
    rw [List.map_cons, kill_frs hj h.2]
    congr 1
    cases e with
    | no => rfl
    | own s => rfl
    | bor q => cases q with
      | nil => rfl
      | cons i q =>
        have : i < n := by simpa [frs] using h.1
        exact if_neg (by simp; omega)
theorem strip1_app (E : En) (x : Sl) : strip1 (E ++ [x]) = E.map (killHead E.length) := by
  have hl : (E ++ [x]).length - 1 = E.length := by simp
  unfold strip1 slotSet
  rw [hl, List.map_append, List.set_append_right _ _ (by simp)]
  simp
theorem strip_app {E : En} (h : E.all (frs E.length) = true) : ∀ (k : Nat) (G : En), G.length = k → stripN k (E ++ G) = E
  | 0, G, hg => by rw [List.eq_nil_of_length_eq_zero hg, List.append_nil]; rfl
  | k + 1, G, hg => by
    rcases List.eq_nil_or_concat G with rfl | ⟨G', x, rfl⟩
    · cases hg
    · rw [List.concat_eq_append, ← List.append_assoc]
      show stripN k (strip1 _) = E
      rw [strip1_app, List.map_append, kill_frs (by simp) h]
      exact strip_app h k _ (by simpa using hg)
theorem lE_go {k : Nat} (h : de E = some (s, E1)) (h2 : dl (E1 ++ [.own s]) = some (k, E2)) : lConsE de dl E = some (k + 1, E2) := by unfold lConsE; rw [h]; simp only [h2]; rfl
theorem lP_own {k : Nat} (h : da E = some (.val s)) (h2 : dl (E ++ [.own s]) = some (k, E2)) : lConsP da dl E = some (k + 1, E2) := by unfold lConsP; rw [h]; simp only [h2]; rfl
theorem lP_bor {k : Nat} {p : List Nat} (h : da E = some (.pl p)) (h2 : dl (E ++ [.bor p]) = some (k, E2)) : lConsP da dl E = some (k + 1, E2) := by unfold lConsP; rw [h]; simp only [h2]; rfl
theorem dOpS_go {f : S → S → Option S} {da db : En → Option Rs} {a b : Rs} {s t u : S} (ha : da E = some a) (hb : db E = some b) (hx : a.at E = some s) (hy : b.at E = some t) (h : f s t = some u) : dOpS f da db E = some (.val u) := by
  unfold dOpS; rw [ha, hb]; simp only [hx, hy, h]; rfl
theorem tupL_go {dr : En → Option (List Rs)} {rs : List Rs} {ds : List PyData} (h : dr E = some rs) (hl : rs.length < 1000) (h2 : tupD E rs = some ds) : dTupL dr E = some (.val (.dat (.tuple ds))) := by
  unfold dTupL; rw [h]; simp only [if_pos hl]; unfold dTup; rw [h]; simp only [h2]; rfl
theorem append_go {α : Type} {f : α → PyData} {xs : List α} {x : α} {da db : En → Option Rs} {p : List Nat} (ha : da E = some (.pl p)) (hp : eget E p = some (dL f xs)) (hb : db E = some (.val (.dat (f x)))) (hl : xs.length < 100000) : eBM1 oAppend da db E = some (.dat .none, ekill (eput E p (dL f (xs ++ [x]))) p) := by
  have hap : oAppend (dL f xs) (.dat (f x)) = some (dL f (xs ++ [x]), .dat .none) := by
    show (if (xs.map fun d => S.dat (f d)).length < 100000 then some (S.lst ((xs.map fun d => S.dat (f d)) ++ [S.dat (f x)]), S.dat .none) else none) = _
    rw [if_pos (by rw [List.length_map]; omega)]
    simp [dL]
  unfold eBM1
  rw [ha]
  simp only [hp]
  show (match (some (dL f xs) : Option S) with | some (.lst _) => eMut1 oAppend da db E | _ => none) = _
  show eMut1 oAppend da db E = _
  unfold eMut1
  rw [ha, hb]
  simp only [hp, hap]
theorem eff_go {dc : Nat → En → Option (S × En)} {k : Nat} {A B G G2 : En} (h : dl E = some (k, A ++ G)) (h2 : dc k (A ++ G) = some (s, B ++ G2)) (hB : B.all (frs B.length) = true) (hG : G2.length = k) : eEff dl dc E = some (s, B) := by
  rw [eEff_go h h2, strip_app hB k G2 hG]
theorem ePure_go {d : PyData} (h : da E = some (.val (.dat d))) : ePure da E = some (.dat d, E) := by unfold ePure; rw [h]
theorem eOp_go {f : PyData → PyData → Option PyData} {da db : En → Option (S × En)} {x y c : PyData} (h : da E = some (.dat x, E1)) (h2 : db E1 = some (.dat y, E2)) (h3 : f x y = some c) : eOp f da db E = some (.dat c, E2) := by
  unfold eOp
  rw [h]
  simp only [h2]
  show (f x y).map (fun c => (S.dat c, E2)) = _
  rw [h3]; rfl
theorem rdP_at {α : Type} {f : α → PyData} {l : List α} {p : List Nat} {i : Nat} {x : α} (h1 : E.getLast? = some (.bor p)) (h2 : eget E p = some (dL f l)) (h3 : l[i]? = some x) : rdP E i = some (some (.val (.dat (f x)))) := by
  unfold rdP
  simp only [h1, h2, dL, List.getElem?_map, h3, Option.map_some]
  rfl
theorem rdP_en {α : Type} {f : α → PyData} {l : List α} {p : List Nat} {i : Nat} (h1 : E.getLast? = some (.bor p)) (h2 : eget E p = some (dL f l)) (h3 : l.length ≤ i) : rdP E i = some none := by
  unfold rdP
  simp only [h1, h2, dL, List.getElem?_map, List.getElem?_eq_none_iff.mpr h3, Option.map_none]
theorem lcF {α : Type} {xs : List α} {f : α → PyData} {p : α → Bool} {g : α → S} {rd : En → Nat → Option (Option Rs)} {j : Nat} {dt : En → Option (Bool × En)} {E0 : En} (hn : xs.length < 100000)
    (hrd : ∀ i a, xs[i]? = some a → rd E0 i = some (some (.val (.dat (f a))))) (hend : rd E0 xs.length = some none)
    (hs : ∀ a ∈ xs, ∃ E1, bName j (.val (.dat (f a))) E0 = some E1 ∧ dt E1 = some (p a, E1) ∧ (p a = true → de E1 = some (g a, E1)) ∧ slotSet E1 j .no = E0) :
    ∀ (m i fuel : Nat) (acc : List S), i + m = xs.length → m ≤ fuel → acc.length ≤ i → dLcLoop rd j dt de fuel i acc E0 = some (acc ++ ((xs.drop i).filter p).map g, E0) := by
  intro m
  induction m with
  | zero =>
    intro i fuel acc hi _ _
    have : i = xs.length := by omega
    subst this
    rw [lcLoop_end hend]; simp
  | succ m ih =>
    intro i fuel acc hi hf ha
    cases fuel with
    | zero => omega
    | succ fuel =>
      have hil : i < xs.length := by omega
      have hv : xs[i]? = some xs[i] := List.getElem?_eq_getElem hil
      obtain ⟨E1, h1, h2, h3, h4⟩ := hs xs[i] (List.getElem_mem _)
      rw [List.drop_eq_getElem_cons hil]
      cases hp : p xs[i] with
      | true =>
        rw [hp] at h2
        rw [lcLoop_yes (hrd i _ hv) h1 h2 (h3 hp) (by omega), h4, ih (i + 1) fuel (acc ++ [g xs[i]]) (by omega) (by omega) (by simp; omega), List.filter_cons_of_pos hp, List.map_cons, List.append_assoc]; rfl
      | false =>
        rw [hp] at h2
        rw [lcLoop_no (hrd i _ hv) h1 h2, h4, ih (i + 1) fuel acc (by omega) (by omega) (by omega), List.filter_cons_of_neg (by rw [hp]; exact Bool.false_ne_true)]
theorem lcP {α : Type} {xs : List α} {f : α → PyData} {p : α → Bool} {g : α → S} {q : List Nat} {j : Nat} {src : En → Option Src} {dt : En → Option (Bool × En)} {E0 : En} (hn : xs.length < 100000) (hsrc : src E = some ⟨E, [.bor q], rdP, xs.length⟩)
    (h0 : slotSet (E ++ [.bor q]) j .no = E0) (hl : E0.getLast? = some (.bor q)) (hq : eget E0 q = some (dL f xs))
    (hs : ∀ a ∈ xs, ∃ E1, bName j (.val (.dat (f a))) E0 = some E1 ∧ dt E1 = some (p a, E1) ∧ (p a = true → de E1 = some (g a, E1)) ∧ slotSet E1 j .no = E0) :
    eLc src j dt de E = some (.lst ((xs.filter p).map g), stripN 1 E0) := by
  refine eLc_go hsrc ?_
  show dLcLoop rdP j dt de xs.length 0 [] (slotSet (E ++ [.bor q]) j .no) = _
  rw [h0, lcF (f := f) (p := p) (g := g) hn (fun i a h => rdP_at hl hq h) (rdP_en hl hq (Nat.le_refl _)) hs xs.length 0 xs.length [] (by omega) (Nat.le_refl _) (Nat.le_refl _)]
  simp
end
section
variable {α : Type} {f : α → PyData} {xs ys : List α} {E : En} {da db dl dh : En → Option Rs} {r r2 : Rs} {k l : Nat}
theorem dL_seqL : (dL f xs).seqL = some (xs.map f) := by
  show datsS _ = _
  have : (xs.map fun d => S.dat (f d)) = (xs.map f).map S.dat := by simp
  rw [this, datsS_dats]
theorem dL_back (xs : List α) : S.lst ((xs.map f).map S.dat) = dL f xs := by simp [dL]
theorem dL_toD : (dL f xs).toD = some (.list (xs.map f)) := by
  show (S.toDs _).map PyData.list = _
  have : (xs.map fun d => S.dat (f d)) = (xs.map f).map S.dat := by simp
  rw [this, toDs_dats]; rfl
theorem part_go {i : Int} (h : dl E = some (.val (.dat (.int i)))) : dPart dl E = some (some i) := by unfold dPart; rw [h]
theorem cut_pre (h : k ≤ xs.length) : Mv.cutD xs none (some (k : Int)) = xs.take k := by
  unfold Mv.cutD
  rw [HT.sIx_nat, HT.sIx_none, Nat.min_eq_left h]; simp
theorem cut_suf : Mv.cutD xs (some (k : Int)) none = xs.drop k := by
  by_cases h : k ≤ xs.length
  · exact cutD_from h
  · unfold Mv.cutD
    rw [HT.sIx_nat, HT.sIx_none, Nat.min_eq_right (by omega), List.drop_length, List.drop_eq_nil_of_le (by omega)]; simp
theorem cut_mid (h : k ≤ xs.length) : Mv.cutD xs (some (k : Int)) (some ((k + l : Nat) : Int)) = (xs.drop k).take l := by
  unfold Mv.cutD
  rw [HT.sIx_nat, HT.sIx_nat, Nat.min_eq_left h]
  by_cases h2 : k + l ≤ xs.length
  · rw [Nat.min_eq_left h2, show k + l - k = l by omega]
  · rw [Nat.min_eq_right (by omega), List.take_of_length_le (by simp), List.take_of_length_le (by simp; omega)]
theorem catL_go (ha : da E = some r) (hr : r.at E = some (dL f xs)) (hb : db E = some r2) (hs : r2.at E = some (dL f ys)) (hl : xs.length + ys.length < 100000) : dOpS fCatL da db E = some (.val (dL f (xs ++ ys))) := by
  unfold dOpS
  rw [ha, hb]
  show (match r.at E, r2.at E with | some s, some t => (fCatL s t).map Rs.val | _, _ => none) = _
  rw [hr, hs]
  show (match (dL f xs).seqL with | some ds => (match (dL f ys).seqL with | some es => if ds.length + es.length < 100000 then some (S.lst ((ds ++ es).map S.dat)) else none | none => none) | none => none).map Rs.val = _
  rw [dL_seqL, dL_seqL]
  show (if (xs.map f).length + (ys.map f).length < 100000 then some (S.lst ((xs.map f ++ ys.map f).map S.dat)) else none).map Rs.val = _
  rw [if_pos (by simpa using hl), ← List.map_append, dL_back]; rfl
theorem rev_go (ha : da E = some r) (hr : r.at E = some (dL f xs)) : dRev da E = some (.val (dL f xs.reverse)) := by
  unfold dRev
  rw [ha]
  simp only [hr, dL_seqL, Option.map_some, ← List.map_reverse, dL_back]
theorem ixL_go {a : α} (ha : da E = some r) (hr : r.at E = some (dL f xs)) (hb : db E = some (.val (.dat (.int (k : Int))))) (h : xs[k]? = some a) : dIxL da db E = some (.val (.dat (f a))) := by
  unfold dIxL
  rw [ha, hb]
  have hk := (List.getElem?_eq_some_iff.mp h).1
  have e1 : ixN (xs.map fun d => S.dat (f d)).length (k : Int) = some k := ixN_in (by simpa using hk)
  simp only [hr, dL, e1, List.getElem?_map, h, Option.map_some]
  cases r <;> rfl
theorem ixN_last {n : Nat} (h : 0 < n) : ixN n (-1) = some (n - 1) := by
  unfold ixN
  rw [if_neg (by omega), if_pos (by omega)]
  congr 1
  omega
theorem ixL_last {a : α} (ha : da E = some r) (hr : r.at E = some (dL f (a :: xs))) (hb : db E = some (.val (.dat (.int (-1))))) : dIxL da db E = some (.val (.dat (f ((a :: xs).getLast (List.cons_ne_nil _ _))))) := by
  unfold dIxL
  rw [ha, hb]
  have e1 : ixN ((a :: xs).map fun d => S.dat (f d)).length (-1) = some xs.length := by rw [ixN_last (by simp)]; simp
  have e2 : (a :: xs)[xs.length]? = some ((a :: xs).getLast (List.cons_ne_nil _ _)) := by
    rw [List.getLast_eq_getElem]
    simp
  simp only [hr, dL, e1, List.getElem?_map, e2, Option.map_some]
  cases r <;> rfl
theorem len_go (ha : da E = some r) (hr : r.at E = some (dL f xs)) : dLen da E = some (.val (.dat (.int (xs.length : Nat)))) := by
  unfold dLen
  rw [ha]
  simp only [hr]
  show some (Rs.val (.dat (.int ((xs.map fun d => S.dat (f d)).length : Nat)))) = _
  rw [List.length_map]
end
def killR (n m : Nat) : Sl → Sl
  | .bor (j :: q) => if n ≤ j ∧ j < n + m then .no else .bor (j :: q)
  | e => e
theorem pop_app : ∀ (m : Nat) (E : En) (ss : List S), ss.length = m → popS m (E ++ ss.map Sl.own) = some (ss, E.map (killR E.length m))
  | 0, E, ss, h => by
    have : ss = [] := List.eq_nil_of_length_eq_zero h
    subst this
    have : E.map (killR E.length 0) = E := by
      have hk : ∀ e : Sl, killR E.length 0 e = e := by
        intro e
        cases e with
        | no => rfl
        | own s => rfl
        | bor q => cases q with
          | nil => rfl
          | cons j q => exact if_neg (by omega)
      rw [show killR E.length 0 = id from funext hk, List.map_id]
    rw [this]
    simp [popS]
  | m + 1, E, ss, h => by
    rcases List.eq_nil_or_concat ss with rfl | ⟨ss', s, rfl⟩
    · cases h
    · rw [List.concat_eq_append] at h ⊢
      have hm : ss'.length = m := by simpa using h
      have hk : ∀ (j : Nat) (l : List S), (l.map Sl.own).map (killHead j) = l.map Sl.own := by
        intro j l
        rw [List.map_map]; rfl
      have e1 : E ++ (ss' ++ [s]).map Sl.own = (E ++ ss'.map Sl.own) ++ [.own s] := by simp
      rw [e1]
      unfold popS
      simp only [List.getLast?_append, List.getLast?_singleton, Option.some_or, List.dropLast_concat]
      have hl : ((E ++ ss'.map Sl.own) ++ [Sl.own s]).length - 1 = E.length + m := by simp [hm]
      rw [hl, List.map_append, hk, pop_app m _ ss' hm]
      simp only [List.length_map, List.map_map]
      congr 3
      funext e
      cases e with
      | no => rfl
      | own s => rfl
      | bor q => cases q with
        | nil => rfl
        | cons j q =>
          show killR E.length m (if some j = some (E.length + m) then .no else .bor (j :: q)) = if E.length ≤ j ∧ j < E.length + (m + 1) then .no else .bor (j :: q)
          by_cases hj : j = E.length + m
          · rw [if_pos (by rw [hj]), if_pos (by omega)]; rfl
          · rw [if_neg (by simpa using hj)]
            show (if E.length ≤ j ∧ j < E.length + m then Sl.no else .bor (j :: q)) = _
            by_cases hh : E.length ≤ j ∧ j < E.length + m
            · rw [if_pos hh, if_pos (by omega)]
            · rw [if_neg hh, if_neg (by omega)]
theorem par2_go {E E1 E2 E3 E4 : En} {dl : En → Option (Nat × En)} {i j : Nat} {a b : S} (h : dl E = some (2, E1)) (hp : popS 2 E1 = some ([a, b], E2)) (h1 : slotSet E2 i (.own a) = E3) (h2 : slotSet E3 j (.own b) = E4) : dParL i j dl E = some (.nx E4) := by
  subst h1 h2
  unfold dParL
  simp only [h, hp]
theorem pop_go {E E1 : En} {ss : List S} {m : Nat} (h : ss.length = m) (h2 : E.map (killR E.length m) = E1) : popS m (E ++ ss.map Sl.own) = some (ss, E1) := by subst h2; exact pop_app m E ss h
theorem canLay_map {α : Type} {f : α → PyData} (h : ∀ a, (f a).canLay0 = true) : ∀ (xs : List α), PyData.canLayAll0 (xs.map f) = true
  | [] => rfl
  | a :: r => by rw [List.map_cons, PyData.canLayAll0, h a, canLay_map h r]; rfl
theorem depth_map {α : Type} {f : α → PyData} {k : Nat} (h : ∀ a, (f a).depth ≤ k) : ∀ (xs : List α), PyData.depthAll (xs.map f) ≤ k
  | [] => Nat.zero_le _
  | a :: r => by rw [List.map_cons, PyData.depthAll]; exact Nat.max_le.mpr ⟨h a, depth_map h r⟩
theorem shaped_rows {α : Type} {f : α → PyData} {k : Nat} (h : ∀ a, (f a).canLay0 = true) (h2 : ∀ a, (f a).depth ≤ k) (hk : k < 64) (xs : List α) : SeqAt.shaped (.list (xs.map f)) = true := by
  unfold SeqAt.shaped
  have := depth_map h2 xs
  rw [PyData.canLay0, canLay_map h xs, PyData.depth, Bool.true_and]
  exact decide_eq_true (by omega)
theorem eqD_nil {α : Type} {f : α → PyData} {k : Nat} (h : ∀ a, (f a).canLay0 = true) (h2 : ∀ a, (f a).depth ≤ k) (hk : k < 64) (xs : List α) : fEqD (.list (xs.map f)) (.list []) = some (.bool (decide (xs.length = 0))) := by
  unfold fEqD
  rw [if_pos ⟨shaped_rows h h2 hk xs, rfl⟩]
  cases xs with
  | nil => rfl
  | cons a r => simp [PyData.eqv, PyData.eqvAll]
theorem neD_same {α : Type} {f : α → PyData} {k : Nat} (h : ∀ a, (f a).canLay0 = true) (h2 : ∀ a, (f a).depth ≤ k) (hk : k < 64) (xs : List α) : fNeD (.list (xs.map f)) (.list (xs.map f)) = some (.bool false) := by
  unfold fNeD
  rw [if_pos ⟨shaped_rows h h2 hk xs, shaped_rows h h2 hk xs⟩, SeqAt.eqv_refl _ (by rw [PyData.canLay0]; exact canLay_map h xs)]; rfl
section
variable {α : Type} {f : α → PyData} {xs ys : List α} {E : En} {da db dl dh : En → Option Rs} {r r2 : Rs} {k l : Nat}
theorem slD_gen {lo hi : Option Int} {dlo dhi : En → Option (Option Int)} (ha : da E = some (.val (.dat (.list (xs.map f))))) (h1 : dlo E = some lo) (h2 : dhi E = some hi) : dSl fSlL da dlo dhi E = some (.val (dL f (Mv.cutD xs lo hi))) := by
  unfold dSl
  rw [ha, h1, h2]
  show some (Rs.val (S.lst ((Mv.cutD (xs.map f) lo hi).map S.dat))) = _
  have : Mv.cutD (xs.map f) lo hi = (Mv.cutD xs lo hi).map f := by
    unfold Mv.cutD
    rw [List.length_map, ← List.map_drop, ← List.map_take]
  rw [this, dL_back]
theorem slD_pre (ha : da E = some (.val (.dat (.list (xs.map f))))) (h : dl E = some (.val (.dat (.int (k : Int))))) (hk : k ≤ xs.length) : dSl fSlL da dNoPart (dPart dl) E = some (.val (dL f (xs.take k))) := by
  rw [slD_gen ha rfl (part_go h), cut_pre hk]
theorem slD_suf (ha : da E = some (.val (.dat (.list (xs.map f))))) (h : dl E = some (.val (.dat (.int (k : Int))))) : dSl fSlL da (dPart dl) dNoPart E = some (.val (dL f (xs.drop k))) := by
  rw [slD_gen ha (part_go h) rfl, cut_suf]
theorem slD_mid (ha : da E = some (.val (.dat (.list (xs.map f))))) (h : dl E = some (.val (.dat (.int (k : Int))))) (h2 : dh E = some (.val (.dat (.int ((k + l : Nat) : Int))))) (hk : k ≤ xs.length) : dSl fSlL da (dPart dl) (dPart dh) E = some (.val (dL f ((xs.drop k).take l))) := by
  rw [slD_gen ha (part_go h) (part_go h2), cut_mid hk]
theorem len_dat (ha : da E = some (.val (.dat (.list (xs.map f))))) : dLen da E = some (.val (.dat (.int (xs.length : Nat)))) := by
  unfold dLen
  rw [ha]
  show some (Rs.val (.dat (.int ((xs.map f).length : Nat)))) = _
  rw [List.length_map]
theorem rdD_at {i : Nat} {x : α} (h3 : xs[i]? = some x) : rdD (xs.map f) E i = some (some (.val (.dat (f x)))) := by
  unfold rdD
  rw [List.getElem?_map, h3]; rfl
theorem rdD_en {i : Nat} (h3 : xs.length ≤ i) : rdD (xs.map f) E i = some none := by
  unfold rdD
  rw [List.getElem?_map, List.getElem?_eq_none_iff.mpr h3]; rfl
end
end Gn
namespace DQ17
open PySem PySem.Spec PyProof.Rows L2 Mv Gn
section
variable {E E1 E2 : En} {da db dx d d1 d2 : En → Option Rs} {de : En → Option (S × En)} {dt du : En → Option (Bool × En)} {ds : List PyData} {r : Rs}
theorem andV_t {r : Option Rs} (h : d1 E = some (.val (.dat (.bool true)))) (h2 : d2 E = r) : dAndV d1 d2 E = r := by unfold dAndV; rw [h]; exact h2
theorem op_go {f : PyData → PyData → Option PyData} {a b c : PyData} {r1 r2 : Rs} (h1 : d1 E = some r1) (h2 : d2 E = some r2) (f1 : r1.full E = some a) (f2 : r2.full E = some b) (h : f a b = some c) : dOp f d1 d2 E = some (.val (.dat c)) := by
  unfold dOp
  rw [h1, h2]
  simp only [f1, f2, h, Option.map_some]
theorem opI_go {f : PyData → PyData → Option PyData} {a b c : PyData} (h1 : d1 E = some (.val (.dat a))) (h2 : d2 E = some (.val (.dat b))) (h : f a b = some c) : dOp f d1 d2 E = some (.val (.dat c)) := op_go h1 h2 rfl rfl h
theorem pure_go {s : S} (h : d E = some (.val s)) : ePure d E = some (s, E) := by unfold ePure; rw [h]
theorem eAnd_t {r : Option (Bool × En)} (h : dt E = some (true, E1)) (h2 : du E1 = r) : eAnd dt du E = r := by unfold eAnd; rw [h]; exact h2
theorem eAnd_f (h : dt E = some (false, E1)) : eAnd dt du E = some (false, E1) := by unfold eAnd; rw [h]
theorem pureT_go {b : Bool} {dd : En → Option Bool} (h : dd E = some b) : ePureT dd E = some (b, E) := by unfold ePureT; rw [h]; rfl
theorem ixL_at {α : Type} {f : α → PyData} {l : List α} {p : Nat} {x : α} {rr : Rs} (h1 : da E = some rr) (h2 : rr.at E = some (dL f l)) (h3 : db E = some (.val (.dat (.int (p : Nat))))) (hx : l[p]? = some x) : dIxL da db E = some (.val (.dat (f x))) := by
  have hp := (List.getElem?_eq_some_iff.mp hx).1
  unfold dIxL
  rw [h1, h3]
  have e1 : ixN (l.map fun d => S.dat (f d)).length ((p : Nat) : Int) = some p := ixN_in (by simpa using hp)
  have e2 : (l.map fun d => S.dat (f d))[p]? = some (.dat (f x)) := by rw [List.getElem?_map, hx]; rfl
  simp only [h2, dL, e1, e2]
  exact kid_dat ..
theorem test_go {b : Bool} (h : d E = some (.val (.dat (.bool b)))) : dTest d E = some b := by unfold dTest; rw [h]
theorem app_go {p : List Nat} {ss : List S} (h1 : da E = some (.pl p)) (h2 : eget E p = some (.lst ss)) (h3 : db E = some (.val s)) (hl : ss.length < 100000) : eBM1 oAppend da db E = some (.dat .none, ekill (eput E p (.lst (ss ++ [s]))) p) := by
  unfold eBM1 eMut1
  rw [h1]
  simp only [h2, h3]
  unfold oAppend
  simp only [if_pos hl]
end
structure De where
  slot : Int
  count : Int
  asker : Int
  num : Int
  more : Int
  worth : Int
  make : Int
deriving DecidableEq
def De.d (s : De) : PyData := .tuple [.int s.slot, .int s.count, .int s.asker, .int s.num, .int s.more, .int s.worth, .int s.make]
def t2 (p : Int × Int) : PyData := .tuple [.int p.1, .int p.2]
def iD (n : Int) : PyData := .int n
structure Ty where
  grown : List (Int × (Int × Int))
  numbers : List (Int × Int)
  make : Int
def Ty.s (t : Ty) : S := .ins 4 [.dct false (kN t2 t.grown), .dct false (kN iD t.numbers), .dat (.int t.make)]
def Ty.at (t : Ty) (slot : Int) : Int × Int := (getK t.grown slot).getD (0, 0)
def Ty.num (t : Ty) (a : Int) : Int := (getK t.numbers a).getD 0
def Ty.lets (t : Ty) (e : De) : Bool := decide (e.count = (t.at e.slot).2 + 1) && decide (e.worth = ((t.at e.slot).1 + e.more) % 1000) && decide (e.num = t.num e.asker + 1) && decide (t.make ≤ e.make)
def Ty.note (t : Ty) (e : De) : Ty := ⟨putN t.grown e.slot (e.worth, e.count), putN t.numbers e.asker e.num, e.make⟩
structure Ty.Ok (t : Ty) (k : Nat) : Prop where
  n1 : (t.grown.map (·.1)).Nodup
  n2 : (t.numbers.map (·.1)).Nodup
  l1 : t.grown.length ≤ k
  l2 : t.numbers.length ≤ k
theorem putN_len {α : Type} (x : α) (k : Int) : ∀ (m : List (Int × α)), (putN m k x).length ≤ m.length + 1
  | [] => by simp [putN]
  | p :: r => by
    unfold putN
    split
    · simp
    · have := putN_len x k r
      simp only [List.length_cons]; omega
theorem putN_keys {α : Type} (x : α) (k : Int) : ∀ (m : List (Int × α)) (j : Int), j ∈ (putN m k x).map (·.1) → j ∈ m.map (·.1) ∨ j = k
  | [], j, h => by simp [putN] at h; exact .inr h
  | p :: r, j, h => by
    unfold putN at h
    split at h
    · exact .inl (by simpa using h)
    · rcases List.mem_cons.mp h with e | h
      · exact .inl (by rw [e]; exact List.mem_cons_self)
      · rcases putN_keys x k r j h with h | h
        · exact .inl (List.mem_cons_of_mem _ h)
        · exact .inr h
theorem putN_nodup {α : Type} (x : α) (k : Int) : ∀ {m : List (Int × α)}, (m.map (·.1)).Nodup → ((putN m k x).map (·.1)).Nodup
  | [], _ => by simp [putN]
  | p :: r, h => by
    unfold putN
    split
    · simpa using h
    · next ne =>
      obtain ⟨h1, h2⟩ := List.nodup_cons.mp h
      refine List.nodup_cons.mpr ⟨fun m => ?_, putN_nodup x k h2⟩
      rcases putN_keys x k r _ m with m | m
      · exact h1 m
      · exact ne m
theorem getK_put {α : Type} (x : α) (k j : Int) : ∀ (m : List (Int × α)), getK (putN m k x) j = if k = j then some x else getK m j
  | [] => by by_cases h : k = j <;> simp [putN, getK, h]
  | p :: r => by
    have ih := getK_put x k j r
    unfold putN
    split
    · next e =>
      by_cases h : k = j
      · simp [getK, e, h]
      · have : p.1 ≠ j := by rw [e]; exact h
        simp [getK, h, this]
    · next ne =>
      by_cases h : p.1 = j
      · have : k ≠ j := fun z => ne (h.trans z.symm)
        simp [getK, h, this]
      · simp only [getK, if_neg h, ih]
theorem Ty.Ok.note {t : Ty} {k : Nat} (h : t.Ok k) (e : De) : (t.note e).Ok (k + 1) :=
  ⟨putN_nodup _ _ h.n1, putN_nodup _ _ h.n2, by have := putN_len (e.worth, e.count) e.slot t.grown; have := h.l1; simp only [Ty.note]; omega, by have := putN_len e.num e.asker t.numbers; have := h.l2; simp only [Ty.note]; omega⟩
theorem v_more {a b : Int} : K17.g_with_more [.dat (.int a), .dat (.int b)] = some (.dat (.int ((a + b) % 1000)), [.dat (.int a), .dat (.int b)]) := by
  refine fnG_rt (E := entry 2 [.dat (.int a), .dat (.int b)]) ?_ rfl
  have a1 : dOp fMod (dOp fAdd (dVar 0) (dVar 1)) (dC (.int 1000)) (entry 2 [.dat (.int a), .dat (.int b)]) = some (.val (.dat (.int ((a + b) % 1000)))) :=
    dOp_go (dOp_go rfl rfl rfl rfl rfl) rfl rfl rfl (modP (by omega))
  unfold K17.d_with_more dRet ePure
  rw [a1]
def eLe (t : Ty) (e : De) (s9 s10 : Sl) : En := [.bor [11], .own (.dat e.d), .own (.dat (.int e.slot)), .own (.dat (.int e.count)), .own (.dat (.int e.asker)), .own (.dat (.int e.num)), .own (.dat (.int e.more)), .own (.dat (.int e.worth)), .own (.dat (.int e.make)), s9, s10, .own t.s, .own (.dat e.d)]
theorem v_lets {t : Ty} {e : De} : K17.g_Tally_lets [t.s, .dat e.d] = some (.dat (.bool (t.lets e)), [t.s, .dat e.d]) := by
  let o (i : Int) : Sl := .own (.dat (.int i))
  let F (a b c d f g h : Sl) : En := [.bor [11], .own (.dat e.d), a, b, c, d, f, g, h, .no, .no, .own t.s, .own (.dat e.d)]
  have s1 : dAsg (bTup 7 (bCons (bName 2) (bCons (bName 3) (bCons (bName 4) (bCons (bName 5) (bCons (bName 6) (bCons (bName 7) (bCons (bName 8) bNil)))))))) (ePure (dVar 1)) (entry 11 [t.s, .dat e.d]) = some (.nx (eLe t e .no .no)) :=
    dAsg_tup (E0 := F .no .no .no .no .no .no .no) rfl rfl (bGo (E1 := F (o e.slot) .no .no .no .no .no .no) rfl (bGo (E1 := F (o e.slot) (o e.count) .no .no .no .no .no) rfl (bGo (E1 := F (o e.slot) (o e.count) (o e.asker) .no .no .no .no) rfl (bGo (E1 := F (o e.slot) (o e.count) (o e.asker) (o e.num) .no .no .no) rfl (bGo (E1 := F (o e.slot) (o e.count) (o e.asker) (o e.num) (o e.more) .no .no) rfl (bGo (E1 := F (o e.slot) (o e.count) (o e.asker) (o e.num) (o e.more) (o e.worth) .no) rfl (bGo (E1 := F (o e.slot) (o e.count) (o e.asker) (o e.num) (o e.more) (o e.worth) (o e.make)) rfl bEnd)))))))
  have a2 : dDGet2 (dFld 4 0 (dVar 0)) (dVar 2) (dC (.tuple [.int 0, .int 0])) (eLe t e .no .no) = some (.val (.dat (t2 (t.at e.slot)))) := by
    rw [dget2_go (f := t2) (m := t.grown) (k := e.slot) (r := .pl [11, 0]) (d := .tuple [.int 0, .int 0]) rfl rfl rfl rfl]
    unfold Ty.at
    cases getK t.grown e.slot <;> rfl
  let E2 : En := eLe t e (.own (.dat (.int (t.at e.slot).1))) (.own (.dat (.int (t.at e.slot).2)))
  have s2 : dAsg (bTup 2 (bCons (bName 9) (bCons (bName 10) bNil))) (ePure (dDGet2 (dFld 4 0 (dVar 0)) (dVar 2) (dC (.tuple [.int 0, .int 0])))) (eLe t e .no .no) = some (.nx E2) := by
    unfold dAsg ePure
    rw [a2]; rfl
  have t1 : ePureT (dTest (dOp fNeS (dVar 3) (dOp fAdd (dVar 10) (dC (.int 1))))) E2 = some (!decide (e.count = (t.at e.slot).2 + 1), E2) := by
    unfold ePureT dTest
    rw [dOp_go (f := fNeS) (x := .int e.count) (y := .int ((t.at e.slot).2 + 1)) (c := .bool (!decide (e.count = (t.at e.slot).2 + 1))) rfl (dOp_go rfl rfl rfl rfl rfl) rfl rfl rfl]; rfl
  have t2' : eTest (eOp fNeS (ePure (dVar 7)) (eCall K17.g_with_more (dCons (dVar 9) (dCons (dVar 6) dNil)))) E2 = some (!decide (e.worth = ((t.at e.slot).1 + e.more) % 1000), E2) := by
    have c : eCall K17.g_with_more (dCons (dVar 9) (dCons (dVar 6) dNil)) E2 = some (.dat (.int (((t.at e.slot).1 + e.more) % 1000)), E2) :=
      eCall_go (rs := [.val (.dat (.int (t.at e.slot).1)), .val (.dat (.int e.more))]) rfl rfl rfl v_more
    refine eTest_go ?_
    unfold eOp
    rw [show ePure (dVar 7) E2 = some (.dat (.int e.worth), E2) from rfl]
    simp only [c]; rfl
  have a3 : dDGet2 (dFld 4 1 (dVar 0)) (dVar 4) (dC (.int 0)) E2 = some (.val (.dat (.int (t.num e.asker)))) := by
    rw [dget2_go (f := iD) (m := t.numbers) (k := e.asker) (r := .pl [11, 1]) (d := .int 0) rfl rfl rfl rfl]
    unfold Ty.num
    cases getK t.numbers e.asker <;> rfl
  have b1 : dOp fEqS (dVar 5) (dOp fAdd (dDGet2 (dFld 4 1 (dVar 0)) (dVar 4) (dC (.int 0))) (dC (.int 1))) E2 = some (.val (.dat (.bool (decide (e.num = t.num e.asker + 1))))) :=
    dOp_go (x := .int e.num) (y := .int (t.num e.asker + 1)) rfl (dOp_go a3 rfl rfl rfl rfl) rfl rfl rfl
  have b2 : dOp fGe (dVar 8) (dFld 4 2 (dVar 0)) E2 = some (.val (.dat (.bool (decide (t.make ≤ e.make))))) := rfl
  have s4 : dRet (ePure (dAndV (dOp fEqS (dVar 5) (dOp fAdd (dDGet2 (dFld 4 1 (dVar 0)) (dVar 4) (dC (.int 0))) (dC (.int 1)))) (dOp fGe (dVar 8) (dFld 4 2 (dVar 0))))) E2 = some (.rt (.dat (.bool (decide (e.num = t.num e.asker + 1) && decide (t.make ≤ e.make)))) E2) := by
    refine dRet_go ?_
    unfold ePure dAndV
    rw [b1]
    cases decide (e.num = t.num e.asker + 1)
    · rfl
    · simp only [b2]; rfl
  refine fnG_rt (E := E2) (dSeq_go s1 (dSeq_go s2 ?_)) rfl
  by_cases h1 : e.count = (t.at e.slot).2 + 1
  · by_cases h2 : e.worth = ((t.at e.slot).1 + e.more) % 1000
    · refine dSeq_go (E1 := E2) (dIf_f (E1 := E2) ?_ rfl) ?_
      · rw [decide_eq_true h1] at t1
        rw [decide_eq_true h2] at t2'
        exact eOr_f t1 t2'
      · rw [s4]
        unfold Ty.lets
        rw [decide_eq_true h1, decide_eq_true h2]; rfl
    · refine dSeq_rt ?_
      unfold Ty.lets
      rw [decide_eq_false h2]
      refine dIf_t (E1 := E2) ?_ ?_
      · rw [decide_eq_true h1] at t1
        rw [decide_eq_false h2] at t2'
        exact eOr_f t1 t2'
      · simp; rfl
  · refine dSeq_rt ?_
    unfold Ty.lets
    rw [decide_eq_false h1]
    refine dIf_t (E1 := E2) ?_ ?_
    · rw [decide_eq_false h1] at t1
      unfold eOr
      rw [t1]; rfl
    · rfl
theorem v_note {t : Ty} {e : De} {k : Nat} (h : t.Ok k) (hk : k < 1000) : K17.g_Tally_note [t.s, .dat e.d] = some (.dat .none, [(t.note e).s, .dat e.d]) := by
  let eN (t : Ty) : En := [.bor [9], .own (.dat e.d), .own (.dat (.int e.slot)), .own (.dat (.int e.count)), .own (.dat (.int e.asker)), .own (.dat (.int e.num)), .own (.dat (.int e.more)), .own (.dat (.int e.worth)), .own (.dat (.int e.make)), .own t.s, .own (.dat e.d)]
  let o (i : Int) : Sl := .own (.dat (.int i))
  let F (a b c d f g h : Sl) : En := [.bor [9], .own (.dat e.d), a, b, c, d, f, g, h, .own t.s, .own (.dat e.d)]
  have s1 : dAsg (bTup 7 (bCons (bName 2) (bCons (bName 3) (bCons (bName 4) (bCons (bName 5) (bCons (bName 6) (bCons (bName 7) (bCons (bName 8) bNil)))))))) (ePure (dVar 1)) (entry 9 [t.s, .dat e.d]) = some (.nx (eN t)) :=
    dAsg_tup (E0 := F .no .no .no .no .no .no .no) rfl rfl (bGo (E1 := F (o e.slot) .no .no .no .no .no .no) rfl (bGo (E1 := F (o e.slot) (o e.count) .no .no .no .no .no) rfl (bGo (E1 := F (o e.slot) (o e.count) (o e.asker) .no .no .no .no) rfl (bGo (E1 := F (o e.slot) (o e.count) (o e.asker) (o e.num) .no .no .no) rfl (bGo (E1 := F (o e.slot) (o e.count) (o e.asker) (o e.num) (o e.more) .no .no) rfl (bGo (E1 := F (o e.slot) (o e.count) (o e.asker) (o e.num) (o e.more) (o e.worth) .no) rfl (bGo (E1 := F (o e.slot) (o e.count) (o e.asker) (o e.num) (o e.more) (o e.worth) (o e.make)) rfl bEnd)))))))
  have h1 := h.l1
  have h2 := h.l2
  have s2 : dDPut (dFld 4 0 (dVar 0)) (dVar 2) (ePure (dTupL (dCons (dVar 7) (dCons (dVar 3) dNil)))) (eN t) = some (.nx (eN ⟨putN t.grown e.slot (e.worth, e.count), t.numbers, t.make⟩)) :=
    dput_go (f := t2) (x := (e.worth, e.count)) (m := t.grown) (k := e.slot) (p := [9, 0]) (E1 := eN t) rfl rfl rfl rfl h.n1 (by omega)
  have s3 : dDPut (dFld 4 1 (dVar 0)) (dVar 4) (ePure (dVar 5)) (eN ⟨putN t.grown e.slot (e.worth, e.count), t.numbers, t.make⟩) = some (.nx (eN ⟨putN t.grown e.slot (e.worth, e.count), putN t.numbers e.asker e.num, t.make⟩)) :=
    dput_go (f := iD) (x := e.num) (m := t.numbers) (k := e.asker) (p := [9, 1]) (E1 := eN ⟨putN t.grown e.slot (e.worth, e.count), t.numbers, t.make⟩) rfl rfl rfl rfl h.n2 (by omega)
  have s4 : dFPut 4 2 (dVar 0) (ePure (dVar 8)) (eN ⟨putN t.grown e.slot (e.worth, e.count), putN t.numbers e.asker e.num, t.make⟩) = some (.nx (eN (t.note e))) := rfl
  exact fnG_nx (E := eN (t.note e)) (dSeq_go s1 (dSeq_go s2 (dSeq_go s3 s4))) rfl
def R (ds : List De) : S := dL De.d ds
def L (ds : List De) : S := .dat (.list (ds.map De.d))
def oN : Option Nat → PyData | none => .none | some k => .int (k : Int)
def t0 : Ty := ⟨[], [], 0⟩
theorem t0_ok : t0.Ok 0 := ⟨List.nodup_nil, List.nodup_nil, Nat.le_refl _, Nat.le_refl _⟩
end DQ17
set_option maxHeartbeats 400000
namespace DQ17
open PySem PySem.Spec PyProof.Rows L2 Mv Gn
variable {E E1 : En} {da db : En → Option Rs}
def roD (ds : List De) : PyData := .list (ds.map De.d)
def RR (rows : List (List De)) : S := .dat (.list (rows.map roD))
def nD (n : Nat) : PyData := .int (n : Int)
def canB (t : Ty) (mk : Int) (ds : List De) (b : Nat) : Bool := match ds[b]? with
  | some e => decide (e.make = mk) && t.lets e
  | none => false
def npF (t : Ty) (mk : Int) : List (List De) → List Nat → Nat → Option Nat
  | ds :: rows, b :: bg, i => if canB t mk ds b = true then some i else npF t mk rows bg (i + 1)
  | _, _, _ => none
def eP (rows : List (List De)) (bg : List Nat) (t : Ty) (mk : Int) (v4 v5 v6 : Sl) : En := [.own (RR rows), .bor [8], .bor [9], .own (.dat (.int mk)), v4, v5, v6, .own (RR rows), .own (dL nD bg), .own t.s, .own (.dat (.int mk))]
def Fr (v : Sl) : Prop := v = .no ∨ ∃ s, v = .own s
theorem ixD {α : Type} {f : α → PyData} {l : List α} {p : Nat} {x : α} (h1 : da E = some (.val (.dat (.list (l.map f))))) (h3 : db E = some (.val (.dat (.int (p : Nat))))) (hx : l[p]? = some x) : dIxL da db E = some (.val (.dat (f x))) := by
  have hp := (List.getElem?_eq_some_iff.mp hx).1
  unfold dIxL
  rw [h1, h3]
  simp only [Rs.at, List.length_map, ixN_in hp, List.getElem?_map, hx, Option.map_some]
def npB : En → Option Out := (dIf (ePureT (dTest (dOp fLt (dIxL (dVar 1) (dVar 4)) (dLen (dVar 5))))) (dSeq (dAlias 6 (dIxL (dVar 5) (dIxL (dVar 1) (dVar 4))))
    (dIf (eAnd (ePureT (dTest (dOp fEqS (dIxT (dVar 6) (dNeg (dC (.int 1)))) (dVar 3)))) (eTest (eCall K17.g_Tally_lets (dCons (dIns 4 (dVar 2)) (dCons (dVar 6) dNil))))) (dRet (eMove 4)) dNext)) dNext)
def npT : Rs → En → Option En := bTup 2 (bCons (bName 4) (bCons (bName 5) bNil))
theorem np_body {rows : List (List De)} {bg : List Nat} {t : Ty} {mk : Int} {i b : Nat} {ds : List De} {v6 : Sl} (hb : bg[i]? = some b) (h6 : Fr v6) :
    ∃ w6, Fr w6 ∧ npB (eP rows bg t mk (.own (.dat (.int (i : Nat)))) (.own (.dat (roD ds))) v6) = some (if canB t mk ds b = true then .rt (.dat (.int (i : Nat))) (eP rows bg t mk .no (.own (.dat (roD ds))) w6) else .nx (eP rows bg t mk (.own (.dat (.int (i : Nat)))) (.own (.dat (roD ds))) w6)) := by
  let F : Sl → En := fun v6 => eP rows bg t mk (.own (.dat (.int (i : Nat)))) (.own (.dat (roD ds))) v6
  have g1 : ∀ v6, dIxL (dVar 1) (dVar 4) (F v6) = some (.val (.dat (.int (b : Nat)))) := fun v6 => ixL_at (f := nD) (l := bg) (p := i) (rr := .pl [8]) rfl (S.get_nil _) rfl hb
  have g2 : dLen (dVar 5) (F v6) = some (.val (.dat (.int (ds.length : Nat)))) := by
    show some (Rs.val (.dat (.int ((ds.map De.d).length : Nat)))) = _
    rw [List.length_map]
  have t1 : ePureT (dTest (dOp fLt (dIxL (dVar 1) (dVar 4)) (dLen (dVar 5)))) (F v6) = some (decide (((b : Nat) : Int) < ((ds.length : Nat) : Int)), F v6) := pureT_go (test_go (opI_go (g1 v6) g2 rfl))
  unfold canB
  cases he : ds[b]? with
  | none =>
    have hn : ds.length ≤ b := List.getElem?_eq_none_iff.mp he
    rw [decide_eq_false (by omega)] at t1
    exact ⟨v6, h6, (dIf_f t1 rfl).trans rfl⟩
  | some e =>
    have hn := (List.getElem?_eq_some_iff.mp he).1
    rw [decide_eq_true (by omega)] at t1
    have g3 : dIxL (dVar 5) (dIxL (dVar 1) (dVar 4)) (F v6) = some (.val (.dat e.d)) := ixD (f := De.d) (l := ds) (p := b) rfl (g1 v6) he
    have s2 : dAlias 6 (dIxL (dVar 5) (dIxL (dVar 1) (dVar 4))) (F v6) = some (.nx (F (.own (.dat e.d)))) := by
      unfold dAlias
      rw [g3]
      rcases h6 with rfl | ⟨s, rfl⟩ <;> rfl
    have t2 : ePureT (dTest (dOp fEqS (dIxT (dVar 6) (dNeg (dC (.int 1)))) (dVar 3))) (F (.own (.dat e.d))) = some (decide (e.make = mk), F (.own (.dat e.d))) := rfl
    have t3 : eTest (eCall K17.g_Tally_lets (dCons (dIns 4 (dVar 2)) (dCons (dVar 6) dNil))) (F (.own (.dat e.d))) = some (t.lets e, F (.own (.dat e.d))) := eTest_go (eCall_go (rs := [.pl [9], .val (.dat e.d)]) rfl rfl rfl v_lets)
    have t4 : eAnd (ePureT (dTest (dOp fEqS (dIxT (dVar 6) (dNeg (dC (.int 1)))) (dVar 3)))) (eTest (eCall K17.g_Tally_lets (dCons (dIns 4 (dVar 2)) (dCons (dVar 6) dNil)))) (F (.own (.dat e.d))) = some (decide (e.make = mk) && t.lets e, F (.own (.dat e.d))) := by
      by_cases c : e.make = mk
      · rw [decide_eq_true c] at t2 ⊢
        exact (eAnd_t t2 t3).trans (by rw [Bool.true_and])
      · rw [decide_eq_false c] at t2 ⊢
        exact eAnd_f t2
    refine ⟨.own (.dat e.d), .inr ⟨_, rfl⟩, ?_⟩
    show _ = some (if (decide (e.make = mk) && t.lets e) = true then _ else _)
    cases hc : (decide (e.make = mk) && t.lets e) with
    | true =>
      rw [hc] at t4
      exact dIf_t t1 (dSeq_go s2 (dIf_t t4 rfl))
    | false =>
      rw [hc] at t4
      exact dIf_t t1 (dSeq_go s2 (dIf_f t4 rfl))
theorem np_loop {rows : List (List De)} {bg : List Nat} {t : Ty} {mk : Int} (hbl : bg.length = rows.length) : ∀ (m i fuel : Nat) (v4 v5 v6 : Sl), i + m = rows.length → m ≤ fuel → Fr v4 → Fr v5 → Fr v6 →
    ∃ w4 w5 w6, dLoop (rdEn (rdD (rows.map roD))) npT npB fuel i (eP rows bg t mk v4 v5 v6) = some (match npF t mk (rows.drop i) (bg.drop i) i with | none => .nx (eP rows bg t mk w4 w5 w6) | some k => .rt (.dat (.int (k : Nat))) (eP rows bg t mk w4 w5 w6)) := by
  intro m
  induction m with
  | zero =>
    intro i fuel v4 v5 v6 hi _ _ _ _
    have : i = rows.length := by omega
    subst this
    refine ⟨v4, v5, v6, ?_⟩
    have hr : rdEn (rdD (rows.map roD)) (eP rows bg t mk v4 v5 v6) rows.length = some none := by
      unfold rdEn
      rw [rdD_en (f := roD) (Nat.le_refl _)]
    rw [dLoop_end hr, List.drop_length]; rfl
  | succ m ih =>
    intro i fuel v4 v5 v6 hi hf h4 h5 h6
    cases fuel with
    | zero => omega
    | succ fuel =>
      have hil : i < rows.length := by omega
      have hib : i < bg.length := by omega
      have hv : rows[i]? = some rows[i] := List.getElem?_eq_getElem hil
      have hw : bg[i]? = some bg[i] := List.getElem?_eq_getElem hib
      rw [List.drop_eq_getElem_cons hil, List.drop_eq_getElem_cons hib]
      generalize rows[i] = ds at hv
      generalize bg[i] = b at hw
      have hr : rdEn (rdD (rows.map roD)) (eP rows bg t mk v4 v5 v6) i = some (some (.val (.dat (.tuple [.int (i : Nat), roD ds])))) := by
        unfold rdEn
        rw [rdD_at (f := roD) hv]; rfl
      have hbd : npT (.val (.dat (.tuple [.int (i : Nat), roD ds]))) (eP rows bg t mk v4 v5 v6) = some (eP rows bg t mk (.own (.dat (.int (i : Nat)))) (.own (.dat (roD ds))) v6) := by
        rcases h4 with rfl | ⟨s4, rfl⟩ <;> rcases h5 with rfl | ⟨s5, rfl⟩ <;> rcases h6 with rfl | ⟨s6, rfl⟩ <;> rfl
      obtain ⟨w6, f6, hB⟩ := np_body (rows := rows) (t := t) (mk := mk) (ds := ds) hw h6
      unfold npF
      by_cases c : canB t mk ds b = true
      · rw [if_pos c] at hB
        rw [if_pos c]
        exact ⟨_, _, _, dLoop_rt hr hbd hB⟩
      · rw [if_neg c] at hB
        rw [if_neg c]
        rw [dLoop_nx hr hbd hB]
        exact ih (i + 1) fuel _ _ w6 (by omega) (by omega) (.inr ⟨_, rfl⟩) (.inr ⟨_, rfl⟩) f6
theorem v_next {rows : List (List De)} {bg : List Nat} {t : Ty} {mk : Int} (hbl : bg.length = rows.length) : K17.g_next_place [RR rows, dL nD bg, t.s, .dat (.int mk)] = some (.dat (oN (npF t mk rows bg 0)), [RR rows, dL nD bg, t.s, .dat (.int mk)]) := by
  have hsrc : iEnumS (dVar 0) (eP rows bg t mk .no .no .no) = some ⟨eP rows bg t mk .no .no .no, [], rdEn (rdD (rows.map roD)), (rows.map roD).length⟩ := rfl
  obtain ⟨w4, w5, w6, h⟩ := np_loop (t := t) (mk := mk) hbl rows.length 0 (rows.map roD).length .no .no .no (by omega) (by simp) (.inl rfl) (.inl rfl) (.inl rfl)
  rw [List.drop_zero, List.drop_zero] at h
  cases hj : npF t mk rows bg 0 with
  | none =>
    rw [hj] at h
    have c2 := dFor_go (E1 := eP rows bg t mk w4 w5 w6) hsrc (by rw [List.append_nil]; exact h)
    exact fnG_rt (dSeq_go c2 (dRet_go rfl)) rfl
  | some k =>
    rw [hj] at h
    have c2 : dFor (iEnumS (dVar 0)) npT npB (eP rows bg t mk .no .no .no) = some (.rt (.dat (.int (k : Nat))) (eP rows bg t mk w4 w5 w6)) := by
      unfold dFor
      rw [hsrc]
      simp only [List.append_nil]
      rw [h]; rfl
    exact fnG_rt (dSeq_rt c2) rfl
def pD (p : Nat × De) : PyData := .tuple [.int (p.1 : Int), p.2.d]
def eI (rows : List (List De)) (t : Ty) (bg : List Nat) (row : List (Nat × De)) (v4 v5 v6 : Sl) (G : En) : En := [.own (RR rows), .own t.s, .own (dL nD bg), .own (dL pD row), v4, v5, v6, .no, .own (RR rows)] ++ G
def gT (ms : List Int) : En := [.own (lI ms), .bor [9]]
def nxt (rows : List (List De)) (bg : List Nat) (k : Nat) : Option De := (rows[k]?).bind fun ds => (bg[k]?).bind fun b => ds[b]?
def ioF (rows : List (List De)) : List Int → Ty → List Nat → List (Nat × De) → Option (List (Nat × De))
  | [], _, _, row => some row
  | mk :: ms, t, bg, row => match npF t mk rows bg 0 with
    | none => none
    | some k => match nxt rows bg k with
      | some e => ioF rows ms (t.note e) (bg.modify k (· + 1)) (row ++ [(k, e)])
      | none => none
theorem npF_some {t : Ty} {mk : Int} : ∀ {rows : List (List De)} {bg : List Nat} {i k : Nat}, npF t mk rows bg i = some k → i ≤ k ∧ ∃ ds b e, rows[k - i]? = some ds ∧ bg[k - i]? = some b ∧ ds[b]? = some e ∧ e.make = mk ∧ t.lets e = true
  | [], _, _, _, h => by simp [npF] at h
  | _ :: _, [], _, _, h => by simp [npF] at h
  | ds :: rows, b :: bg, i, k, h => by
    unfold npF at h
    split at h
    · next c =>
      cases h
      unfold canB at c
      split at c
      · next e he =>
        rw [Bool.and_eq_true, decide_eq_true_eq] at c
        exact ⟨Nat.le_refl _, ds, b, e, by simp, by simp, he, c.1, c.2⟩
      · cases c
    · obtain ⟨h1, ds', b', e, h2, h3, h4⟩ := npF_some h
      have : k - i = k - (i + 1) + 1 := by omega
      exact ⟨by omega, ds', b', e, by rw [this, List.getElem?_cons_succ]; exact h2, by rw [this, List.getElem?_cons_succ]; exact h3, h4⟩
def makes (rows : List (List De)) : List Int := rows.flatten.map (·.make)
theorem inner_is {rows : List (List De)} {d : PyData} : ∀ (ds : List De), innerD (dIxT (dVar 6) (dNeg (dC (.int 1)))) 7 6 (eI rows t0 (rows.map fun _ => 0) [] .no .no .no []) d (ds.map De.d) = some (ds.map fun e => PyData.int e.make)
  | [] => rfl
  | e :: ds => by
    show (match dIxT (dVar 6) (dNeg (dC (.int 1))) (slotSet (slotSet (eI rows t0 (rows.map fun _ => 0) [] .no .no .no []) 7 (.own (.dat d))) 6 (.own (.dat e.d))) with | some (.val (.dat v)) => (innerD _ 7 6 _ d (ds.map De.d)).map (v :: ·) | _ => none) = _
    rw [inner_is ds]; rfl
theorem outer_is {rows : List (List De)} : ∀ (q : List (List De)), outerD (dIxT (dVar 6) (dNeg (dC (.int 1)))) 7 6 (eI rows t0 (rows.map fun _ => 0) [] .no .no .no []) (q.map roD) = some ((makes q).map .int)
  | [] => rfl
  | ds :: q => by
    have e : makes (ds :: q) = ds.map (·.make) ++ makes q := by unfold makes; rw [List.flatten_cons, List.map_append]
    show (match innerD _ 7 6 _ (roD ds) (ds.map De.d), outerD _ 7 6 _ (q.map roD) with | some a, some b => some (a ++ b) | _, _ => none) = _
    rw [inner_is ds, outer_is q, e, List.map_append, List.map_map]; rfl
def ioB : En → Option Out := (dSeq (dSet 5 (eCall K17.g_next_place (dCons (dVar 0) (dCons (dVar 2) (dCons (dVar 1) (dCons (dVar 4) dNil))))))
    (dSeq (dIf (ePureT (dTest (dOp fIsN (dVar 5) (dC .none)))) (dRet (ePure (dC .none))) dNext)
    (dSeq (dAlias 6 (dIxL (dIxL (dVar 0) (dVar 5)) (dIxL (dVar 2) (dVar 5))))
    (dSeq (dLAug (dVar 2) (dVar 5) fAdd (dC (.int 1)))
    (dSeq (dDrop (eCall K17.g_Tally_note (dCons (dIns 4 (dVar 1)) (dCons (dVar 6) dNil))))
    (dDrop (eBM1 oAppend (dVar 3) (dTupL (dCons (dVar 5) (dCons (dVar 6) dNil))))))))))
theorem io_place {rows : List (List De)} {t : Ty} {bg : List Nat} {row : List (Nat × De)} {mk : Int} {ms : List Int} {v5 v6 : Sl} {o : Option Nat} (hbl : bg.length = rows.length) (h5 : Fr v5) (h6 : Fr v6) (hn : npF t mk rows bg 0 = o) :
    dSet 5 (eCall K17.g_next_place (dCons (dVar 0) (dCons (dVar 2) (dCons (dVar 1) (dCons (dVar 4) dNil))))) (eI rows t bg row (.own (.dat (.int mk))) v5 v6 (gT ms)) = some (.nx (eI rows t bg row (.own (.dat (.int mk))) (.own (.dat (oN o))) v6 (gT ms))) := by
  have c := v_next (rows := rows) (t := t) (mk := mk) hbl
  rw [hn] at c
  rcases h5 with rfl | ⟨s5, rfl⟩ <;> rcases h6 with rfl | ⟨s6, rfl⟩ <;> exact (dSet_go (eCall_go (rs := [.val (RR rows), .pl [2], .pl [1], .val (.dat (.int mk))]) rfl rfl rfl c)).trans rfl
theorem io_none {rows : List (List De)} {t : Ty} {bg : List Nat} {row : List (Nat × De)} {mk : Int} {ms : List Int} {v5 v6 : Sl} (hbl : bg.length = rows.length) (h5 : Fr v5) (h6 : Fr v6) (hn : npF t mk rows bg 0 = none) :
    ioB (eI rows t bg row (.own (.dat (.int mk))) v5 v6 (gT ms)) = some (.rt (.dat .none) (eI rows t bg row (.own (.dat (.int mk))) (.own (.dat .none)) v6 (gT ms))) := by
  have s1 := io_place (row := row) (ms := ms) hbl h5 h6 hn
  exact dSeq_go s1 (dSeq_rt (dIf_t (E1 := eI rows t bg row (.own (.dat (.int mk))) (.own (.dat .none)) v6 (gT ms)) rfl (dRet_go rfl)))
theorem io_step {rows : List (List De)} {t : Ty} {bg : List Nat} {row : List (Nat × De)} {mk : Int} {ms : List Int} {v5 v6 : Sl} {k q : Nat} {e : De} (hbl : bg.length = rows.length) (h5 : Fr v5) (h6 : Fr v6) (hn : npF t mk rows bg 0 = some k) (he : nxt rows bg k = some e) (ok : t.Ok q) (hq : q < 1000) (hr : row.length < 90000) :
    ioB (eI rows t bg row (.own (.dat (.int mk))) v5 v6 (gT ms)) = some (.nx (eI rows (t.note e) (bg.modify k (· + 1)) (row ++ [(k, e)]) (.own (.dat (.int mk))) (.own (.dat (.int (k : Nat)))) (.own (.dat e.d)) (gT ms))) := by
  have s1 := io_place (row := row) (ms := ms) hbl h5 h6 hn
  let V4 : Sl := .own (.dat (.int mk))
  let V5 : Sl := .own (.dat (.int (k : Nat)))
  let V6 : Sl := .own (.dat e.d)
  unfold nxt at he
  obtain ⟨ds, hds, he⟩ := Option.bind_eq_some_iff.mp he
  obtain ⟨b, hb, he⟩ := Option.bind_eq_some_iff.mp he
  have s2 : dIf (ePureT (dTest (dOp fIsN (dVar 5) (dC .none)))) (dRet (ePure (dC .none))) dNext (eI rows t bg row V4 V5 v6 (gT ms)) = some (.nx (eI rows t bg row V4 V5 v6 (gT ms))) := dIf_f rfl rfl
  have g1 : dIxL (dVar 2) (dVar 5) (eI rows t bg row V4 V5 v6 (gT ms)) = some (.val (.dat (.int (b : Nat)))) := ixL_at (f := nD) (l := bg) (p := k) (rr := .pl [2]) rfl (S.get_nil _) rfl hb
  have g2 : dIxL (dVar 0) (dVar 5) (eI rows t bg row V4 V5 v6 (gT ms)) = some (.val (.dat (roD ds))) := ixD (f := roD) (l := rows) (p := k) rfl rfl hds
  have g3 : dIxL (dIxL (dVar 0) (dVar 5)) (dIxL (dVar 2) (dVar 5)) (eI rows t bg row V4 V5 v6 (gT ms)) = some (.val (.dat e.d)) := ixD (f := De.d) (l := ds) (p := b) g2 g1 he
  have s3 : dAlias 6 (dIxL (dIxL (dVar 0) (dVar 5)) (dIxL (dVar 2) (dVar 5))) (eI rows t bg row V4 V5 v6 (gT ms)) = some (.nx (eI rows t bg row V4 V5 V6 (gT ms))) := by
    unfold dAlias
    rw [g3]
    rcases h6 with rfl | ⟨s, rfl⟩ <;> rfl
  have kl : k < bg.length := (List.getElem?_eq_some_iff.mp hb).1
  have s4 : dLAug (dVar 2) (dVar 5) fAdd (dC (.int 1)) (eI rows t bg row V4 V5 V6 (gT ms)) = some (.nx (eI rows t (bg.modify k (· + 1)) row V4 V5 V6 (gT ms))) := by
    have e1 : dVar 2 (eI rows t bg row V4 V5 V6 (gT ms)) = some (.pl [2]) := rfl
    have e2 : dVar 5 (eI rows t bg row V4 V5 V6 (gT ms)) = some (.val (.dat (.int (k : Nat)))) := rfl
    have e3 : dC (.int 1) (eI rows t bg row V4 V5 V6 (gT ms)) = some (.val (.dat (.int 1))) := rfl
    have e4 : eget (eI rows t bg row V4 V5 V6 (gT ms)) [2] = some (.lst (bg.map fun n => S.dat (nD n))) := S.get_nil _
    have e5 : ixN (bg.map fun n => S.dat (nD n)).length ((k : Nat) : Int) = some k := ixN_in (by rw [List.length_map]; exact kl)
    have e6 : (bg.map fun n => S.dat (nD n))[k]? = some (.dat (nD b)) := by rw [List.getElem?_map, hb]; rfl
    have e7 : (bg.map fun n => S.dat (nD n)).set k (.dat (.int ((b : Int) + 1))) = (bg.modify k (· + 1)).map fun n => S.dat (nD n) := by
      refine List.ext_getElem? fun j => ?_
      rw [List.getElem?_map, List.getElem?_modify, List.getElem?_set]
      by_cases c : k = j
      · subst c
        rw [if_pos rfl, if_pos (by rw [List.length_map]; exact kl), hb]
        simp [nD]
      · rw [if_neg c, List.getElem?_map]
        cases bg[j]? <;> simp [c]
    unfold dLAug
    rw [e1, e2, e3]
    simp only [e4, e5, e6]
    show (match fAdd (nD b) (.int 1) with | some c => stepAt (oLSet ((k : Nat) : Int)) _ [2] (.dat c) | none => none) = _
    show stepAt (oLSet ((k : Nat) : Int)) (eI rows t bg row V4 V5 V6 (gT ms)) [2] (.dat (.int ((b : Int) + 1))) = _
    unfold stepAt
    rw [e4]
    simp only [oLSet, e5, e7]
    rfl
  have s5 : dDrop (eCall K17.g_Tally_note (dCons (dIns 4 (dVar 1)) (dCons (dVar 6) dNil))) (eI rows t (bg.modify k (· + 1)) row V4 V5 V6 (gT ms)) = some (.nx (eI rows (t.note e) (bg.modify k (· + 1)) row V4 V5 V6 (gT ms))) :=
    dDrop_go (eCall_go (rs := [.pl [1], .val (.dat e.d)]) rfl rfl rfl (v_note ok hq))
  have s6 : dDrop (eBM1 oAppend (dVar 3) (dTupL (dCons (dVar 5) (dCons (dVar 6) dNil)))) (eI rows (t.note e) (bg.modify k (· + 1)) row V4 V5 V6 (gT ms)) = some (.nx (eI rows (t.note e) (bg.modify k (· + 1)) (row ++ [(k, e)]) V4 V5 V6 (gT ms))) := by
    have tt : dTupL (dCons (dVar 5) (dCons (dVar 6) dNil)) (eI rows (t.note e) (bg.modify k (· + 1)) row V4 V5 V6 (gT ms)) = some (.val (.dat (pD (k, e)))) := tupL_go (rs := [.val (.dat (.int (k : Nat))), .val (.dat e.d)]) rfl (by simp) rfl
    have := app_go (da := dVar 3) (E := eI rows (t.note e) (bg.modify k (· + 1)) row V4 V5 V6 (gT ms)) (p := [3]) (ss := row.map fun p => S.dat (pD p)) rfl (S.get_nil _) tt (by rw [List.length_map]; omega)
    rw [show (row.map fun p => S.dat (pD p)) ++ [S.dat (pD (k, e))] = (row ++ [(k, e)]).map fun p => S.dat (pD p) by simp] at this
    exact dDrop_go (s := .dat .none) (this.trans rfl)
  exact dSeq_go s1 (dSeq_go s2 (dSeq_go s3 (dSeq_go s4 (dSeq_go s5 s6))))
theorem io_loop {rows : List (List De)} {ms : List Int} : ∀ (m i fuel : Nat) (t : Ty) (bg : List Nat) (row : List (Nat × De)) (v4 v5 v6 : Sl) (q : Nat), i + m = ms.length → m ≤ fuel → bg.length = rows.length → t.Ok q → q + m < 1000 → row.length + m < 90000 → Fr v4 → Fr v5 → Fr v6 →
    ∃ t' bg' row' w4 w5 w6, Fr w4 ∧ Fr w5 ∧ Fr w6 ∧ dLoop rdP (bName 4) ioB fuel i (eI rows t bg row v4 v5 v6 (gT ms)) = some (match ioF rows (ms.drop i) t bg row with | none => .rt (.dat .none) (eI rows t' bg' row' w4 w5 w6 (gT ms)) | some R => .nx (eI rows t' bg' R w4 w5 w6 (gT ms))) := by
  intro m
  induction m with
  | zero =>
    intro i fuel t bg row v4 v5 v6 q hi _ _ _ _ _ h4 h5 h6
    have : i = ms.length := by omega
    subst this
    refine ⟨t, bg, row, v4, v5, v6, h4, h5, h6, ?_⟩
    have he : rdP (eI rows t bg row v4 v5 v6 (gT ms)) ms.length = some none := rdP_en (f := PyData.int) (l := ms) (p := [9]) rfl (S.get_nil _) (Nat.le_refl _)
    rw [dLoop_end he, List.drop_length]; rfl
  | succ m ih =>
    intro i fuel t bg row v4 v5 v6 q hi hf hbl ok hq hrl h4 h5 h6
    cases fuel with
    | zero => omega
    | succ fuel =>
      have hil : i < ms.length := by omega
      have hv : ms[i]? = some ms[i] := List.getElem?_eq_getElem hil
      rw [List.drop_eq_getElem_cons hil]
      generalize ms[i] = mk at hv
      have hr : rdP (eI rows t bg row v4 v5 v6 (gT ms)) i = some (some (.val (.dat (.int mk)))) := rdP_at (f := PyData.int) (l := ms) (p := [9]) rfl (S.get_nil _) hv
      have hb : bName 4 (.val (.dat (.int mk))) (eI rows t bg row v4 v5 v6 (gT ms)) = some (eI rows t bg row (.own (.dat (.int mk))) v5 v6 (gT ms)) := by
        rcases h4 with rfl | ⟨s4, rfl⟩ <;> rcases h5 with rfl | ⟨s5, rfl⟩ <;> rcases h6 with rfl | ⟨s6, rfl⟩ <;> rfl
      unfold ioF
      cases hn : npF t mk rows bg 0 with
      | none => exact ⟨t, bg, row, _, _, v6, .inr ⟨_, rfl⟩, .inr ⟨_, rfl⟩, h6, dLoop_rt hr hb (io_none hbl h5 h6 hn)⟩
      | some k =>
        obtain ⟨_, ds, b, e, g1, g2, g3, _, _⟩ := npF_some hn
        have he : nxt rows bg k = some e := by
          unfold nxt
          rw [Nat.sub_zero] at g1 g2
          rw [g1, Option.bind_some, g2, Option.bind_some, g3]
        have hB := io_step (ms := ms) hbl h5 h6 hn he ok (by omega) (by omega : row.length < 90000)
        simp only [he]
        rw [dLoop_nx hr hb hB]
        exact ih (i + 1) fuel (t.note e) (bg.modify k (· + 1)) (row ++ [(k, e)]) _ _ _ (q + 1) (by omega) (by omega) (by rw [List.length_modify]; exact hbl) (ok.note e) (by omega) (by rw [List.length_append]; simp; omega) (.inr ⟨_, rfl⟩) (.inr ⟨_, rfl⟩) (.inr ⟨_, rfl⟩)
theorem rep0 : ∀ (rows : List (List De)), (List.replicate rows.length [S.dat (.int 0)]).flatten = (rows.map fun _ => (0 : Nat)).map fun n => S.dat (nD n)
  | [] => rfl
  | _ :: rows => by rw [List.length_cons, List.replicate_succ, List.flatten_cons, rep0 rows]; rfl
theorem makes_len {rows : List (List De)} : (makes rows).length = rows.flatten.length := by unfold makes; rw [List.length_map]
theorem v_in_one {rows : List (List De)} (h1 : rows.length < 1000) (h2 : rows.flatten.length < 900) : K17.g_in_one [RR rows] = some (match ioF rows (sortU (makes rows)) t0 (rows.map fun _ => 0) [] with | none => .dat .none | some R => dL pD R, [RR rows]) := by
  let bg0 : List Nat := rows.map fun _ => 0
  let N : Sl := .no
  have s1 : dSet 1 (eEff lNil fun k => dWhen (k + 1) 1 (eMk 4 k K17.g_Tally___init__)) (entry 8 [RR rows]) = some (.nx [.own (RR rows), .own t0.s, N, N, N, N, N, N, .own (RR rows)]) := rfl
  have s2 : dAlias 2 (dOpS fRep (dLst (dCons (dC (.int 0)) dNil)) (dLen (dVar 0))) [.own (RR rows), .own t0.s, N, N, N, N, N, N, .own (RR rows)] = some (.nx [.own (RR rows), .own t0.s, .own (dL nD bg0), N, N, N, N, N, .own (RR rows)]) := by
    have hlen : dLen (dVar 0) [.own (RR rows), .own t0.s, N, N, N, N, N, N, .own (RR rows)] = some (.val (.dat (.int (rows.length : Nat)))) := by
      show some (Rs.val (.dat (.int ((rows.map roD).length : Nat)))) = _
      rw [List.length_map]
    have hrep : fRep (.lst [.dat (.int 0)]) (.dat (.int (rows.length : Nat))) = some (dL nD bg0) := by
      unfold fRep
      show (if 0 ≤ ((rows.length : Nat) : Int) ∧ ((rows.length : Nat) : Int) < 100000 ∧ 1 * ((rows.length : Nat) : Int).toNat < 100000 then some (S.lst (List.replicate ((rows.length : Nat) : Int).toNat [S.dat (.int 0)]).flatten) else none) = _
      rw [if_pos ⟨by omega, by omega, by omega⟩, Int.toNat_natCast, rep0]
      rfl
    have ho : dOpS fRep (dLst (dCons (dC (.int 0)) dNil)) (dLen (dVar 0)) [.own (RR rows), .own t0.s, N, N, N, N, N, N, .own (RR rows)] = some (.val (dL nD bg0)) := by
      unfold dOpS
      rw [hlen]
      show (fRep (.lst [.dat (.int 0)]) (.dat (.int (rows.length : Nat)))).map Rs.val = _
      rw [hrep]; rfl
    unfold dAlias
    rw [ho]
    rfl
  have s3 : dAlias 3 (dLst dNil) [.own (RR rows), .own t0.s, .own (dL nD bg0), N, N, N, N, N, .own (RR rows)] = some (.nx (eI rows t0 bg0 [] N N N [])) := rfl
  have hml : (makes rows).length < 900 := by rw [makes_len]; exact h2
  have e1 : eLc2 (dVar 0) 7 6 (dIxT (dVar 6) (dNeg (dC (.int 1)))) (eI rows t0 bg0 [] N N N []) = some (lI (makes rows), eI rows t0 bg0 [] N N N []) := by
    have d0 : dVar 0 (eI rows t0 bg0 [] N N N []) = some (.val (.dat (.list (rows.map roD)))) := rfl
    unfold eLc2
    rw [d0]
    simp only [outer_is rows, bg0, N]
    rw [if_pos (by rw [List.length_map]; omega), List.map_map]
    rfl
  have e2 : fSorted [lI (makes rows)] = some (lI (sortU (makes rows))) := by
    unfold fSorted
    simp only [Gn.lI_seqL, intsD_map]
    rfl
  have hsl : (sortU (makes rows)).length = (makes rows).length := by unfold sortU; rw [List.length_mergeSort]
  have hsrc : iLstE (eCS fSorted (eLc2 (dVar 0) 7 6 (dIxT (dVar 6) (dNeg (dC (.int 1)))))) (eI rows t0 bg0 [] N N N []) = some ⟨eI rows t0 bg0 [] N N N [], gT (sortU (makes rows)), rdP, (sortU (makes rows)).length⟩ := by
    unfold iLstE
    rw [eCS_go e1 e2]
    show some (Src.mk _ _ rdP ((sortU (makes rows)).map fun i => S.dat (.int i)).length) = _
    rw [List.length_map]; rfl
  obtain ⟨t', bg', row', w4, w5, w6, f4, f5, f6, hlp⟩ := io_loop (rows := rows) (ms := sortU (makes rows)) (sortU (makes rows)).length 0 (sortU (makes rows)).length t0 bg0 [] N N N 0 (by omega) (Nat.le_refl _) (by simp [bg0]) t0_ok (by omega) (by simp; omega) (.inl rfl) (.inl rfl) (.inl rfl)
  rw [List.drop_zero] at hlp
  have hE : eI rows t0 bg0 [] N N N [] ++ gT (sortU (makes rows)) = eI rows t0 bg0 [] N N N (gT (sortU (makes rows))) := rfl
  cases ho : ioF rows (sortU (makes rows)) t0 bg0 [] with
  | none =>
    rw [ho] at hlp
    have c2 : dFor (iLstE (eCS fSorted (eLc2 (dVar 0) 7 6 (dIxT (dVar 6) (dNeg (dC (.int 1))))))) (bName 4) ioB (eI rows t0 bg0 [] N N N []) = some (.rt (.dat .none) (stripE ⟨eI rows t0 bg0 [] N N N [], gT (sortU (makes rows)), rdP, (sortU (makes rows)).length⟩ (eI rows t' bg' row' w4 w5 w6 (gT (sortU (makes rows)))))) := by
      unfold dFor
      rw [hsrc]
      simp only [hE, hlp]
      rfl
    refine fnG_rt (dSeq_go s1 (dSeq_go s2 (dSeq_go s3 (dSeq_rt c2)))) ?_
    rcases f4 with rfl | ⟨s4, rfl⟩ <;> rcases f5 with rfl | ⟨s5, rfl⟩ <;> rcases f6 with rfl | ⟨s6, rfl⟩ <;> rfl
  | some R =>
    rw [ho] at hlp
    have c2 := dFor_go (bd := bName 4) (db := ioB) hsrc (E1 := eI rows t' bg' R w4 w5 w6 (gT (sortU (makes rows)))) (by rw [hE]; exact hlp)
    have c3 : stripE ⟨eI rows t0 bg0 [] N N N [], gT (sortU (makes rows)), rdP, (sortU (makes rows)).length⟩ (eI rows t' bg' R w4 w5 w6 (gT (sortU (makes rows)))) = eI rows t' bg' R w4 w5 w6 [] := by
      rcases f4 with rfl | ⟨s4, rfl⟩ <;> rcases f5 with rfl | ⟨s5, rfl⟩ <;> rcases f6 with rfl | ⟨s6, rfl⟩ <;> rfl
    rw [c3] at c2
    refine fnG_rt (E := [.own (RR rows), .own t'.s, .own (dL nD bg'), .no, w4, w5, w6, .no, .own (RR rows)]) (dSeq_go s1 (dSeq_go s2 (dSeq_go s3 (dSeq_go c2 (dRet_go ?_))))) rfl
    rcases f4 with rfl | ⟨s4, rfl⟩ <;> rcases f5 with rfl | ⟨s5, rfl⟩ <;> rcases f6 with rfl | ⟨s6, rfl⟩ <;> rfl
theorem lets_iff {t : Ty} {e : De} : t.lets e = true ↔ e.count = (t.at e.slot).2 + 1 ∧ e.worth = ((t.at e.slot).1 + e.more) % 1000 ∧ e.num = t.num e.asker + 1 ∧ t.make ≤ e.make := by
  unfold Ty.lets
  simp only [Bool.and_eq_true, decide_eq_true_eq]
  constructor
  · rintro ⟨⟨⟨a, b⟩, c⟩, d⟩; exact ⟨a, b, c, d⟩
  · rintro ⟨a, b, c, d⟩; exact ⟨⟨⟨a, b⟩, c⟩, d⟩
theorem note_at {t : Ty} {e : De} {s : Int} : (t.note e).at s = if e.slot = s then (e.worth, e.count) else t.at s := by
  unfold Ty.at Ty.note
  simp only [getK_put]
  split <;> rfl
theorem note_num {t : Ty} {e : De} {a : Int} : (t.note e).num a = if e.asker = a then e.num else t.num a := by
  unfold Ty.num Ty.note
  simp only [getK_put]
  split <;> rfl
structure TyEq (t t' : Ty) : Prop where
  at_ : ∀ s, t.at s = t'.at s
  num : ∀ a, t.num a = t'.num a
  make : t.make = t'.make
theorem TyEq.lets {t t' : Ty} (h : TyEq t t') (e : De) : t.lets e = t'.lets e := by
  unfold Ty.lets
  rw [h.at_, h.num, h.make]
theorem TyEq.note {t t' : Ty} (h : TyEq t t') (e : De) : TyEq (t.note e) (t'.note e) :=
  ⟨fun s => by rw [note_at, note_at, h.at_], fun a => by rw [note_num, note_num, h.num], rfl⟩
inductive Run (rows : List (List De)) : Ty → List Nat → List (Nat × De) → Prop
  | done {t : Ty} {bg : List Nat} : (∀ k, nxt rows bg k = none) → Run rows t bg []
  | step {t : Ty} {bg : List Nat} {k : Nat} {e : De} {W : List (Nat × De)} : nxt rows bg k = some e → t.lets e = true → Run rows (t.note e) (bg.modify k (· + 1)) W → Run rows t bg ((k, e) :: W)
variable {rows : List (List De)} {t t' : Ty} {bg : List Nat} {W : List (Nat × De)} {k k0 : Nat} {e e0 : De}
theorem Run.congr (R : Run rows t bg W) : ∀ {t' : Ty}, TyEq t t' → Run rows t' bg W := by
  induction R with
  | done h => intro t' _; exact .done h
  | step h1 h2 _ ih => intro t' q; exact .step h1 ((q.lets _).symm.trans h2) (ih (q.note _))
theorem nxt_ne (h : k ≠ k0) : nxt rows (bg.modify k (· + 1)) k0 = nxt rows bg k0 := by
  unfold nxt
  rw [List.getElem?_modify]
  cases bg[k0]? <;> simp [h]
theorem Run.later (R : Run rows t bg W) (h0 : nxt rows bg k0 = some e0) : ∃ t' : Ty, t'.lets e0 = true ∧ (∀ s, (t.at s).2 ≤ (t'.at s).2) ∧ (∀ a, t.num a ≤ t'.num a) ∧ t.make ≤ t'.make := by
  induction R with
  | done h => rw [h k0] at h0; cases h0
  | @step t bg k e W h1 h2 _ ih =>
    by_cases c : k = k0
    · subst c
      rw [h1] at h0; cases h0
      exact ⟨t, h2, fun _ => Int.le_refl _, fun _ => Int.le_refl _, Int.le_refl _⟩
    · obtain ⟨t', a1, a2, a3, a4⟩ := ih (by rw [nxt_ne c]; exact h0)
      obtain ⟨l1, l2, l3, l4⟩ := lets_iff.mp h2
      refine ⟨t', a1, fun s => ?_, fun a => ?_, ?_⟩
      · have := a2 s
        rw [note_at] at this
        by_cases q : e.slot = s
        · rw [if_pos q] at this
          subst q
          have : e.count ≤ (t'.at e.slot).2 := this
          omega
        · rw [if_neg q] at this; exact this
      · have := a3 a
        rw [note_num] at this
        by_cases q : e.asker = a
        · rw [if_pos q] at this
          subst q
          omega
        · rw [if_neg q] at this; exact this
      · have : e.make ≤ t'.make := a4
        omega
theorem Run.front (R : Run rows t bg W) (h0 : nxt rows bg k0 = some e0) (hl : t.lets e0 = true) (hm : ∀ p ∈ W, e0.make ≤ p.2.make) : ∃ W', Run rows (t.note e0) (bg.modify k0 (· + 1)) W' ∧ W'.length + 1 = W.length ∧ e0.make :: W'.map (fun p => p.2.make) = W.map (fun p => p.2.make) := by
  induction R with
  | done h => rw [h k0] at h0; cases h0
  | @step t bg k e W h1 h2 R1 ih =>
    by_cases c : k = k0
    · subst c
      rw [h1] at h0; cases h0
      exact ⟨W, R1, rfl, rfl⟩
    · have h0' : nxt rows (bg.modify k (· + 1)) k0 = some e0 := by rw [nxt_ne c]; exact h0
      obtain ⟨t', a1, a2, a3, a4⟩ := R1.later h0'
      obtain ⟨l1, l2, l3, l4⟩ := lets_iff.mp h2
      obtain ⟨m1, m2, m3, m4⟩ := lets_iff.mp hl
      obtain ⟨n1, n2, n3, n4⟩ := lets_iff.mp a1
      have hs : e.slot ≠ e0.slot := fun q => by
        have := a2 e0.slot
        rw [note_at, if_pos q] at this
        have this : e.count ≤ (t'.at e0.slot).2 := this
        rw [q] at l1
        omega
      have ha : e.asker ≠ e0.asker := fun q => by
        have := a3 e0.asker
        rw [note_num, if_pos q] at this
        rw [q] at l3
        omega
      have hme : e.make ≤ e0.make := by
        have : e.make ≤ t'.make := a4
        omega
      have hem : e0.make ≤ e.make := hm (k, e) List.mem_cons_self
      have hl' : (t.note e).lets e0 = true := lets_iff.mpr ⟨by rw [note_at, if_neg hs]; exact m1, by rw [note_at, if_neg hs]; exact m2, by rw [note_num, if_neg ha]; exact m3, hme⟩
      obtain ⟨W', b1, b2, b3⟩ := ih h0' hl' fun p m => hm p (List.mem_cons_of_mem _ m)
      have hq : (t.note e0).lets e = true := lets_iff.mpr ⟨by rw [note_at, if_neg (Ne.symm hs)]; exact l1, by rw [note_at, if_neg (Ne.symm hs)]; exact l2, by rw [note_num, if_neg (Ne.symm ha)]; exact l3, hem⟩
      have teq : TyEq ((t.note e).note e0) ((t.note e0).note e) := ⟨fun s => by
          rw [note_at, note_at, note_at, note_at]
          by_cases z : e0.slot = s
          · rw [if_pos z, if_neg (fun y => hs (y.trans z.symm)), if_pos z]
          · rw [if_neg z, if_neg z], fun a => by
          rw [note_num, note_num, note_num, note_num]
          by_cases z : e0.asker = a
          · rw [if_pos z, if_neg (fun y => ha (y.trans z.symm)), if_pos z]
          · rw [if_neg z, if_neg z], by show e0.make = e.make; omega⟩
      have hbg : (bg.modify k (· + 1)).modify k0 (· + 1) = (bg.modify k0 (· + 1)).modify k (· + 1) := by
        refine List.ext_getElem? fun j => ?_
        simp only [List.getElem?_modify]
        cases bg[j]? with
        | none => rfl
        | some b =>
          by_cases z1 : k = j <;> by_cases z2 : k0 = j <;> simp [z1, z2]
      refine ⟨(k, e) :: W', .step (by rw [nxt_ne (Ne.symm c)]; exact h1) hq (by rw [← hbg]; exact b1.congr teq), by simp only [List.length_cons]; omega, ?_⟩
      simp only [List.map_cons]
      have : e0.make = e.make := by omega
      rw [← b3, this]
theorem Run.least (R : Run rows t bg W) : ∀ p ∈ W, t.make ≤ p.2.make := by
  induction R with
  | done _ => exact fun _ m => nomatch m
  | @step t bg k e W h1 h2 _ ih =>
    obtain ⟨_, _, _, l4⟩ := lets_iff.mp h2
    intro p m
    rcases List.mem_cons.mp m with rfl | m
    · exact l4
    · have : e.make ≤ p.2.make := ih p m
      omega
variable {mk : Int}
inductive LexLe : List Nat → List Nat → Prop
  | nil : LexLe [] []
  | lt {a b : Nat} {x y : List Nat} : a < b → LexLe (a :: x) (b :: y)
  | eq {a : Nat} {x y : List Nat} : LexLe x y → LexLe (a :: x) (a :: y)
theorem npF_first : ∀ {rows : List (List De)} {bg : List Nat} {i k1 : Nat} {ds : List De} {b : Nat}, rows[k1]? = some ds → bg[k1]? = some b → canB t mk ds b = true → ∃ k0, npF t mk rows bg i = some k0 ∧ k0 ≤ i + k1
  | [], _, _, _, _, _, h, _, _ => by simp at h
  | _ :: _, [], _, _, _, _, _, h, _ => by simp at h
  | ds :: rows, b :: bg, i, 0, _, _, h1, h2, h3 => by
    simp at h1 h2
    subst h1 h2
    exact ⟨i, by unfold npF; rw [if_pos h3], by omega⟩
  | ds :: rows, b :: bg, i, k1 + 1, ds1, b1, h1, h2, h3 => by
    unfold npF
    by_cases c : canB t mk ds b = true
    · exact ⟨i, by rw [if_pos c], by omega⟩
    · obtain ⟨k0, a, q⟩ := npF_first (i := i + 1) (rows := rows) (bg := bg) (by simpa using h1) (by simpa using h2) h3
      exact ⟨k0, by rw [if_neg c]; exact a, by omega⟩
theorem greedy : ∀ (n : Nat) {W : List (Nat × De)} {t : Ty} {bg : List Nat} {row : List (Nat × De)}, W.length = n → Run rows t bg W → ∃ R, ioF rows (W.map fun p => p.2.make) t bg row = some (row ++ R) ∧ Run rows t bg R ∧ R.length = W.length ∧ LexLe (R.map (·.1)) (W.map (·.1))
  | 0, W, t, bg, row, hn, R => by
    have : W = [] := List.eq_nil_of_length_eq_zero hn
    subst this
    exact ⟨[], by simp [ioF], R, rfl, .nil⟩
  | n + 1, W, t, bg, row, hn, R => by
    have R' := R
    cases R with
    | done h => simp at hn
    | @step _ _ k1 e1 W1 h1 h2 R1 =>
      have hn1 : W1.length = n := by simpa using hn
      have h1' := h1
      unfold nxt at h1'
      obtain ⟨ds, hds, h1'⟩ := Option.bind_eq_some_iff.mp h1'
      obtain ⟨b, hb, h1'⟩ := Option.bind_eq_some_iff.mp h1'
      have hc : canB t e1.make ds b = true := by
        unfold canB
        rw [h1']
        simp [h2]
      obtain ⟨k0, hk0, le⟩ := npF_first (i := 0) hds hb hc
      obtain ⟨_, ds0, b0, e0, g1, g2, g3, g4, g5⟩ := npF_some hk0
      rw [Nat.sub_zero] at g1 g2
      have hx : nxt rows bg k0 = some e0 := by unfold nxt; rw [g1, Option.bind_some, g2, Option.bind_some, g3]
      have hm : ∀ p ∈ (k1, e1) :: W1, e0.make ≤ p.2.make := by
        intro p m
        rw [g4]
        rcases List.mem_cons.mp m with rfl | m
        · exact Int.le_refl _
        · exact R1.least p m
      obtain ⟨W', b1, b2, b3⟩ := R'.front hx g5 hm
      have hlen : W'.length = n := by simp only [List.length_cons] at b2; omega
      obtain ⟨Q, q1, q2, q3, q4⟩ := greedy n (row := row ++ [(k0, e0)]) hlen b1
      have hms : W'.map (fun p => p.2.make) = W1.map (fun p => p.2.make) := by
        simp only [List.map_cons] at b3
        exact (List.cons.inj b3).2
      refine ⟨(k0, e0) :: Q, ?_, .step hx g5 q2, by simp only [List.length_cons]; omega, ?_⟩
      · rw [List.map_cons]
        unfold ioF
        simp only [hk0, hx]
        rw [← hms, q1]
        simp
      · rw [List.map_cons, List.map_cons]
        by_cases c : k0 = k1
        · subst c
          have : e0 = e1 := by rw [hx] at h1; exact Option.some.inj h1
          subst this
          -- the same first place: by the rest
          obtain ⟨Q2, r1, r2, r3, r4⟩ := greedy n (row := row ++ [(k0, e0)]) hn1 R1
          rw [hms] at q1
          rw [r1] at q1
          have : Q2 = Q := by
            have := Option.some.inj q1
            exact List.append_cancel_left this
          subst this
          exact .eq r4
        · exact .lt (by omega)
def rem (rows : List (List De)) (bg : List Nat) : List (List De) := List.zipWith (fun ds b => ds.drop b) rows bg
theorem flat_take {α : Type} : ∀ {L : List (List α)} {k : Nat} {e : α} {r : List α}, L[k]? = some (e :: r) → L.flatten.Perm (e :: (L.set k r).flatten)
  | [], _, _, _, h => by simp at h
  | l :: L, 0, e, r, h => by
    simp at h
    subst h
    simp
  | l :: L, k + 1, e, r, h => by
    have ih := flat_take (L := L) (k := k) (e := e) (r := r) (by simpa using h)
    rw [List.set_cons_succ, List.flatten_cons, List.flatten_cons]
    exact (List.Perm.append_left l ih).trans List.perm_middle
theorem rem_at : (rem rows bg)[k]? = (rows[k]?).bind fun ds => (bg[k]?).map fun b => ds.drop b := by
  unfold rem
  rw [List.getElem?_zipWith]
  cases rows[k]? <;> cases bg[k]? <;> rfl
theorem rem_step (h : nxt rows bg k = some e) : ∃ r, (rem rows bg)[k]? = some (e :: r) ∧ rem rows (bg.modify k (· + 1)) = (rem rows bg).set k r := by
  unfold nxt at h
  obtain ⟨ds, hds, h⟩ := Option.bind_eq_some_iff.mp h
  obtain ⟨b, hb, h⟩ := Option.bind_eq_some_iff.mp h
  have hlt := (List.getElem?_eq_some_iff.mp h).1
  have hd : ds.drop b = e :: ds.drop (b + 1) := by
    rw [List.drop_eq_getElem_cons hlt]
    congr 1
    exact (List.getElem?_eq_some_iff.mp h).2
  have hk : (rem rows bg)[k]? = some (e :: ds.drop (b + 1)) := by rw [rem_at, hds, Option.bind_some, hb, Option.map_some, hd]
  refine ⟨ds.drop (b + 1), hk, List.ext_getElem? fun j => ?_⟩
  have hkl := (List.getElem?_eq_some_iff.mp hk).1
  rw [rem_at, List.getElem?_set, List.getElem?_modify]
  by_cases c : k = j
  · subst c
    rw [if_pos rfl, if_pos hkl, hds, hb]
    simp
  · rw [if_neg c, rem_at]
    cases rows[j]? <;> cases bg[j]? <;> simp [c]
theorem Run.perm (R : Run rows t bg W) (hbl : bg.length = rows.length) : (W.map (·.2)).Perm (rem rows bg).flatten := by
  induction R with
  | @done t bg h =>
    have : (rem rows bg).flatten = [] := by
      rw [List.flatten_eq_nil_iff]
      intro l m
      obtain ⟨j, hj⟩ := List.getElem?_of_mem m
      rw [rem_at] at hj
      obtain ⟨ds, hds, hj⟩ := Option.bind_eq_some_iff.mp hj
      obtain ⟨b, hb, rfl⟩ := Option.map_eq_some_iff.mp hj
      have hn := h j
      unfold nxt at hn
      rw [hds, Option.bind_some, hb, Option.bind_some] at hn
      exact List.drop_eq_nil_of_le (List.getElem?_eq_none_iff.mp hn)
    rw [this]
    exact List.Perm.refl _
  | @step t bg k e W h1 h2 _ ih =>
    obtain ⟨r, a, b⟩ := rem_step h1
    have := ih (by rw [List.length_modify]; exact hbl)
    rw [b] at this
    exact (List.Perm.cons e this).trans (flat_take a).symm
theorem rem_zero : ∀ (rows : List (List De)), rem rows (rows.map fun _ => 0) = rows
  | [] => rfl
  | ds :: rows => by
    have := rem_zero rows
    unfold rem at this ⊢
    rw [List.map_cons, List.zipWith_cons_cons, this]; rfl
theorem Run.sorted (R : Run rows t bg W) : (W.map fun p => p.2.make).Pairwise (· ≤ ·) := by
  induction R with
  | done _ => exact .nil
  | @step t bg k e W h1 h2 R1 ih =>
    rw [List.map_cons]
    refine List.pairwise_cons.mpr ⟨fun m mm => ?_, ih⟩
    obtain ⟨p, mp, rfl⟩ := List.mem_map.mp mm
    exact R1.least p mp
theorem Run.makes (R : Run rows t (rows.map fun _ => 0) W) : sortU (DQ17.makes rows) = W.map fun p => p.2.make := by
  have p := R.perm (by simp)
  rw [rem_zero] at p
  refine (sortU_uniq (ns := DQ17.makes rows) (ns' := W.map fun p => p.2.make) ?_ R.sorted).symm
  have := p.map (fun e : De => e.make)
  rw [List.map_map] at this
  exact this
theorem in_one_there (R : Run rows t0 (rows.map fun _ => 0) W) : ∃ Q, ioF rows (sortU (DQ17.makes rows)) t0 (rows.map fun _ => 0) [] = some Q ∧ Run rows t0 (rows.map fun _ => 0) Q ∧ Q.length = W.length ∧ LexLe (Q.map (·.1)) (W.map (·.1)) := by
  obtain ⟨Q, a, b, c, d⟩ := greedy (row := []) W.length rfl R
  exact ⟨Q, by rw [R.makes]; simpa using a, b, c, d⟩
end DQ17
namespace DQ17
open PySem PySem.Spec PyProof.Rows L2 Mv Gn NX
variable {rows : List (List De)} {t t' : Ty} {bg bg' : List Nat} {k : Nat} {e : De} {A F W : List (Nat × De)} {z : List NK} {f : De → Int}
def tot (f : De → Int) : List (List De) → List Nat → Int
  | ds :: rows, b :: bg => ((ds.take b).map f).sum + tot f rows bg
  | _, _ => 0
theorem tot_step : ∀ {rows : List (List De)} {bg : List Nat} {k : Nat}, nxt rows bg k = some e → tot f rows (bg.modify k (· + 1)) = tot f rows bg + f e
  | [], _, _, h => by simp [nxt] at h
  | _ :: _, [], k, h => by
    unfold nxt at h
    cases k <;> simp at h
  | ds :: rows, b :: bg, 0, h => by
    have h' : ds[b]? = some e := by simpa [nxt] using h
    show tot f (ds :: rows) ((b + 1) :: bg) = _
    simp only [tot]
    rw [List.take_succ, h', List.map_append, List.sum_append]
    simp only [Option.toList_some, List.map_cons, List.map_nil, List.sum_cons, List.sum_nil]
    omega
  | ds :: rows, b :: bg, k + 1, h => by
    have h' : nxt rows bg k = some e := by simpa [nxt] using h
    show tot f (ds :: rows) (b :: bg.modify k (· + 1)) = _
    simp only [tot]
    rw [tot_step h']
    omega
theorem tot_zero : ∀ (rows : List (List De)), tot f rows (rows.map fun _ => 0) = 0
  | [] => rfl
  | ds :: rows => by
    simp only [List.map_cons, tot, List.take_zero, List.map_nil, List.sum_nil]
    rw [tot_zero rows]; rfl
def lft : List (List De) → List Nat → Nat
  | ds :: rows, b :: bg => (ds.length - b) + lft rows bg
  | _, _ => 0
theorem lft_step : ∀ {rows : List (List De)} {bg : List Nat} {k : Nat}, nxt rows bg k = some e → lft rows (bg.modify k (· + 1)) + 1 = lft rows bg
  | [], _, _, h => by simp [nxt] at h
  | _ :: _, [], k, h => by
    unfold nxt at h
    cases k <;> simp at h
  | ds :: rows, b :: bg, 0, h => by
    have h' : ds[b]? = some e := by simpa [nxt] using h
    have hb := (List.getElem?_eq_some_iff.mp h').1
    show lft (ds :: rows) ((b + 1) :: bg) + 1 = _
    simp only [lft]
    omega
  | ds :: rows, b :: bg, k + 1, h => by
    have h' : nxt rows bg k = some e := by simpa [nxt] using h
    show lft (ds :: rows) (b :: bg.modify k (· + 1)) + 1 = _
    simp only [lft]
    have := lft_step h'
    omega
theorem lft_zero : ∀ (rows : List (List De)), lft rows (rows.map fun _ => 0) = rows.flatten.length
  | [] => rfl
  | ds :: rows => by
    simp only [List.map_cons, lft, List.flatten_cons, List.length_append]
    rw [lft_zero rows]; omega
theorem lft_nil : ∀ {rows : List (List De)} {bg : List Nat}, lft rows bg = 0 → ∀ k, nxt rows bg k = none
  | [], _, _, k => by simp [nxt]
  | ds :: rows, [], _, k => by
    unfold nxt
    simp
  | ds :: rows, b :: bg, h, 0 => by
    simp only [lft] at h
    have : ds[b]? = none := List.getElem?_eq_none (by omega)
    simpa [nxt] using this
  | ds :: rows, b :: bg, h, k + 1 => by
    simp only [lft] at h
    have := lft_nil (rows := rows) (bg := bg) (by omega) k
    simpa [nxt] using this
structure Good (rows : List (List De)) (t : Ty) (bg : List Nat) : Prop where
  at_ : ∀ s, t.at s = (tot (fun e => if e.slot = s then e.more else 0) rows bg % 1000, tot (fun e => if e.slot = s then 1 else 0) rows bg)
  num : ∀ a, t.num a = tot (fun e => if e.asker = a then 1 else 0) rows bg
theorem Good.zero : Good rows t0 (rows.map fun _ => 0) := ⟨fun s => by rw [tot_zero, tot_zero]; rfl, fun a => by rw [tot_zero]; rfl⟩
theorem Good.step (g : Good rows t bg) (hn : nxt rows bg k = some e) (hl : t.lets e = true) : Good rows (t.note e) (bg.modify k (· + 1)) := by
  obtain ⟨l1, l2, l3, l4⟩ := lets_iff.mp hl
  refine ⟨fun s => ?_, fun a => ?_⟩
  · rw [note_at, tot_step hn, tot_step hn]
    have := g.at_ s
    by_cases h : e.slot = s
    · rw [if_pos h, if_pos h, if_pos h, l1, l2, h, this]
      refine Prod.ext ?_ rfl
      show _ % 1000 = _ % 1000
      dsimp only
      omega
    · rw [if_neg h, if_neg h, if_neg h, this]
      simp
  · rw [note_num, tot_step hn]
    have := g.num a
    by_cases h : e.asker = a
    · rw [if_pos h, if_pos h, l3, h, this]
    · rw [if_neg h, if_neg h, this]
      simp
theorem Good.same (g : Good rows t bg) (g' : Good rows t' bg) (h : t.make = t'.make) : TyEq t t' :=
  ⟨fun s => (g.at_ s).trans (g'.at_ s).symm, fun a => (g.num a).trans (g'.num a).symm, h⟩
def keyOf (t : Ty) (bg : List Nat) : NK := (bg.map fun n : Nat => (n : Int), t.make)
theorem cast_inj : ∀ {a b : List Nat}, (a.map fun n : Nat => (n : Int)) = b.map (fun n : Nat => (n : Int)) → a = b
  | [], [], _ => rfl
  | [], _ :: _, h => by simp at h
  | _ :: _, [], h => by simp at h
  | x :: a, y :: b, h => by
    simp only [List.map_cons, List.cons.injEq] at h
    obtain ⟨h1, h2⟩ := h
    rw [cast_inj h2, show x = y by omega]
def Sound (rows : List (List De)) (z : List NK) : Prop := ∀ p ∈ z, ∀ t bg, Good rows t bg → keyOf t bg = p → ∀ W, ¬ Run rows t bg W
theorem Sound.nil : Sound rows [] := fun _ m => nomatch m
theorem Sound.put (h : Sound rows z) (g : Good rows t bg) (no : ∀ W, ¬ Run rows t bg W) : Sound rows (zPutKey (keyOf t bg) z) := by
  unfold zPutKey
  split
  · exact h
  · intro p m t' bg' g' hk W R
    rcases List.mem_append.mp m with q | q
    · exact h p q t' bg' g' hk W R
    · rw [List.mem_singleton.mp q] at hk
      have e1 : bg' = bg := cast_inj (congrArg Prod.fst hk)
      have e2 : t'.make = t.make := congrArg Prod.snd hk
      subst e1
      exact no W (R.congr (g'.same g e2))
inductive Ah (rows : List (List De)) : List (Nat × De) → Ty → List Nat → Prop
  | nil : Ah rows [] t0 (rows.map fun _ => 0)
  | snoc {A : List (Nat × De)} {t : Ty} {bg : List Nat} {k : Nat} {e : De} : Ah rows A t bg → nxt rows bg k = some e → t.lets e = true → Ah rows (A ++ [(k, e)]) (t.note e) (bg.modify k (· + 1))
theorem Ah.good (h : Ah rows A t bg) : Good rows t bg := by
  induction h with
  | nil => exact .zero
  | snoc _ hn hl ih => exact ih.step hn hl
theorem Ah.len (h : Ah rows A t bg) : bg.length = rows.length := by
  induction h with
  | nil => simp
  | snoc _ _ _ ih => rw [List.length_modify, ih]
theorem Ah.cnt (h : Ah rows A t bg) : ∀ k, k < rows.length → bg[k]? = some (A.filter fun p => decide (p.1 = k)).length := by
  induction h with
  | nil => intro k hk; simp [hk]
  | @snoc A t bg k0 e h hn hl ih =>
    intro k hk
    rw [List.getElem?_modify, ih k hk, List.filter_append, List.length_append]
    by_cases e0 : k0 = k
    · simp [e0]
    · simp [e0]
theorem Ah.places (h : Ah rows A t bg) : ((List.range rows.length).map fun k => (A.filter fun p => decide (p.1 = k)).length) = bg := by
  apply List.ext_getElem?
  intro i
  by_cases hi : i < rows.length
  · rw [h.cnt i hi, List.getElem?_map, List.getElem?_range hi]
    rfl
  · rw [List.getElem?_eq_none (by simpa using hi), List.getElem?_eq_none (by rw [h.len]; omega)]
theorem Ah.at_ (h : Ah rows A t bg) (s : Int) : t.at s = (((A.filter fun p => decide (p.2.slot = s)).getLast?).map fun p => (p.2.worth, p.2.count)).getD (0, 0) := by
  induction h with
  | nil => rfl
  | @snoc A t bg k0 e h hn hl ih =>
    rw [note_at, List.filter_append]
    by_cases q : e.slot = s
    · rw [if_pos q]
      simp [q]
    · rw [if_neg q, ih]
      simp [q]
theorem Ah.num (h : Ah rows A t bg) (a : Int) : t.num a = (((A.filter fun p => decide (p.2.asker = a)).getLast?).map fun p => p.2.num).getD 0 := by
  induction h with
  | nil => rfl
  | @snoc A t bg k0 e h hn hl ih =>
    rw [note_num, List.filter_append]
    by_cases q : e.asker = a
    · rw [if_pos q]
      simp [q]
    · rw [if_neg q, ih]
      simp [q]
theorem Ah.make (h : Ah rows A t bg) : t.make = ((A.getLast?).map fun p => p.2.make).getD 0 := by
  cases h with
  | nil => rfl
  | snoc h hn hl => simp [Ty.note]
theorem Ah.lft (h : Ah rows A t bg) : DQ17.lft rows bg + A.length = rows.flatten.length := by
  induction h with
  | nil => rw [lft_zero]; rfl
  | snoc h hn hl ih =>
    have := lft_step hn
    rw [List.length_append]
    show _ + (_ + 1) = _
    omega
def First (rows : List (List De)) (t : Ty) (bg : List Nat) (F : List (Nat × De)) : Prop := Run rows t bg F ∧ ∀ W, Run rows t bg W → LexLe (F.map (·.1)) (W.map (·.1))
theorem First.step (hn : nxt rows bg k = some e) (hl : t.lets e = true) (h : First rows (t.note e) (bg.modify k (· + 1)) F) (no : ∀ p W, Run rows t bg (p :: W) → k ≤ p.1) : First rows t bg ((k, e) :: F) := by
  refine ⟨.step hn hl h.1, fun W R => ?_⟩
  cases R with
  | done h0 => rw [h0 k] at hn; cases hn
  | @step _ _ k' e' W' h1 h2 h3 =>
    have hk := no (k', e') W' (.step h1 h2 h3)
    by_cases q : k = k'
    · subst q
      rw [hn] at h1
      cases h1
      exact .eq (h.2 W' h3)
    · exact .lt (show k < k' by have : k ≤ k' := hk; omega)
theorem LexLe.anti : ∀ {x y : List Nat}, LexLe x y → LexLe y x → x = y
  | [], [], _, _ => rfl
  | _ :: _, _ :: _, .lt h, .lt h' => by omega
  | _ :: _, _ :: _, .lt h, .eq _ => by omega
  | _ :: _, _ :: _, .eq _, .lt h' => by omega
  | _ :: _, _ :: _, .eq h, .eq h' => by rw [LexLe.anti h h']
theorem Run.by_places {V : List (Nat × De)} (R : Run rows t bg W) : ∀ {V : List (Nat × De)}, Run rows t bg V → W.map (·.1) = V.map (·.1) → W = V := by
  induction R with
  | done h =>
    intro V R' e
    cases V with
    | nil => rfl
    | cons _ _ => simp at e
  | @step t bg k e W h1 h2 h3 ih =>
    intro V R' q
    cases R' with
    | done h0 => simp at q
    | @step _ _ k' e' V' g1 g2 g3 =>
      simp only [List.map_cons, List.cons.injEq] at q
      obtain ⟨q1, q2⟩ := q
      subst q1
      rw [h1] at g1
      cases g1
      rw [ih g3 q2]
theorem First.uniq {F' : List (Nat × De)} (h : First rows t bg F) (h' : First rows t bg F') : F = F' := Run.by_places (V := F') h.1 h'.1 (LexLe.anti (h.2 _ h'.1) (h'.2 _ h.1))
theorem ioF_run : ∀ {ms : List Int} {t : Ty} {bg : List Nat} {row R : List (Nat × De)}, ioF rows ms t bg row = some R → ms.length = lft rows bg → ∃ W, R = row ++ W ∧ Run rows t bg W
  | [], t, bg, row, R, h, hl => by
    simp only [ioF, Option.some.injEq] at h
    exact ⟨[], by rw [List.append_nil]; exact h.symm, .done (lft_nil hl.symm)⟩
  | mk :: ms, t, bg, row, R, h, hl => by
    unfold ioF at h
    cases hk : npF t mk rows bg 0 with
    | none => rw [hk] at h; cases h
    | some k =>
      rw [hk] at h
      obtain ⟨_, ds, b, e', g1, g2, g3, _, g5⟩ := npF_some hk
      have hn : nxt rows bg k = some e' := by
        unfold nxt
        rw [Nat.sub_zero] at g1 g2
        rw [g1, g2]
        exact g3
      dsimp only at h
      rw [hn] at h
      have l1 := lft_step hn
      obtain ⟨W, rfl, RW⟩ := ioF_run (ms := ms) h (by simp only [List.length_cons] at hl; omega)
      exact ⟨(k, e') :: W, by simp, .step hn g5 RW⟩
theorem sortU_len (ns : List Int) : (sortU ns).length = ns.length := by
  unfold sortU
  simp
theorem in_one_first : (∀ Q, ioF rows (sortU (DQ17.makes rows)) t0 (rows.map fun _ => 0) [] = some Q → First rows t0 (rows.map fun _ => 0) Q) ∧
    (ioF rows (sortU (DQ17.makes rows)) t0 (rows.map fun _ => 0) [] = none → ∀ W, ¬ Run rows t0 (rows.map fun _ => 0) W) := by
  refine ⟨fun Q h => ?_, fun h W R => ?_⟩
  · obtain ⟨W, e1, R⟩ := ioF_run h (by rw [sortU_len, lft_zero, makes_len])
    rw [List.nil_append] at e1
    subst e1
    refine ⟨R, fun W R' => ?_⟩
    obtain ⟨Q', h1, _, _, l⟩ := in_one_there R'
    rw [h] at h1
    cases h1
    exact l
  · obtain ⟨Q', h1, _⟩ := in_one_there R
    rw [h] at h1
    cases h1
end DQ17
set_option maxHeartbeats 4000000
namespace Gn
open PySem PySem.Spec PyProof.Rows L2 Mv
def lastI (ns : List Int) : Int := (0 :: ns).getLast (List.cons_ne_nil _ _)
abbrev lastOf (de : En → Option (S × En)) : En → Option (S × En) := eEff (lConsE (eEff (lConsP (dLst (dCons (dC (.int 0)) dNil)) (lConsE de lNil)) fun k => dWhen k 2 (ePure ((dOpS fCatL) (dGh k 0) (dGh k 1)))) (lConsP (dNeg (dC (.int 1))) lNil)) fun k => dWhen k 2 (ePure (dIxL (dGh k 0) (dGh k 1)))
theorem gh0 {E : En} {a b : Sl} {r : Rs} (h : dVar E.length (E ++ [a, b]) = some r) : dGh 2 0 (E ++ [a, b]) = some r := by
  unfold dGh
  rw [if_pos (by omega)]
  have : (E ++ [a, b]).length - 2 + 0 = E.length := by simp
  rw [this]; exact h
theorem gh1 {E : En} {a b : Sl} {r : Rs} (h : dVar (E.length + 1) (E ++ [a, b]) = some r) : dGh 2 1 (E ++ [a, b]) = some r := by
  unfold dGh
  rw [if_pos (by omega)]
  have : (E ++ [a, b]).length - 2 + 1 = E.length + 1 := by simp
  rw [this]; exact h
theorem at_app0 {E : En} {a b : Sl} : (E ++ [a, b])[E.length]? = some a := by simp
theorem at_app1 {E : En} {a b : Sl} : (E ++ [a, b])[E.length + 1]? = some b := by simp
theorem var_l {E : En} {i : Nat} {ns : List Int} (h : E[i]? = some (.own (lI ns))) : dVar i E = some (.pl [i]) := by unfold dVar; rw [h]; rfl
theorem var_i {E : En} {i : Nat} {x : Int} (h : E[i]? = some (.own (.dat (.int x)))) : dVar i E = some (.val (.dat (.int x))) := by unfold dVar; rw [h]
theorem at_l {E : En} {i : Nat} {s : S} (h : E[i]? = some (.own s)) : (Rs.pl [i]).at E = some s := by
  show eget E [i] = some s
  unfold eget
  simp only [h]
  exact S.get_nil s
theorem v_lastOf {E : En} {de : En → Option (S × En)} {ns : List Int} (hE : E.all (frs E.length) = true) (hn : ns.length < 1000) (h : de (E ++ [.own (lI [0])]) = some (lI ns, E ++ [.own (lI [0])])) :
    lastOf de E = some (.dat (.int (lastI ns)), E) := by
  have i1 : lConsP (dLst (dCons (dC (.int 0)) dNil)) (lConsE de lNil) E = some (2, E ++ [.own (lI [0]), .own (lI ns)]) :=
    lP_own (s := lI [0]) (k := 1) rfl (lE_go (k := 0) h (by rw [List.append_assoc]; rfl))
  have i2 : (ePure ((dOpS fCatL) (dGh 2 0) (dGh 2 1))) (E ++ [.own (lI [0]), .own (lI ns)]) = some (lI (0 :: ns), E ++ [.own (lI [0]), .own (lI ns)]) := by
    have := catL_go (f := PyData.int) (xs := [0]) (ys := ns) (E := E ++ [.own (lI [0]), .own (lI ns)]) (gh0 (var_l (ns := [0]) at_app0)) (at_l at_app0) (gh1 (var_l (ns := ns) at_app1)) (at_l at_app1) (by simp; omega)
    unfold ePure
    rw [this]; rfl
  have i3 : eEff (lConsP (dLst (dCons (dC (.int 0)) dNil)) (lConsE de lNil)) (fun k => dWhen k 2 (ePure ((dOpS fCatL) (dGh k 0) (dGh k 1)))) E = some (lI (0 :: ns), E) := by
    rw [eEff_go (dc := fun k => dWhen k 2 (ePure ((dOpS fCatL) (dGh k 0) (dGh k 1)))) i1 (when_go i2), strip_app hE 2 _ rfl]
  have j1 : lConsE (eEff (lConsP (dLst (dCons (dC (.int 0)) dNil)) (lConsE de lNil)) fun k => dWhen k 2 (ePure ((dOpS fCatL) (dGh k 0) (dGh k 1)))) (lConsP (dNeg (dC (.int 1))) lNil) E = some (2, E ++ [.own (lI (0 :: ns)), .own (.dat (.int (-1)))]) :=
    lE_go (k := 1) i3 (lP_own (s := .dat (.int (-1))) (k := 0) rfl (by rw [List.append_assoc]; rfl))
  have j2 : (ePure (dIxL (dGh 2 0) (dGh 2 1))) (E ++ [.own (lI (0 :: ns)), .own (.dat (.int (-1)))]) = some (.dat (.int (lastI ns)), E ++ [.own (lI (0 :: ns)), .own (.dat (.int (-1)))]) :=
    ePure_go (ixL_last (f := PyData.int) (xs := ns) (E := E ++ [.own (lI (0 :: ns)), .own (.dat (.int (-1)))]) (gh0 (var_l (ns := 0 :: ns) at_app0)) (at_l at_app0) (gh1 (var_i at_app1)))
  exact (eEff_go (dc := fun k => dWhen k 2 (ePure (dIxL (dGh k 0) (dGh k 1)))) j1 (when_go j2)).trans (by rw [strip_app hE 2 _ rfl])
end Gn
set_option maxHeartbeats 1000000
namespace DQ17
open PySem PySem.Spec PyProof.Rows L2 Mv Gn NX
section
variable {E E1 E2 E' : En} {da db d1 d2 : En → Option Rs}
theorem ix_go {ds : List PyData} {k : Int} {x : PyData} (h1 : da E = some (.val (.dat (.tuple ds)))) (h2 : db E = some (.val (.dat (.int k)))) (h0 : 0 ≤ k) (hx : ds[k.toNat]? = some x) : dIxT da db E = some (.val (.dat x)) := by
  unfold dIxT
  rw [h1, h2]
  have hk := (List.getElem?_eq_some_iff.mp hx).1
  have e1 : ixN ds.length k = some k.toNat := by
    unfold ixN
    rw [if_pos h0, if_pos (by omega)]
  simp only [Rs.at, e1, hx, Option.map_some]
theorem lcG_fil {α : Type} {rd : En → Nat → Option (Option Rs)} {js : List Nat} {bd : Rs → En → Option En} {dt : En → Option (Bool × En)} {de : En → Option (S × En)} {E : En} {xs : List α} (p : α → Bool) (out : α → S) (hn : xs.length < 100000)
    (hs : ∀ i a, xs[i]? = some a → ∃ r E1, rd E i = some (some r) ∧ bd r E = some E1 ∧ dt E1 = some (p a, E1) ∧ (p a = true → de E1 = some (out a, E1)) ∧ wipeE E1 js = E) (he : rd E xs.length = some none) :
    ∀ (suf pre : List α) (fuel : Nat) (acc : List S), xs = pre ++ suf → suf.length ≤ fuel → acc.length ≤ pre.length → dLcG rd js bd dt de fuel pre.length acc E = some (acc ++ (suf.filter p).map out, E)
  | [], pre, fuel, acc, e, _, _ => by
    rw [e, List.append_nil] at he
    rw [dLcG.eq_def]; simp [he]
  | a :: suf, pre, 0, acc, e, hf, _ => by simp at hf
  | a :: suf, pre, fuel + 1, acc, e, hf, ha => by
    obtain ⟨r, E1, h1, h2, h3, h4, h5⟩ := hs pre.length a (by rw [e]; simp)
    have ih := fun acc ha => lcG_fil p out hn hs he suf (pre ++ [a]) fuel acc (by rw [e]; simp) (by simp at hf; omega) ha
    have hlen : (pre ++ [a]).length = pre.length + 1 := by simp
    have hx : xs.length = pre.length + (suf.length + 1) := by rw [e]; simp
    rw [dLcG.eq_def]
    cases hp : p a with
    | false =>
      rw [hp] at h3
      simp only [h1, h2, h3, h5]
      rw [← hlen, ih acc (by simp; omega), List.filter_cons, hp]; rfl
    | true =>
      rw [hp] at h3
      simp only [h1, h2, h3, h4 hp, h5]
      rw [if_pos (by omega), ← hlen, ih (acc ++ [out a]) (by simp; omega), List.filter_cons, hp]; simp
end
variable {rows : List (List De)} {t : Ty} {bg : List Nat} {k : Nat} {e : De} {A : List (Nat × De)}
def AD (A : List (Nat × De)) : PyData := .list (A.map pD)
def I (n : Int) : Sl := .own (.dat (.int n))
def EL (A : List (Nat × De)) (e : De) (v9 v10 v11 : Sl) (G : En) : En := [.own (.dat (AD A)), .own (.dat e.d), I e.slot, I e.count, I e.asker, I e.num, I e.more, I e.worth, I e.make, v9, v10, v11, .own (.dat (AD A)), .own (.dat e.d)] ++ G
def mineE (A : List (Nat × De)) (e : De) : List De := (A.filter fun p => decide (p.2.slot = e.slot)).map (·.2)
theorem l_comp {dt : En → Option (Bool × En)} {de : En → Option (S × En)} {v9 : Sl} {G : En} {out : Nat × De → S} (p : Nat × De → Bool) (hl : A.length < 1000) (h9 : Fr v9) (hG : G = [] ∨ ∃ s, G = [.own s])
    (ht : ∀ q : Nat × De, dt (EL A e v9 (I q.1) (.own (.dat q.2.d)) G) = some (p q, EL A e v9 (I q.1) (.own (.dat q.2.d)) G))
    (hk : ∀ q : Nat × De, de (EL A e v9 (I q.1) (.own (.dat q.2.d)) G) = some (out q, EL A e v9 (I q.1) (.own (.dat q.2.d)) G)) :
    eLcG (iLst (dVar 0)) [10, 11] (bTup 2 (bCons (bName 10) (bCons (bName 11) bNil))) dt de (EL A e v9 .no .no G) = some (.lst ((A.filter p).map out), EL A e v9 .no .no G) := by
  let P : Sl → Sl → En := fun a b => EL A e v9 a b G
  have hloop := lcG_fil (rd := rdD (A.map pD)) (js := [10, 11]) (bd := bTup 2 (bCons (bName 10) (bCons (bName 11) bNil))) (dt := dt) (de := de) (E := P .no .no) (xs := A) p out (by omega) (fun i q hq => by
    refine ⟨_, P (I q.1) (.own (.dat q.2.d)), Gn.rdD_at (f := pD) hq, ?_, ht q, fun _ => hk q, ?_⟩
    · rcases h9 with rfl | ⟨_, rfl⟩ <;> rcases hG with rfl | ⟨_, rfl⟩ <;> rfl
    · rcases h9 with rfl | ⟨_, rfl⟩ <;> rcases hG with rfl | ⟨_, rfl⟩ <;> rfl) (Gn.rdD_en (f := pD) (Nat.le_refl _)) A [] A.length [] rfl (Nat.le_refl _) (Nat.le_refl _)
  rw [List.nil_append] at hloop
  have e0 : wipeE (P .no .no ++ []) [10, 11] = P .no .no := by rcases h9 with rfl | ⟨_, rfl⟩ <;> rcases hG with rfl | ⟨_, rfl⟩ <;> rfl
  have hsrc : iLst (dVar 0) (P .no .no) = some ⟨P .no .no, [], rdD (A.map pD), A.length⟩ := by
    show some (Src.mk (P .no .no) [] (rdD (A.map pD)) (A.map pD).length) = _
    rw [List.length_map]
  unfold eLcG
  rw [show iLst (dVar 0) (EL A e v9 .no .no G) = _ from hsrc]
  simp only [e0]
  rw [show dLcG (rdD (A.map pD)) [10, 11] (bTup 2 (bCons (bName 10) (bCons (bName 11) bNil))) dt de A.length 0 [] (P .no .no) = _ from hloop]
  rfl
def ds7 (d : De) : List PyData := [.int d.slot, .int d.count, .int d.asker, .int d.num, .int d.more, .int d.worth, .int d.make]
theorem v_part {v9 v10 : Sl} {G : En} {q : De} {j : Nat} {x : Int} (hx : (ds7 q)[j]? = some (.int x)) : dIxT (dVar 11) (dC (.int (j : Nat))) (EL A e v9 v10 (.own (.dat q.d)) G) = some (.val (.dat (.int x))) :=
  ix_go (ds := ds7 q) rfl rfl (by omega) (by simpa using hx)
theorem lastI_fil {α : Type} {f : α → Int} {xs : List α} : lastI (xs.map f) = ((xs.getLast?).map f).getD 0 := by
  unfold lastI
  cases h : xs.getLast? with
  | none =>
    have : xs = [] := List.getLast?_eq_none_iff.mp h
    subst this
    rfl
  | some x =>
    obtain ⟨ys, rfl⟩ := List.getLast?_eq_some_iff.mp h
    have e1 : (0 :: (ys ++ [x]).map f) = (0 :: ys.map f) ++ [f x] := by rw [List.map_append]; rfl
    apply Option.some.inj
    rw [← List.getLast?_eq_some_getLast, e1, List.getLast?_append]
    rfl
abbrev lMine : En → Option (S × En) := eLcG (iLst (dVar 0)) [10, 11] (bTup 2 (bCons (bName 10) (bCons (bName 11) bNil))) (ePureT (dTest (dOp fEqS (dIxT (dVar 11) (dC (.int 0))) (dVar 2)))) (ePure (dVar 11))
theorem v_mine (hl : A.length < 1000) : lMine (EL A e .no .no .no []) = some (dL De.d (mineE A e), EL A e .no .no .no []) := by
  have := l_comp (A := A) (e := e) (v9 := .no) (G := []) (out := fun q => S.dat q.2.d) (fun q => decide (q.2.slot = e.slot)) hl (.inl rfl) (.inl rfl)
    (dt := ePureT (dTest (dOp fEqS (dIxT (dVar 11) (dC (.int 0))) (dVar 2)))) (de := ePure (dVar 11))
    (fun q => pureT_go (test_go (opI_go (v_part (j := 0) (x := q.2.slot) rfl) (b := .int e.slot) rfl rfl))) (fun q => rfl)
  refine this.trans ?_
  unfold dL mineE
  rw [List.map_map]
  rfl
theorem v_own {j : Nat} {out : De → Int} (hl : A.length < 1000) (hj : ∀ d : De, (ds7 d)[j]? = some (.int (out d))) {s : S} :
    eLc (iLst (dVar 9)) 11 eYes (ePure (dIxT (dVar 11) (dC (.int (j : Nat))))) (EL A e (.own (dL De.d (mineE A e))) .no .no [.own s]) = some (lI ((mineE A e).map out), EL A e (.own (dL De.d (mineE A e))) .no .no [.own s]) := by
  have hm : (mineE A e).length ≤ A.length := by unfold mineE; rw [List.length_map]; exact List.length_filter_le _ _
  let E0 : En := EL A e (.own (dL De.d (mineE A e))) .no .no [.own s]
  have := lcP (xs := mineE A e) (f := De.d) (p := fun _ => true) (g := fun d => S.dat (.int (out d))) (q := [9]) (j := 11) (src := iLst (dVar 9)) (dt := eYes) (de := ePure (dIxT (dVar 11) (dC (.int (j : Nat))))) (E := E0) (E0 := E0 ++ [Sl.bor [9]])
    (by omega) (by
      show (match (some (dL De.d (mineE A e)) : Option S) with | some (.lst ss) => some (Src.mk E0 [Sl.bor [9]] rdP ss.length) | _ => none) = _
      show some (Src.mk E0 [Sl.bor [9]] rdP ((mineE A e).map fun d => S.dat d.d).length) = _
      rw [List.length_map]) rfl rfl (show (dL De.d (mineE A e)).get [] = _ from S.get_nil _) (fun d _ => ⟨EL A e (.own (dL De.d (mineE A e))) .no (.own (.dat d.d)) [.own s, .bor [9]], rfl, rfl, fun _ => by
        unfold ePure
        rw [show dIxT (dVar 11) (dC (.int (j : Nat))) (EL A e (.own (dL De.d (mineE A e))) .no (.own (.dat d.d)) [.own s, .bor [9]]) = some (.val (.dat (.int (out d)))) from v_part (hj d)], rfl⟩)
  refine this.trans ?_
  rw [List.filter_eq_self.mpr (fun _ _ => rfl)]
  unfold lI
  rw [List.map_map]
  rfl
theorem own_last {α : Type} {f : De → α} : ((mineE A e).getLast?).map f = ((A.filter fun p => decide (p.2.slot = e.slot)).getLast?).map fun p => f p.2 := by
  unfold mineE
  rw [List.getLast?_map, Option.map_map]
  rfl
theorem last_count (h : Ah rows A t bg) : lastI ((mineE A e).map (·.count)) = (t.at e.slot).2 := by
  rw [lastI_fil, own_last, h.at_]
  cases (A.filter fun p => decide (p.2.slot = e.slot)).getLast? <;> rfl
theorem last_worth (h : Ah rows A t bg) : lastI ((mineE A e).map (·.worth)) = (t.at e.slot).1 := by
  rw [lastI_fil, own_last, h.at_]
  cases (A.filter fun p => decide (p.2.slot = e.slot)).getLast? <;> rfl
theorem last_num (h : Ah rows A t bg) : lastI ((A.filter fun p => decide (p.2.asker = e.asker)).map fun p => p.2.num) = t.num e.asker := by
  rw [lastI_fil, h.num]
theorem last_make (h : Ah rows A t bg) : lastI (A.map fun p => p.2.make) = t.make := by
  rw [lastI_fil, h.make]
theorem v_lawlets (h : Ah rows A t bg) (hl : A.length < 900) : K17.g__law_lets [.dat (AD A), .dat e.d] = some (.dat (.bool (t.lets e)), [.dat (AD A), .dat e.d]) := by
  let F (a b c d f g h : Sl) : En := [.own (.dat (AD A)), .own (.dat e.d), a, b, c, d, f, g, h, .no, .no, .no, .own (.dat (AD A)), .own (.dat e.d)]
  have hm : (mineE A e).length ≤ A.length := by unfold mineE; rw [List.length_map]; exact List.length_filter_le _ _
  have s1 : dAsg (bTup 7 (bCons (bName 2) (bCons (bName 3) (bCons (bName 4) (bCons (bName 5) (bCons (bName 6) (bCons (bName 7) (bCons (bName 8) bNil)))))))) (ePure (dVar 1)) (entry 12 [.dat (AD A), .dat e.d]) = some (.nx (EL A e .no .no .no [])) :=
    dAsg_tup (E0 := F .no .no .no .no .no .no .no) rfl rfl (bGo (E1 := F (I e.slot) .no .no .no .no .no .no) rfl (bGo (E1 := F (I e.slot) (I e.count) .no .no .no .no .no) rfl (bGo (E1 := F (I e.slot) (I e.count) (I e.asker) .no .no .no .no) rfl (bGo (E1 := F (I e.slot) (I e.count) (I e.asker) (I e.num) .no .no .no) rfl (bGo (E1 := F (I e.slot) (I e.count) (I e.asker) (I e.num) (I e.more) .no .no) rfl (bGo (E1 := F (I e.slot) (I e.count) (I e.asker) (I e.num) (I e.more) (I e.worth) .no) rfl (bGo (E1 := F (I e.slot) (I e.count) (I e.asker) (I e.num) (I e.more) (I e.worth) (I e.make)) rfl bEnd)))))))
  let M : S := dL De.d (mineE A e)
  let E2 : En := EL A e (.own M) .no .no []
  have s2 : dSet 9 lMine (EL A e .no .no .no []) = some (.nx E2) := (dSet_go (v_mine (by omega))).trans rfl
  have hE : E2.all (frs E2.length) = true := rfl
  have c1 : lastOf (eLc (iLst (dVar 9)) 11 eYes (ePure (dIxT (dVar 11) (dC (.int 1))))) E2 = some (.dat (.int (t.at e.slot).2), E2) := by
    rw [← last_count h]
    exact v_lastOf hE (by rw [List.length_map]; omega) (v_own (j := 1) (by omega) (fun _ => rfl))
  have c2 : lastOf (eLc (iLst (dVar 9)) 11 eYes (ePure (dIxT (dVar 11) (dC (.int 5))))) E2 = some (.dat (.int (t.at e.slot).1), E2) := by
    rw [← last_worth h]
    exact v_lastOf hE (by rw [List.length_map]; omega) (v_own (j := 5) (by omega) (fun _ => rfl))
  have c3 : lastOf (eLcG (iLst (dVar 0)) [10, 11] (bTup 2 (bCons (bName 10) (bCons (bName 11) bNil))) (ePureT (dTest (dOp fEqS (dIxT (dVar 11) (dC (.int 2))) (dVar 4)))) (ePure (dIxT (dVar 11) (dC (.int 3))))) E2 = some (.dat (.int (t.num e.asker)), E2) := by
    rw [← last_num h]
    refine v_lastOf hE (by rw [List.length_map]; exact Nat.lt_of_le_of_lt (List.length_filter_le _ _) (by omega)) ?_
    have := l_comp (A := A) (e := e) (v9 := .own M) (G := [.own (lI [0])]) (out := fun q => S.dat (.int q.2.num)) (fun q => decide (q.2.asker = e.asker)) (by omega) (.inr ⟨_, rfl⟩) (.inr ⟨_, rfl⟩)
      (dt := ePureT (dTest (dOp fEqS (dIxT (dVar 11) (dC (.int 2))) (dVar 4)))) (de := ePure (dIxT (dVar 11) (dC (.int 3))))
      (fun q => pureT_go (test_go (opI_go (v_part (j := 2) (x := q.2.asker) rfl) (b := .int e.asker) rfl rfl))) (fun q => ePure_go (v_part (j := 3) (x := q.2.num) rfl))
    refine this.trans ?_
    unfold lI
    rw [List.map_map]
    rfl
  have c4 : lastOf (eLcG (iLst (dVar 0)) [10, 11] (bTup 2 (bCons (bName 10) (bCons (bName 11) bNil))) eYes (ePure (dIxT (dVar 11) (dC (.int 6))))) E2 = some (.dat (.int t.make), E2) := by
    rw [← last_make h]
    refine v_lastOf hE (by rw [List.length_map]; omega) ?_
    have := l_comp (A := A) (e := e) (v9 := .own M) (G := [.own (lI [0])]) (out := fun q => S.dat (.int q.2.make)) (fun _ => true) (by omega) (.inr ⟨_, rfl⟩) (.inr ⟨_, rfl⟩)
      (dt := eYes) (de := ePure (dIxT (dVar 11) (dC (.int 6)))) (fun q => rfl) (fun q => ePure_go (v_part (j := 6) (x := q.2.make) rfl))
    refine this.trans ?_
    rw [List.filter_eq_self.mpr (fun _ _ => rfl)]
    unfold lI
    rw [List.map_map]
    rfl
  have t1 : eTest (eOp fNeS (ePure (dVar 3)) (eOp fAdd (lastOf (eLc (iLst (dVar 9)) 11 eYes (ePure (dIxT (dVar 11) (dC (.int 1)))))) (ePure (dC (.int 1))))) E2 = some (!decide (e.count = (t.at e.slot).2 + 1), E2) :=
    eTest_go (eOp_go (x := .int e.count) (y := .int ((t.at e.slot).2 + 1)) rfl (eOp_go (y := .int 1) c1 rfl rfl) rfl)
  have t2 : eTest (eOp fNeS (ePure (dVar 7)) (eOp fMod (eOp fAdd (lastOf (eLc (iLst (dVar 9)) 11 eYes (ePure (dIxT (dVar 11) (dC (.int 5)))))) (ePure (dVar 6))) (ePure (dC (.int 1000))))) E2 = some (!decide (e.worth = ((t.at e.slot).1 + e.more) % 1000), E2) :=
    eTest_go (eOp_go (x := .int e.worth) (y := .int (((t.at e.slot).1 + e.more) % 1000)) rfl (eOp_go (y := .int 1000) (eOp_go (y := .int e.more) c2 rfl rfl) rfl (modP (by decide))) rfl)
  have t3 : eTest (eOp fNeS (ePure (dVar 5)) (eOp fAdd (lastOf (eLcG (iLst (dVar 0)) [10, 11] (bTup 2 (bCons (bName 10) (bCons (bName 11) bNil))) (ePureT (dTest (dOp fEqS (dIxT (dVar 11) (dC (.int 2))) (dVar 4)))) (ePure (dIxT (dVar 11) (dC (.int 3)))))) (ePure (dC (.int 1))))) E2 = some (!decide (e.num = t.num e.asker + 1), E2) :=
    eTest_go (eOp_go (x := .int e.num) (y := .int (t.num e.asker + 1)) rfl (eOp_go (y := .int 1) c3 rfl rfl) rfl)
  have t4 : dRet (eOp fGe (ePure (dVar 8)) (lastOf (eLcG (iLst (dVar 0)) [10, 11] (bTup 2 (bCons (bName 10) (bCons (bName 11) bNil))) eYes (ePure (dIxT (dVar 11) (dC (.int 6))))))) E2 = some (.rt (.dat (.bool (decide (t.make ≤ e.make)))) E2) :=
    dRet_go (eOp_go (x := .int e.make) rfl c4 rfl)
  refine fnG_rt (E := E2) (dSeq_go s1 (dSeq_go s2 ?_)) rfl
  unfold Ty.lets
  by_cases h1 : e.count = (t.at e.slot).2 + 1
  · rw [decide_eq_true h1] at t1 ⊢
    refine dSeq_go (E1 := E2) (dIf_f (E1 := E2) t1 rfl) ?_
    by_cases h2 : e.worth = ((t.at e.slot).1 + e.more) % 1000
    · rw [decide_eq_true h2] at t2 ⊢
      refine dSeq_go (E1 := E2) (dIf_f (E1 := E2) t2 rfl) ?_
      by_cases h3 : e.num = t.num e.asker + 1
      · rw [decide_eq_true h3] at t3 ⊢
        exact dSeq_go (E1 := E2) (dIf_f (E1 := E2) t3 rfl) t4
      · rw [decide_eq_false h3] at t3 ⊢
        exact dSeq_rt (dIf_t (E1 := E2) t3 rfl)
    · rw [decide_eq_false h2] at t2 ⊢
      exact dSeq_rt (dIf_t (E1 := E2) t2 rfl)
  · rw [decide_eq_false h1] at t1 ⊢
    exact dSeq_rt (dIf_t (E1 := E2) t1 rfl)
variable {a : Addr}
def RD (rows : List (List De)) : PyData := .list (rows.map roD)
def PD (bg : List Nat) : PyData := .tuple (bg.map nD)
def EF (rows : List (List De)) (A : List (Nat × De)) (a : Addr) (v3 v4 v5 v6 v7 v8 v9 : Sl) (G : En) : En := [.own (.dat (RD rows)), .own (.dat (AD A)), .own (.con (.ref a)), v3, v4, v5, v6, v7, v8, v9, .own (.dat (RD rows)), .own (.dat (AD A)), .own (.con (.ref a))] ++ G
theorem len_rows : dLen (dVar 0) (EF rows A a v3 v4 v5 v6 v7 v8 v9 G) = some (.val (.dat (.int (rows.length : Nat)))) := len_dat (f := roD) rfl
abbrev atK : En → Option (S × En) := eLcG (iLst (dVar 1)) [7, 8] (bTup 2 (bCons (bName 7) (bCons (bName 8) bNil))) (ePureT (dTest (dOp fEqS (dVar 7) (dVar 5)))) (ePure (dVar 8))
theorem v_atK (hl : A.length < 900) (k : Nat) : atK (EF rows A a .no .no (I k) .no .no .no .no []) = some (dL (fun q : Nat × De => q.2.d) (A.filter fun p => decide (p.1 = k)), EF rows A a .no .no (I k) .no .no .no .no []) := by
  let P : Sl → Sl → En := fun x y => EF rows A a .no .no (I k) .no x y .no []
  have hloop := lcG_fil (rd := rdD (A.map pD)) (js := [7, 8]) (bd := bTup 2 (bCons (bName 7) (bCons (bName 8) bNil))) (dt := ePureT (dTest (dOp fEqS (dVar 7) (dVar 5)))) (de := ePure (dVar 8)) (E := P .no .no) (xs := A) (fun q => decide (q.1 = k)) (fun q => S.dat q.2.d) (by omega) (fun i q hq => by
    refine ⟨_, P (I (q.1 : Nat)) (.own (.dat q.2.d)), Gn.rdD_at (f := pD) hq, rfl, ?_, fun _ => rfl, rfl⟩
    have : fEqS (.int ((q.1 : Nat) : Int)) (.int ((k : Nat) : Int)) = some (.bool (decide (q.1 = k))) := by
      show some (PyData.bool (decide (((q.1 : Nat) : Int) = ((k : Nat) : Int)))) = _
      rw [decide_eq_decide.mpr (show ((q.1 : Nat) : Int) = ((k : Nat) : Int) ↔ q.1 = k by omega)]
    exact pureT_go (test_go (opI_go (a := .int ((q.1 : Nat) : Int)) (b := .int ((k : Nat) : Int)) rfl rfl this))) (Gn.rdD_en (f := pD) (Nat.le_refl _)) A [] A.length [] rfl (Nat.le_refl _) (Nat.le_refl _)
  rw [List.nil_append] at hloop
  have e0 : wipeE (P .no .no ++ []) [7, 8] = P .no .no := rfl
  have hsrc : iLst (dVar 1) (P .no .no) = some ⟨P .no .no, [], rdD (A.map pD), A.length⟩ := by
    show some (Src.mk (P .no .no) [] (rdD (A.map pD)) (A.map pD).length) = _
    rw [List.length_map]
  unfold atK eLcG
  rw [show iLst (dVar 1) (EF rows A a .no .no (I k) .no .no .no .no []) = _ from hsrc]
  simp only [e0]
  rw [show dLcG (rdD (A.map pD)) [7, 8] (bTup 2 (bCons (bName 7) (bCons (bName 8) bNil))) (ePureT (dTest (dOp fEqS (dVar 7) (dVar 5)))) (ePure (dVar 8)) A.length 0 [] (P .no .no) = _ from hloop]
  rfl
theorem rd_range {m : Nat} {E : En} : ∀ (i : Nat) (x : Nat), (List.range m)[i]? = some x → (fun (_ : En) (i : Nat) => some (if i < ((m : Nat) : Int).toNat then some (Rs.val (.dat (.int (i : Nat)))) else none)) E i = some (some (.val (.dat (nD x)))) := by
  intro i x h
  have hi := (List.getElem?_eq_some_iff.mp h).1
  rw [List.length_range] at hi
  rw [List.getElem?_range hi] at h
  cases h
  show some (if i < m then _ else none) = _
  rw [if_pos hi]
  rfl
theorem tuple_L {α : Type} {f : α → PyData} {xs : List α} : fTuple [dL f xs] = some (.dat (.tuple (xs.map f))) := by
  show (match ((dL f xs).seqL <|> (dL f xs).seqT) with | some ds => some (S.dat (.tuple ds)) | none => none) = _
  rw [dL_seqL]
  rfl
def s1 : En → Option Out := dSet 3 (eCS fTuple (eLc (iRange (dLen (dVar 0))) 5 eYes (eEff (lConsE atK lNil) fun k => dWhen k 1 (ePure (dLen (dGh k 0))))))
theorem v_len_at (hl : A.length < 900) (k : Nat) : eEff (lConsE atK lNil) (fun k => dWhen k 1 (ePure (dLen (dGh k 0)))) (EF rows A a .no .no (I k) .no .no .no .no []) = some (.dat (nD (A.filter fun p => decide (p.1 = k)).length), EF rows A a .no .no (I k) .no .no .no .no []) := by
  let Ek : En := EF rows A a .no .no (I k) .no .no .no .no []
  have i1 : lConsE atK lNil Ek = some (1, Ek ++ [.own (dL (fun q : Nat × De => q.2.d) (A.filter fun p => decide (p.1 = k)))]) := lE_go (k := 0) (v_atK hl k) rfl
  have i2 : ePure (dLen (dGh 1 0)) (Ek ++ [.own (dL (fun q : Nat × De => q.2.d) (A.filter fun p => decide (p.1 = k)))]) = some (.dat (nD (A.filter fun p => decide (p.1 = k)).length), Ek ++ [.own (dL (fun q : Nat × De => q.2.d) (A.filter fun p => decide (p.1 = k)))]) :=
    ePure_go (len_go (f := fun q : Nat × De => q.2.d) (r := .pl [13]) rfl (show S.get _ [] = _ from S.get_nil _))
  exact (eEff_go (dc := fun k => dWhen k 1 (ePure (dLen (dGh k 0)))) i1 (when_go i2)).trans rfl
theorem v_places (h : Ah rows A t bg) (hl : A.length < 900) (hr : rows.length < 900) : eLc (iRange (dLen (dVar 0))) 5 eYes (eEff (lConsE atK lNil) fun k => dWhen k 1 (ePure (dLen (dGh k 0)))) (EF rows A a .no .no .no .no .no .no .no []) = some (dL nD bg, EF rows A a .no .no .no .no .no .no .no []) := by
  let E0 : En := EF rows A a .no .no .no .no .no .no .no []
  have hsrc : iRange (dLen (dVar 0)) E0 = some ⟨E0, [], fun _ i => some (if i < ((rows.length : Nat) : Int).toNat then some (.val (.dat (.int (i : Nat)))) else none), ((rows.length : Nat) : Int).toNat⟩ := iRange_go len_rows (by omega) (by omega)
  have hlc := lcF (xs := List.range rows.length) (f := nD) (p := fun _ => true) (g := fun k => S.dat (nD (A.filter fun p => decide (p.1 = k)).length)) (j := 5) (dt := eYes) (de := eEff (lConsE atK lNil) fun k => dWhen k 1 (ePure (dLen (dGh k 0))))
    (E0 := E0) (rd := fun _ i => some (if i < ((rows.length : Nat) : Int).toNat then some (.val (.dat (.int (i : Nat)))) else none)) (by rw [List.length_range]; omega) (fun i x hx => rd_range (E := E0) i x hx) (by
      rw [List.length_range, Int.toNat_natCast, if_neg (Nat.lt_irrefl _)]) (fun k _ => ⟨EF rows A a .no .no (I k) .no .no .no .no [], rfl, rfl, fun _ => v_len_at hl k, rfl⟩) rows.length 0 rows.length [] (by rw [List.length_range]; omega) (Nat.le_refl _) (Nat.le_refl _)
  rw [List.nil_append, List.drop_zero, List.filter_eq_self.mpr (fun _ _ => rfl)] at hlc
  refine (eLc_go (c := _) (E1 := E0) (acc := (List.range rows.length).map fun k => S.dat (nD (A.filter fun p => decide (p.1 = k)).length)) hsrc ?_).trans ?_
  · rw [Int.toNat_natCast] at hlc ⊢
    exact hlc
  · rw [show (List.range rows.length).map (fun k => S.dat (nD (A.filter fun p => decide (p.1 = k)).length)) = ((List.range rows.length).map fun k => (A.filter fun p => decide (p.1 = k)).length).map fun b => S.dat (nD b) by rw [List.map_map]; rfl, h.places]
    rfl
theorem eCS_go {f : List S → Option S} {de : En → Option (S × En)} {E E1 : En} {s u : S} (h : de E = some (s, E1)) (h2 : f [s] = some u) : eCS f de E = some (u, E1) := by
  unfold eCS
  rw [h]
  show (f [s]).map _ = _
  rw [h2]
  rfl
theorem v_s1 (h : Ah rows A t bg) (hl : A.length < 900) (hr : rows.length < 900) : s1 (EF rows A a .no .no .no .no .no .no .no []) = some (.nx (EF rows A a (.own (.dat (PD bg))) .no .no .no .no .no .no [])) := by
  have c : eCS fTuple (eLc (iRange (dLen (dVar 0))) 5 eYes (eEff (lConsE atK lNil) fun k => dWhen k 1 (ePure (dLen (dGh k 0))))) (EF rows A a .no .no .no .no .no .no .no []) = some (.dat (PD bg), EF rows A a .no .no .no .no .no .no .no []) :=
    eCS_go (v_places h hl hr) tuple_L
  have d := dSet_go (i := 3) c
  exact d
theorem eqvAll_ints : ∀ (xs ys : List Nat), PyData.eqvAll (xs.map nD) (ys.map nD) = decide (xs = ys)
  | [], [] => rfl
  | [], _ :: _ => rfl
  | _ :: _, [] => rfl
  | x :: xs, y :: ys => by
    show ((((x : Nat) : Int) == ((y : Nat) : Int)) && PyData.eqvAll (xs.map nD) (ys.map nD)) = _
    rw [eqvAll_ints xs ys]
    by_cases h : x = y
    · subst h
      simp
    · have : (((x : Nat) : Int) == ((y : Nat) : Int)) = false := beq_eq_false_iff_ne.mpr (by omega)
      rw [this]
      simp [h]
theorem shaped_tup (xs : List Nat) : SeqAt.shaped (.tuple (xs.map nD)) = true := by
  unfold SeqAt.shaped
  have := depth_map (f := nD) (k := 0) (fun _ => Nat.le_refl _) xs
  rw [PyData.canLay0, canLay_map (fun _ => rfl) xs, PyData.depth, Bool.true_and]
  exact decide_eq_true (by omega)
theorem eqD_tup (xs ys : List Nat) : fEqD (.tuple (xs.map nD)) (.tuple (ys.map nD)) = some (.bool (decide (xs = ys))) := by
  unfold fEqD
  rw [if_pos ⟨shaped_tup xs, shaped_tup ys⟩]
  show some (PyData.bool (PyData.eqvAll (xs.map nD) (ys.map nD))) = _
  rw [eqvAll_ints]
def s2 : En → Option Out := dIf (eTest (eEff (lConsP (dVar 3) (lConsE (eCS fTuple (eLc (iLst (dVar 0)) 9 eYes (ePure (dLen (dVar 9))))) lNil)) fun k => dWhen k 2 (ePure ((dOp fEqD) (dGh k 0) (dGh k 1))))) (dRet (ePure (dCS fList (dCons (dVar 1) dNil)))) dNext
theorem list_L {α : Type} {f : α → PyData} {xs : List α} : fList [.dat (.list (xs.map f))] = some (dL f xs) := by
  show (match ((S.dat (.list (xs.map f))).seqL <|> (S.dat (.list (xs.map f))).seqT) with | some ds => some (S.lst (ds.map S.dat)) | none => none) = _
  show some (S.lst ((xs.map f).map S.dat)) = _
  rw [dL_back]
theorem v_s2 (hr : rows.length < 900) : s2 (EF rows A a (.own (.dat (PD bg))) .no .no .no .no .no .no []) =
    some (if bg = rows.map List.length then .rt (dL pD A) (EF rows A a (.own (.dat (PD bg))) .no .no .no .no .no .no []) else .nx (EF rows A a (.own (.dat (PD bg))) .no .no .no .no .no .no [])) := by
  let E0 : En := EF rows A a (.own (.dat (PD bg))) .no .no .no .no .no .no []
  let E1 : En := EF rows A a (.own (.dat (PD bg))) .no .no .no .no .no .no [.own (.dat (PD bg))]
  have hc : eLc (iLst (dVar 0)) 9 eYes (ePure (dLen (dVar 9))) E1 = some (dL nD (rows.map List.length), E1) := by
    have hsrc : iLst (dVar 0) E1 = some ⟨E1, [], rdD (rows.map roD), rows.length⟩ := by
      show some (Src.mk E1 [] (rdD (rows.map roD)) (rows.map roD).length) = _
      rw [List.length_map]
    refine (eLc_go (c := _) (E1 := E1) (acc := rows.map fun ds => S.dat (nD ds.length)) hsrc ?_).trans ?_
    · have := lcF (xs := rows) (f := roD) (p := fun _ => true) (g := fun ds => S.dat (nD ds.length)) (j := 9) (dt := eYes) (de := ePure (dLen (dVar 9))) (E0 := E1) (rd := rdD (rows.map roD)) (by omega) (fun i x hx => Gn.rdD_at (f := roD) hx) (Gn.rdD_en (f := roD) (Nat.le_refl _))
        (fun ds _ => ⟨EF rows A a (.own (.dat (PD bg))) .no .no .no .no .no (.own (.dat (roD ds))) [.own (.dat (PD bg))], rfl, rfl, fun _ => ePure_go (len_dat (f := De.d) rfl), rfl⟩) rows.length 0 rows.length [] (by omega) (Nat.le_refl _) (Nat.le_refl _)
      rw [List.nil_append, List.drop_zero, List.filter_eq_self.mpr (fun _ _ => rfl)] at this
      exact this
    · show some (S.lst (rows.map fun ds => S.dat (nD ds.length)), E1) = _
      unfold dL
      rw [List.map_map]
      rfl
  let LD : S := .dat (PD (rows.map List.length))
  have i1 : lConsP (dVar 3) (lConsE (eCS fTuple (eLc (iLst (dVar 0)) 9 eYes (ePure (dLen (dVar 9))))) lNil) E0 = some (2, E0 ++ [.own (.dat (PD bg)), .own LD]) := by
    refine lP_own (s := .dat (PD bg)) (k := 1) rfl (lE_go (k := 0) (E1 := E1) (s := LD) ?_ rfl)
    unfold eCS
    rw [show E0 ++ [.own (.dat (PD bg))] = E1 from rfl, hc]
    show (fTuple [dL nD (rows.map List.length)]).map (·, E1) = _
    rw [tuple_L]
    rfl
  have i2 : ePure ((dOp fEqD) (dGh 2 0) (dGh 2 1)) (E0 ++ [.own (.dat (PD bg)), .own LD]) = some (.dat (.bool (decide (bg = rows.map List.length))), E0 ++ [.own (.dat (PD bg)), .own LD]) :=
    ePure_go (dOp_go (a := .val (.dat (PD bg))) (b := .val LD) (x := PD bg) (y := PD (rows.map List.length)) rfl rfl rfl rfl (eqD_tup _ _))
  have i3 : eTest (eEff (lConsP (dVar 3) (lConsE (eCS fTuple (eLc (iLst (dVar 0)) 9 eYes (ePure (dLen (dVar 9))))) lNil)) fun k => dWhen k 2 (ePure ((dOp fEqD) (dGh k 0) (dGh k 1)))) E0 = some (decide (bg = rows.map List.length), E0) :=
    eTest_go ((eEff_go (dc := fun k => dWhen k 2 (ePure ((dOp fEqD) (dGh k 0) (dGh k 1)))) i1 (when_go i2)).trans rfl)
  unfold s2
  by_cases h : bg = rows.map List.length
  · rw [if_pos h]
    rw [decide_eq_true h] at i3
    refine dIf_t (E1 := E0) i3 (dRet_go (E1 := E0) (pure_go ?_))
    show (fList [.dat (AD A)]).map Rs.val = _
    rw [show AD A = .list (A.map pD) from rfl, list_L]
    rfl
  · rw [if_neg h]
    rw [decide_eq_false h] at i3
    exact dIf_f (E1 := E0) i3 rfl
def s3 : En → Option Out := dAlias 4 (dIfE (dTest (dOp fNeD (dVar 1) (dLst dNil))) (dIxT (dIxT (dIxL (dVar 1) (dNeg (dC (.int 1)))) (dC (.int 1))) (dC (.int 6))) (dC (.int 0)))
theorem pD_lay (p : Nat × De) : (pD p).canLay0 = true := rfl
theorem pD_deep (p : Nat × De) : (pD p).depth ≤ 2 := by
  show (PyData.depth (.tuple [.int (p.1 : Int), .tuple [.int p.2.slot, .int p.2.count, .int p.2.asker, .int p.2.num, .int p.2.more, .int p.2.worth, .int p.2.make]])) ≤ 2
  simp [PyData.depth, PyData.depthAll]
theorem neD_nil (A : List (Nat × De)) : fNeD (AD A) (.list []) = some (.bool (!decide (A.length = 0))) := by
  unfold fNeD AD
  rw [if_pos ⟨shaped_rows pD_lay pD_deep (by omega) A, rfl⟩]
  cases A with
  | nil => rfl
  | cons a r => simp [PyData.eqv, PyData.eqvAll]
theorem ix_last {B : List (Nat × De)} {q : Nat × De} {v3 v4 v5 v6 v7 v8 v9 : Sl} {G : En} : dIxL (dVar 1) (dNeg (dC (.int 1))) (EF rows (B ++ [q]) a v3 v4 v5 v6 v7 v8 v9 G) = some (.val (.dat (pD q))) := by
  show (match ixN ((B ++ [q]).map pD).length (-1) with | some j => (((B ++ [q]).map pD)[j]?).map fun d => Rs.val (.dat d) | none => none) = _
  rw [ixN_last (by simp)]
  simp
theorem v_s3 (h : Ah rows A t bg) : s3 (EF rows A a (.own (.dat (PD bg))) .no .no .no .no .no .no []) = some (.nx (EF rows A a (.own (.dat (PD bg))) (I t.make) .no .no .no .no .no [])) := by
  have hv : dIfE (dTest (dOp fNeD (dVar 1) (dLst dNil))) (dIxT (dIxT (dIxL (dVar 1) (dNeg (dC (.int 1)))) (dC (.int 1))) (dC (.int 6))) (dC (.int 0)) (EF rows A a (.own (.dat (PD bg))) .no .no .no .no .no .no []) = some (.val (.dat (.int t.make))) := by
    have ht : dTest (dOp fNeD (dVar 1) (dLst dNil)) (EF rows A a (.own (.dat (PD bg))) .no .no .no .no .no .no []) = some (!decide (A.length = 0)) :=
      test_go (dOp_go (a := .val (.dat (AD A))) (b := .val (.lst [])) (x := AD A) (y := .list []) rfl rfl rfl rfl (neD_nil A))
    unfold dIfE
    rw [ht]
    cases h with
    | nil => rfl
    | @snoc B t0 bg0 k e h0 hn hl =>
      have : (!decide ((B ++ [(k, e)]).length = 0)) = true := by simp
      rw [this]
      exact ix_go (ds := ds7 e) (ix_go (ds := [.int (k : Int), e.d]) ix_last rfl (by decide) rfl) rfl (by decide) rfl
  unfold s3 dAlias
  rw [hv]
  rfl
variable {z : List NK}
theorem nodup_le {α : Type} [DecidableEq α] : ∀ {l m : List α}, l.Nodup → (∀ x ∈ l, x ∈ m) → l.length ≤ m.length
  | [], _, _, _ => Nat.zero_le _
  | x :: l, m, nd, h => by
    have hx := h x List.mem_cons_self
    have := nodup_le (l := l) (m := m.erase x) (List.nodup_cons.mp nd).2 fun y hy => (List.mem_erase_of_ne fun q => (List.nodup_cons.mp nd).1 (by rw [← q]; exact hy)).mpr (h y (List.mem_cons_of_mem _ hy))
    rw [List.length_erase_of_mem hx] at this
    have : 0 < m.length := List.length_pos_of_mem hx
    simp only [List.length_cons]
    omega
def within : List (List De) → List Nat → Prop
  | [], [] => True
  | ds :: rows, b :: bg => b ≤ ds.length ∧ within rows bg
  | _, _ => False
theorem within_zero : ∀ (rows : List (List De)), within rows (rows.map fun _ => 0)
  | [] => trivial
  | _ :: rows => ⟨Nat.zero_le _, within_zero rows⟩
theorem within_step : ∀ {rows : List (List De)} {bg : List Nat} {k : Nat}, nxt rows bg k = some e → within rows bg → within rows (bg.modify k (· + 1))
  | [], _, _, h, _ => by simp [nxt] at h
  | _ :: _, [], _, _, w => w.elim
  | ds :: rows, b :: bg, 0, h, w => by
    have h' : ds[b]? = some e := by simpa [nxt] using h
    have hb := (List.getElem?_eq_some_iff.mp h').1
    exact ⟨hb, w.2⟩
  | ds :: rows, b :: bg, k + 1, h, w => by
    have h' : nxt rows bg k = some e := by simpa [nxt] using h
    exact ⟨w.1, within_step h' w.2⟩
theorem within_done : ∀ {rows : List (List De)} {bg : List Nat}, within rows bg → (∀ k, nxt rows bg k = none) → bg = rows.map List.length
  | [], [], _, _ => rfl
  | [], _ :: _, w, _ => w.elim
  | _ :: _, [], w, _ => w.elim
  | ds :: rows, b :: bg, w, h => by
    have h0 : ds[b]? = none := by simpa [nxt] using h 0
    have := List.getElem?_eq_none_iff.mp h0
    have e1 := within_done w.2 fun k => by simpa [nxt] using h (k + 1)
    rw [List.map_cons, ← e1, show b = ds.length by have := w.1; omega]
theorem done_nxt (h : bg = rows.map List.length) : ∀ k, nxt rows bg k = none := by
  intro k
  subst h
  unfold nxt
  cases q : rows[k]? with
  | none => rfl
  | some ds => simp [List.getElem?_map, q]
def allBg : List (List De) → List (List Int)
  | [] => [[]]
  | ds :: rows => (List.range (ds.length + 1)).flatMap fun b => (allBg rows).map fun r => ((b : Nat) : Int) :: r
theorem in_allBg : ∀ {rows : List (List De)} {bg : List Nat}, within rows bg → (bg.map fun n : Nat => (n : Int)) ∈ allBg rows
  | [], [], _ => List.mem_singleton.mpr rfl
  | [], _ :: _, w => w.elim
  | _ :: _, [], w => w.elim
  | ds :: rows, b :: bg, w => by
    unfold allBg
    rw [List.mem_flatMap]
    exact ⟨b, List.mem_range.mpr (by have := w.1; omega), List.mem_map.mpr ⟨_, in_allBg w.2, rfl⟩⟩
theorem sum_const {c : Nat} : ∀ (l : List Nat), (l.map fun _ => c).sum = l.length * c
  | [] => by simp
  | _ :: l => by
    rw [List.map_cons, List.sum_cons, sum_const l, List.length_cons, Nat.succ_mul]
    omega
theorem allBg_len : ∀ (rows : List (List De)), (allBg rows).length ≤ 2 ^ rows.flatten.length
  | [] => Nat.le_refl _
  | ds :: rows => by
    unfold allBg
    rw [List.length_flatMap]
    have e1 : ((List.range (ds.length + 1)).map fun b => ((allBg rows).map fun r => ((b : Nat) : Int) :: r).length) = (List.range (ds.length + 1)).map fun _ => (allBg rows).length := List.map_congr_left fun b _ => List.length_map ..
    rw [e1, sum_const, List.length_range, List.flatten_cons, List.length_append, Nat.pow_add]
    exact Nat.mul_le_mul Nat.lt_two_pow_self (allBg_len rows)
def allKeys (rows : List (List De)) : List NK := (allBg rows).flatMap fun b => (0 :: makes rows).map fun m => (b, m)
theorem sum_constL {α : Type} {c : Nat} : ∀ (l : List α), (l.map fun _ => c).sum = l.length * c
  | [] => by simp
  | _ :: l => by
    rw [List.map_cons, List.sum_cons, sum_constL l, List.length_cons, Nat.succ_mul]
    omega
theorem allKeys_len (h : rows.flatten.length ≤ 17) : (allKeys rows).length ≤ 2400000 := by
  unfold allKeys
  rw [List.length_flatMap]
  have e1 : ((allBg rows).map fun b => ((0 :: makes rows).map fun m => (b, m)).length) = (allBg rows).map fun _ => (makes rows).length + 1 := List.map_congr_left fun b _ => by rw [List.length_map, List.length_cons]
  rw [e1, sum_constL, makes_len]
  have h1 := allBg_len rows
  have h2 : 2 ^ rows.flatten.length ≤ 2 ^ 17 := Nat.pow_le_pow_right (by decide) h
  have h3 : (allBg rows).length * (rows.flatten.length + 1) ≤ 2 ^ 17 * 18 := Nat.mul_le_mul (Nat.le_trans h1 h2) (by omega)
  omega
theorem nxt_mem (h : nxt rows bg k = some e) : e ∈ rows.flatten := by
  unfold nxt at h
  obtain ⟨ds, h1, h2⟩ := Option.bind_eq_some_iff.mp h
  obtain ⟨b, h3, h4⟩ := Option.bind_eq_some_iff.mp h2
  exact List.mem_flatten.mpr ⟨ds, List.mem_of_getElem? h1, List.mem_of_getElem? h4⟩
theorem nxt_lt (h : nxt rows bg k = some e) : k < rows.length := by
  unfold nxt at h
  obtain ⟨ds, h1, h2⟩ := Option.bind_eq_some_iff.mp h
  exact (List.getElem?_eq_some_iff.mp h1).1
theorem Ah.within (h : Ah rows A t bg) : DQ17.within rows bg := by
  induction h with
  | nil => exact within_zero rows
  | snoc _ hn _ ih => exact within_step hn ih
theorem Ah.key (h : Ah rows A t bg) : keyOf t bg ∈ allKeys rows := by
  unfold allKeys
  rw [List.mem_flatMap]
  refine ⟨_, in_allBg h.within, List.mem_map.mpr ⟨t.make, ?_, rfl⟩⟩
  cases h with
  | nil => exact List.mem_cons_self
  | @snoc A t bg k e h0 hn hl => exact List.mem_cons_of_mem _ (List.mem_map.mpr ⟨e, nxt_mem hn, rfl⟩)
structure Zok (rows : List (List De)) (z : List NK) : Prop where
  sound : Sound rows z
  nd : z.Nodup
  inn : ∀ p ∈ z, p ∈ allKeys rows
theorem Zok.nil : Zok rows [] := ⟨.nil, List.nodup_nil, fun _ m => nomatch m⟩
theorem Zok.len (h : Zok rows z) (hf : rows.flatten.length ≤ 17) : z.length < 10000000 := by
  have := nodup_le h.nd h.inn
  have := allKeys_len hf
  omega
theorem Zok.put (h : Zok rows z) (ha : Ah rows A t bg) (no : ∀ W, ¬ Run rows t bg W) : Zok rows (zPutKey (keyOf t bg) z) := by
  refine ⟨h.sound.put ha.good no, ?_, fun p m => ?_⟩
  · unfold zPutKey
    split
    · exact h.nd
    · next hn => exact List.nodup_append.mpr ⟨h.nd, List.nodup_cons.mpr ⟨(fun m => nomatch m), List.nodup_nil⟩, fun x hx y hy q => hn (by rw [← List.mem_singleton.mp hy, ← q]; exact hx)⟩
  · unfold zPutKey at m
    split at m
    · exact h.inn p m
    · rcases List.mem_append.mp m with q | q
      · exact h.inn p q
      · rw [List.mem_singleton.mp q]; exact ha.key
variable {v5 v6 : Sl}
def EK (rows : List (List De)) (A : List (Nat × De)) (a : Addr) (bg : List Nat) (t : Ty) (v5 v6 : Sl) : En := EF rows A a (.own (.dat (PD bg))) (I t.make) v5 v6 .no .no .no []
theorem cons_go {da : En → Option Rs} {dr : En → Option (List Rs)} {E : En} {r : Rs} {rs : List Rs} (h1 : da E = some r) (h2 : dr E = some rs) : dCons da dr E = some (r :: rs) := by
  unfold dCons
  rw [h1, h2]
abbrev deedX : En → Option Rs := dIxL (dIxL (dVar 0) (dVar 5)) (dIxT (dVar 3) (dVar 5))
theorem v_row {ds : List De} (h : rows[k]? = some ds) : dIxL (dVar 0) (dVar 5) (EK rows A a bg t (I k) v6) = some (.val (.dat (roD ds))) := ixD (f := roD) (p := k) rfl rfl h
theorem v_bg {b : Nat} (h : bg[k]? = some b) : dIxT (dVar 3) (dVar 5) (EK rows A a bg t (I k) v6) = some (.val (.dat (nD b))) := ix_go (ds := bg.map nD) rfl rfl (by omega) (by rw [List.getElem?_map]; simp [h])
theorem v_deedX (h : nxt rows bg k = some e) : deedX (EK rows A a bg t (I k) v6) = some (.val (.dat e.d)) := by
  unfold nxt at h
  obtain ⟨ds, h1, h2⟩ := Option.bind_eq_some_iff.mp h
  obtain ⟨b, h3, h4⟩ := Option.bind_eq_some_iff.mp h2
  exact ixD (f := De.d) (p := b) (v_row h1) (v_bg h3) h4
abbrev canT : En → Option (Bool × En) := eAnd (ePureT (dTest (dOp fLt (dIxT (dVar 3) (dVar 5)) (dLen (dIxL (dVar 0) (dVar 5)))))) (eTest (eCall K17.g__law_lets (dCons (dVar 1) (dCons deedX dNil))))
def can (rows : List (List De)) (t : Ty) (bg : List Nat) (k : Nat) : Bool := match nxt rows bg k with
  | some e => t.lets e
  | none => false
theorem v_can (h : Ah rows A t bg) (hl : A.length < 900) (hk : k < rows.length) (h6 : Fr v6) : canT (EK rows A a bg t (I k) v6) = some (can rows t bg k, EK rows A a bg t (I k) v6) := by
  obtain ⟨ds, hd⟩ : ∃ ds, rows[k]? = some ds := ⟨_, List.getElem?_eq_getElem hk⟩
  obtain ⟨b, hb⟩ : ∃ b, bg[k]? = some b := ⟨_, h.cnt k hk⟩
  have hn : nxt rows bg k = ds[b]? := by unfold nxt; rw [hd, hb]; rfl
  have t1 : ePureT (dTest (dOp fLt (dIxT (dVar 3) (dVar 5)) (dLen (dIxL (dVar 0) (dVar 5))))) (EK rows A a bg t (I k) v6) = some (decide (((b : Nat) : Int) < ((ds.length : Nat) : Int)), EK rows A a bg t (I k) v6) :=
    pureT_go (test_go (opI_go (v_bg hb) (len_dat (f := De.d) (v_row hd)) rfl))
  unfold can
  rw [hn]
  cases he : ds[b]? with
  | none =>
    have := List.getElem?_eq_none_iff.mp he
    rw [decide_eq_false (by omega)] at t1
    exact eAnd_f t1
  | some e =>
    have hlt := (List.getElem?_eq_some_iff.mp he).1
    rw [decide_eq_true (by omega)] at t1
    refine eAnd_t t1 (eTest_go ?_)
    have c := eCall_go (E := EK rows A a bg t (I k) v6) (dr := dCons (dVar 1) (dCons deedX dNil)) (rs := [.val (.dat (AD A)), .val (.dat e.d)]) (cons_go rfl (cons_go (v_deedX (hn.trans he)) rfl)) rfl rfl (v_lawlets h hl)
    refine c.trans ?_
    rcases h6 with rfl | ⟨_, rfl⟩ <;> rfl
abbrev moreE : En → Option (S × En) := eSeal (ePure (dOpS fCatL (dVar 1) (dLst (dCons (dTupL (dCons (dVar 5) (dCons deedX dNil))) dNil))))
theorem v_more17 (h : nxt rows bg k = some e) (hl : A.length < 900) : moreE (EK rows A a bg t (I k) v6) = some (.dat (AD (A ++ [(k, e)])), EK rows A a bg t (I k) v6) := by
  have c1 : dTupL (dCons (dVar 5) (dCons deedX dNil)) (EK rows A a bg t (I k) v6) = some (.val (.dat (pD (k, e)))) := tupL_go (rs := [.val (.dat (.int (k : Nat))), .val (.dat e.d)]) (cons_go rfl (cons_go (v_deedX h) rfl)) (by simp) rfl
  have c2 : dLst (dCons (dTupL (dCons (dVar 5) (dCons deedX dNil))) dNil) (EK rows A a bg t (I k) v6) = some (.val (dL pD [(k, e)])) := by
    unfold dLst
    rw [cons_go c1 rfl]
    rfl
  have c3 : dOpS fCatL (dVar 1) (dLst (dCons (dTupL (dCons (dVar 5) (dCons deedX dNil))) dNil)) (EK rows A a bg t (I k) v6) = some (.val (dL pD (A ++ [(k, e)]))) := by
    refine dOpS_go (a := .val (.dat (AD A))) (s := .dat (AD A)) rfl c2 rfl rfl ?_
    unfold fCatL
    rw [show (S.dat (AD A)).seqL = some (A.map pD) from rfl, dL_seqL]
    show (if (A.map pD).length + ([(k, e)].map pD).length < 100000 then _ else none) = _
    rw [if_pos (by simp; omega), ← List.map_append, dL_back]
  unfold moreE eSeal
  rw [pure_go c3]
  simp only [dL_toD]
  rfl
abbrev turnB (g : Addr → PyData → PyData → List NK → Option (S × List NK)) (a : Addr) : En → List NK → Option (Out × List NK) := zIf (zT canT) (zSeq (zCall 6 2 a g (dVar 0) moreE) (zL (dIf (ePureT (dTest (dOp fNotN (dVar 6) (dC .none)))) (dRet (eMove 6)) dNext))) (zL dNext)
def Told (rows : List (List De)) (A : List (Nat × De)) (t : Ty) (bg : List Nat) (s : S) : Prop := (∃ F, First rows t bg F ∧ s = dL pD (A ++ F)) ∨ (s = .dat .none ∧ ∀ W, ¬ Run rows t bg W)
section
variable {g : Addr → PyData → PyData → List NK → Option (S × List NK)}
theorem v_turn (h : Ah rows A t bg) (hl : A.length < 900) (hk : k < rows.length) (h6 : Fr v6) (hz : Zok rows z)
    (IH : ∀ {e : De}, nxt rows bg k = some e → t.lets e = true → ∃ s z', g a (RD rows) (AD (A ++ [(k, e)])) z = some (s, z') ∧ Zok rows z' ∧ Told rows (A ++ [(k, e)]) (t.note e) (bg.modify k (· + 1)) s)
    (no : ∀ p W, Run rows t bg (p :: W) → k ≤ p.1) :
    (∃ F z' E', turnB g a (EK rows A a bg t (I k) v6) z = some (.rt (dL pD (A ++ F)) E', z') ∧ Zok rows z' ∧ First rows t bg F) ∨
    (∃ v6' z', turnB g a (EK rows A a bg t (I k) v6) z = some (.nx (EK rows A a bg t (I k) v6'), z') ∧ Fr v6' ∧ Zok rows z' ∧ ∀ p W, Run rows t bg (p :: W) → k + 1 ≤ p.1) := by
  have c := v_can (a := a) h hl hk h6
  cases hc : can rows t bg k with
  | false =>
    rw [hc] at c
    refine .inr ⟨v6, z, ?_, h6, hz, fun p W R => ?_⟩
    · show (match zT canT (EK rows A a bg t (I k) v6) z with | some (true, E1) => _ | some (false, E1) => zL dNext E1 z | none => none) = _
      unfold zT
      rw [c]
      rfl
    · have h1 := no p W R
      cases R with
      | @step _ _ k' e' _ g1 g2 g3 =>
        by_cases q : k = k'
        · subst q
          unfold can at hc
          rw [g1] at hc
          have hc' : t.lets e' = false := hc
          rw [hc'] at g2
          cases g2
        · show k + 1 ≤ k'
          have : k ≤ k' := h1
          omega
  | true =>
    rw [hc] at c
    unfold can at hc
    split at hc
    · next e hn =>
      obtain ⟨s, z', hg, hz', told⟩ := IH hn hc
      have c1 : zCall 6 2 a g (dVar 0) moreE (EK rows A a bg t (I k) v6) z = some (.nx (EK rows A a bg t (I k) (.own s)), z') := by
        unfold zCall
        rw [show dVar 0 (EK rows A a bg t (I k) v6) = some (.val (.dat (RD rows))) from rfl]
        simp only [v_more17 hn hl]
        rw [show (EK rows A a bg t (I k) v6)[2]? = some (.own (.con (.ref a))) from rfl]
        simp only [if_pos, hg]
        rcases h6 with rfl | ⟨_, rfl⟩ <;> rfl
      have c2 : turnB g a (EK rows A a bg t (I k) v6) z = zL (dIf (ePureT (dTest (dOp fNotN (dVar 6) (dC .none)))) (dRet (eMove 6)) dNext) (EK rows A a bg t (I k) (.own s)) z' := by
        show (match zT canT (EK rows A a bg t (I k) v6) z with | some (true, E1) => zSeq (zCall 6 2 a g (dVar 0) moreE) (zL (dIf (ePureT (dTest (dOp fNotN (dVar 6) (dC .none)))) (dRet (eMove 6)) dNext)) E1 z | some (false, E1) => zL dNext E1 z | none => none) = _
        unfold zT
        rw [c]
        show (match zCall 6 2 a g (dVar 0) moreE (EK rows A a bg t (I k) v6) z with | some (.nx E1, z1) => _ | r => r) = _
        rw [c1]
      rcases told with ⟨F, hF, rfl⟩ | ⟨rfl, hno⟩
      · refine .inl ⟨(k, e) :: F, z', EK rows A a bg t (I k) .no, ?_, hz', hF.step hn hc no⟩
        rw [c2]
        have t1 : ePureT (dTest (dOp fNotN (dVar 6) (dC .none))) (EK rows A a bg t (I k) (.own (dL pD (A ++ [(k, e)] ++ F)))) = some (true, EK rows A a bg t (I k) (.own (dL pD (A ++ [(k, e)] ++ F)))) :=
          pureT_go (test_go (dOp_go (a := .pl [6]) (b := .val (.dat .none)) (x := .list ((A ++ [(k, e)] ++ F).map pD)) (y := .none) rfl rfl ((Rs.full_at.trans (by rw [show (Rs.pl [6]).at (EK rows A a bg t (I k) (.own (dL pD (A ++ [(k, e)] ++ F)))) = some (dL pD (A ++ [(k, e)] ++ F)) from (show S.get _ [] = _ from S.get_nil _)]; exact dL_toD))) rfl rfl))
        unfold zL
        rw [dIf_t t1 rfl]
        rw [List.append_assoc]
        rfl
      · refine .inr ⟨.own (.dat .none), z', ?_, .inr ⟨_, rfl⟩, hz', fun p W R => ?_⟩
        · rw [c2]; rfl
        · have h1 := no p W R
          cases R with
          | @step _ _ k' e' _ g1 g2 g3 =>
            by_cases q : k = k'
            · subst q
              rw [hn] at g1
              cases g1
              exact absurd g3 (hno W)
            · show k + 1 ≤ k'
              have : k ≤ k' := h1
              omega
    · cases hc
theorem v_loop (h : Ah rows A t bg) (hl : A.length < 900)
    (IH : ∀ {z : List NK} {k : Nat} {e : De}, Zok rows z → nxt rows bg k = some e → t.lets e = true → ∃ s z', g a (RD rows) (AD (A ++ [(k, e)])) z = some (s, z') ∧ Zok rows z' ∧ Told rows (A ++ [(k, e)]) (t.note e) (bg.modify k (· + 1)) s) :
    ∀ (m i : Nat) {z : List NK} {v5 v6 : Sl}, i + m = rows.length → Fr v5 → Fr v6 → Zok rows z → (∀ p W, Run rows t bg (p :: W) → i ≤ p.1) →
    (∃ F z' E', zLoop (bName 5) (turnB g a) m i (EK rows A a bg t v5 v6) z = some (.rt (dL pD (A ++ F)) E', z') ∧ Zok rows z' ∧ First rows t bg F) ∨
    (∃ v5' v6' z', zLoop (bName 5) (turnB g a) m i (EK rows A a bg t v5 v6) z = some (.nx (EK rows A a bg t v5' v6'), z') ∧ Fr v5' ∧ Fr v6' ∧ Zok rows z' ∧ ∀ p W, ¬ Run rows t bg (p :: W)) := by
  intro m
  induction m with
  | zero =>
    intro i z v5 v6 hi h5 h6 hz no
    refine .inr ⟨v5, v6, z, rfl, h5, h6, hz, fun p W R => ?_⟩
    have := no p W R
    cases R with
    | step g1 _ _ =>
      have := nxt_lt g1
      simp only at *
      omega
  | succ m ih =>
    intro i z v5 v6 hi h5 h6 hz no
    have e1 : bName 5 (.val (.dat (.int (i : Nat)))) (EK rows A a bg t v5 v6) = some (EK rows A a bg t (I i) v6) := by
      rcases h5 with rfl | ⟨_, rfl⟩ <;> rcases h6 with rfl | ⟨_, rfl⟩ <;> rfl
    rcases v_turn (k := i) (g := g) h hl (by omega) h6 hz (fun h1 h2 => IH hz h1 h2) no with ⟨F, z', E', q1, q2, q3⟩ | ⟨v6', z', q1, q2, q3, q4⟩
    · refine .inl ⟨F, z', E', ?_, q2, q3⟩
      unfold zLoop
      simp only [e1, q1]
    · have := ih (i + 1) (z := z') (v5 := I i) (v6 := v6') (by omega) (.inr ⟨_, rfl⟩) q2 q3 q4
      unfold zLoop
      simp only [e1, q1]
      exact this
end
abbrev keyE : En → Option (S × En) := ePure (dTupL (dCons (dVar 3) (dCons (dVar 4) dNil)))
theorem v_key : keyE (EK rows A a bg t v5 v6) = some (.dat (.tuple [PD bg, .int t.make]), EK rows A a bg t v5 v6) := rfl
theorem mapM_nD : ∀ (bg : List Nat), ((bg.map nD).mapM fun d => match d with | PyData.int k => some k | _ => none) = some (bg.map fun n : Nat => (n : Int))
  | [] => rfl
  | b :: bg => by
    rw [List.map_cons, List.mapM_cons, mapM_nD bg]
    rfl
theorem nk_is : nkOf (.tuple [PD bg, .int t.make]) = some (keyOf t bg) := by
  show (((bg.map nD).mapM fun d => match d with | PyData.int k => some k | _ => none).map fun ks => (ks, t.make)) = _
  rw [mapM_nD]
  rfl
theorem v_in : zIn 2 a keyE (EK rows A a bg t v5 v6) z = some (decide (keyOf t bg ∈ z), EK rows A a bg t v5 v6) := by
  unfold zIn
  rw [v_key]
  simp only [nk_is]
  rw [show (EK rows A a bg t v5 v6)[2]? = some (.own (.con (.ref a))) from rfl]
  simp only [if_pos]
theorem v_put (hz : z.length < 10000000) : zPut 2 a keyE (EK rows A a bg t v5 v6) z = some (.nx (EK rows A a bg t v5 v6), zPutKey (keyOf t bg) z) := by
  unfold zPut
  rw [v_key]
  simp only [nk_is]
  rw [show (EK rows A a bg t v5 v6)[2]? = some (.own (.con (.ref a))) from rfl]
  simp only [hz, and_self, if_pos]
theorem zSeq_go {d1 d2 : En → List NK → Option (Out × List NK)} {E E1 : En} {z1 : List NK} {r : Option (Out × List NK)} (h : d1 E z = some (.nx E1, z1)) (h2 : d2 E1 z1 = r) : zSeq d1 d2 E z = r := by
  unfold zSeq
  rw [h]
  exact h2
theorem zSeq_rt {d1 d2 : En → List NK → Option (Out × List NK)} {E E1 : En} {s : S} {z1 : List NK} (h : d1 E z = some (.rt s E1, z1)) : zSeq d1 d2 E z = some (.rt s E1, z1) := by
  unfold zSeq
  rw [h]
theorem zL_nx {d : En → Option Out} {E E1 : En} (h : d E = some (.nx E1)) : zL d E z = some (.nx E1, z) := by unfold zL; rw [h]
theorem zL_rt {d : En → Option Out} {E E1 : En} {s : S} (h : d E = some (.rt s E1)) : zL d E z = some (.rt s E1, z) := by unfold zL; rw [h]
theorem fnZ_go {n : Nat} {f : Addr → En → List NK → Option (Out × List NK)} {d1 d2 : PyData} {s : S} {E1 : En} {z' : List NK} (h : f a (entry n [.dat d1, .dat d2, .con (.ref a)]) z = some (.rt s E1, z')) : fnZ n f a d1 d2 z = some (s, z') := by
  unfold fnZ
  rw [h]
theorem v_first (hr : rows.length < 900) (hf : rows.flatten.length ≤ 17) : ∀ (j : Nat) {A : List (Nat × De)} {t : Ty} {bg : List Nat} {z : List NK}, Ah rows A t bg → lft rows bg < j → Zok rows z →
    ∃ s z', K17.g__law_first j a (RD rows) (AD A) z = some (s, z') ∧ Zok rows z' ∧ Told rows A t bg s := by
  intro j
  induction j with
  | zero => intro A t bg z _ h _; exact absurd h (Nat.not_lt_zero _)
  | succ j ih =>
    intro A t bg z h hj hz
    have hl : A.length < 900 := by have := h.lft; omega
    have a1 := v_s1 (a := a) h hl hr
    have a2 := v_s2 (a := a) (A := A) (bg := bg) hr
    by_cases hd : bg = rows.map List.length
    · rw [if_pos hd] at a2
      refine ⟨dL pD A, z, fnZ_go (E1 := _) (zSeq_go (zL_nx a1) (zSeq_rt (zL_rt a2))), hz, .inl ⟨[], ⟨.done (done_nxt hd), fun W R => ?_⟩, by rw [List.append_nil]⟩⟩
      cases R with
      | done _ => exact .nil
      | step g1 _ _ => rw [done_nxt hd] at g1; cases g1
    · rw [if_neg hd] at a2
      have a3 := v_s3 (a := a) h
      have nil_no : ¬ Run rows t bg [] := fun R => by
        cases R with
        | done h0 => exact hd (within_done h.within h0)
      by_cases hk : keyOf t bg ∈ z
      · refine ⟨.dat .none, z, fnZ_go (zSeq_go (zL_nx a1) (zSeq_go (zL_nx a2) (zSeq_go (zL_nx a3) (zSeq_rt (E1 := EK rows A a bg t .no .no) ?_)))), hz, .inr ⟨rfl, fun W R => hz.sound _ hk t bg h.good rfl W R⟩⟩
        show (match zIn 2 a keyE (EK rows A a bg t .no .no) z with | some (true, E1) => zL (dRet (ePure (dC .none))) E1 z | some (false, E1) => zL dNext E1 z | none => none) = _
        rw [v_in, decide_eq_true hk]
        rfl
      · have a4 : zIf (zIn 2 a keyE) (zL (dRet (ePure (dC .none)))) (zL dNext) (EK rows A a bg t .no .no) z = some (.nx (EK rows A a bg t .no .no), z) := by
          show (match zIn 2 a keyE (EK rows A a bg t .no .no) z with | some (true, E1) => zL (dRet (ePure (dC .none))) E1 z | some (false, E1) => zL dNext E1 z | none => none) = _
          rw [v_in, decide_eq_false hk]
          rfl
        have hrange : ∀ o : Option (Out × List NK), zLoop (bName 5) (turnB (K17.g__law_first j) a) rows.length 0 (EK rows A a bg t .no .no) z = o → zFor (dLen (dVar 0)) (bName 5) (turnB (K17.g__law_first j) a) (EK rows A a bg t .no .no) z = o := fun o ho => by
          unfold zFor
          rw [show dLen (dVar 0) (EK rows A a bg t .no .no) = some (.val (.dat (.int (rows.length : Nat)))) from len_rows]
          show (if ((rows.length : Nat) : Int) < 2 ^ 62 ∧ -(2 ^ 62) ≤ ((rows.length : Nat) : Int) then _ else none) = o
          rw [if_pos (by omega), Int.toNat_natCast]
          exact ho
        rcases v_loop (g := K17.g__law_first j) (a := a) h hl (fun {z k e} hz' hn hl' => ih (.snoc h hn hl') (by have := lft_step hn; omega) hz') rows.length 0 (v5 := .no) (v6 := .no) (by omega) (.inl rfl) (.inl rfl) hz (fun _ _ _ => Nat.zero_le _) with ⟨F, z', E', q1, q2, q3⟩ | ⟨v5', v6', z', q1, q2, q3, q4, q5⟩
        · exact ⟨_, z', fnZ_go (zSeq_go (zL_nx a1) (zSeq_go (zL_nx a2) (zSeq_go (zL_nx a3) (zSeq_go a4 (zSeq_rt (hrange _ q1)))))), q2, .inl ⟨F, q3, rfl⟩⟩
        · have none_at_all : ∀ W, ¬ Run rows t bg W := fun W R => by
            cases W with
            | nil => exact nil_no R
            | cons p W => exact q5 p W R
          exact ⟨.dat .none, _, fnZ_go (E1 := EK rows A a bg t v5' v6') (zSeq_go (zL_nx a1) (zSeq_go (zL_nx a2) (zSeq_go (zL_nx a3) (zSeq_go a4 (zSeq_go (hrange _ q1) (zSeq_go (v_put (q4.len hf)) rfl)))))), q4.put h none_at_all, .inr ⟨rfl, none_at_all⟩⟩
def EA (x : Sl) (s : S) (d : PyData) (v2 : Sl) : En := [x, .own (.dat d), v2, .own s, .own (.dat d)]
theorem ixA_L {da db : En → Option Rs} {E : En} {r : Rs} (h : dIxL da db E = some r) : dIxA da db E = some r := by unfold dIxA; rw [h]
theorem ixA_T {da db : En → Option Rs} {E : En} {r : Rs} (h : dIxL da db E = none) (h2 : dIxT da db E = some r) : dIxA da db E = some r := by unfold dIxA; rw [h]; exact h2
abbrev alB (g : List S → Option (S × List S)) : En → Option Out := dIf (eNot (eTest (eCall g (dCons (dIxA (dVar 0) (dVar 2)) (dCons (dIxA (dVar 1) (dVar 2)) dNil))))) (dRet (ePure (dC (.bool false)))) dNext
def al2 : Nat → Sl
  | 0 => .no
  | i + 1 => I i
theorem al_turn {g : List S → Option (S × List S)} {x : Sl} {s : S} {D d : PyData} {i : Nat} (h0 : dIxA (dVar 0) (dVar 2) (EA x s D (I i)) = some (.val (.dat d))) (h1 : dIxA (dVar 1) (dVar 2) (EA x s D (I i)) = some (.val (.dat d)))
    (hx : x = .bor [3] ∨ ∃ a, x = .own a) (hg : g [.dat d, .dat d] = some (.dat (.bool true), [.dat d, .dat d])) : alB g (EA x s D (I i)) = some (.nx (EA x s D (I i))) := by
  have c : eCall g (dCons (dIxA (dVar 0) (dVar 2)) (dCons (dIxA (dVar 1) (dVar 2)) dNil)) (EA x s D (I i)) = some (.dat (.bool true), EA x s D (I i)) := by
    have c := eCall_go (E := EA x s D (I i)) (dr := dCons (dIxA (dVar 0) (dVar 2)) (dCons (dIxA (dVar 1) (dVar 2)) dNil)) (rs := [.val (.dat d), .val (.dat d)]) (cons_go h0 (cons_go h1 rfl)) rfl rfl hg
    refine c.trans ?_
    rcases hx with rfl | ⟨_, rfl⟩ <;> rfl
  have c2 : eNot (eTest (eCall g (dCons (dIxA (dVar 0) (dVar 2)) (dCons (dIxA (dVar 1) (dVar 2)) dNil)))) (EA x s D (I i)) = some (false, EA x s D (I i)) := by
    unfold eNot
    rw [eTest_go c]
    rfl
  exact dIf_f c2 rfl
theorem al_loop {g : List S → Option (S × List S)} {x : Sl} {s : S} {D : PyData} {ds : List PyData} (hl : ds.length < 900) (hx : x = .bor [3] ∨ ∃ a, x = .own a)
    (hlen : dLen (dVar 1) (EA x s D .no) = some (.val (.dat (.int (ds.length : Nat)))))
    (h : ∀ (i : Nat) (d : PyData), ds[i]? = some d → dIxA (dVar 0) (dVar 2) (EA x s D (I i)) = some (.val (.dat d)) ∧ dIxA (dVar 1) (dVar 2) (EA x s D (I i)) = some (.val (.dat d)) ∧ g [.dat d, .dat d] = some (.dat (.bool true), [.dat d, .dat d])) :
    dFor (iRange (dLen (dVar 1))) (bName 2) (alB g) (EA x s D .no) = some (.nx (EA x s D (al2 ds.length))) := by
  have src : iRange (dLen (dVar 1)) (EA x s D .no) = some ⟨EA x s D .no, [], fun _ i => some (if i < ((ds.length : Nat) : Int).toNat then some (.val (.dat (.int (i : Nat)))) else none), ((ds.length : Nat) : Int).toNat⟩ := iRange_go hlen (by omega) (by omega)
  have lp := loop_nx (rd := fun _ i => some (if i < ((ds.length : Nat) : Int).toNat then some (.val (.dat (.int (i : Nat)))) else none)) (bd := bName 2) (db := alB g) (fun i => EA x s D (al2 i)) ds.length (fun i hi => by
    obtain ⟨q1, q2, q3⟩ := h i _ (List.getElem?_eq_getElem hi)
    refine ⟨.val (.dat (.int (i : Nat))), EA x s D (I i), ?_, ?_, al_turn q1 q2 hx q3⟩
    · rw [Int.toNat_natCast, if_pos hi]
    · cases i <;> rcases hx with rfl | ⟨_, rfl⟩ <;> rfl) (by rw [Int.toNat_natCast, if_neg (Nat.lt_irrefl _)]) ds.length 0 ds.length (by omega) (Nat.le_refl _)
  have := dFor_go (bd := bName 2) (db := alB g) (E1 := EA x s D (al2 ds.length)) src (by
    rw [Int.toNat_natCast] at lp ⊢
    exact lp)
  exact this
theorem neS_same (n : Nat) : fNeS (.int (n : Nat)) (.int (n : Nat)) = some (.bool false) := by
  show some (PyData.bool (!decide (((n : Nat) : Int) = ((n : Nat) : Int)))) = _
  rw [decide_eq_true rfl]
  rfl
theorem al_tup {j : Nat} {ds : List PyData} (hl : ds.length < 900) (hs : ∀ (i : Nat) (d : PyData), ds[i]? = some d → K17.g__law_alike j [.dat d, .dat d] = some (.dat (.bool true), [.dat d, .dat d])) :
    K17.g__law_alike (j + 1) [.dat (.tuple ds), .dat (.tuple ds)] = some (.dat (.bool true), [.dat (.tuple ds), .dat (.tuple ds)]) := by
  let D : PyData := .tuple ds
  let E0 : En := EA (.own (.dat D)) (.dat D) D .no
  have hlen : ∀ i, (i = 0 ∨ i = 1) → dLen (dVar i) E0 = some (.val (.dat (.int (ds.length : Nat)))) := fun i hi => by rcases hi with rfl | rfl <;> rfl
  have ix : ∀ i k d, (i = 0 ∨ i = 1) → ds[k]? = some d → dIxA (dVar i) (dVar 2) (EA (.own (.dat D)) (.dat D) D (I (k : Nat))) = some (.val (.dat d)) := fun i k d hi hk => by
    rcases hi with rfl | rfl <;> exact ixA_T rfl (ix_go (ds := ds) rfl rfl (by omega) (by simpa using hk))
  have lp := al_loop (g := K17.g__law_alike j) (x := .own (.dat D)) (s := .dat D) (D := D) hl (.inr ⟨_, rfl⟩) (hlen 1 (.inr rfl)) (fun i d hd => ⟨ix 0 i d (.inl rfl) hd, ix 1 i d (.inr rfl) hd, hs i d hd⟩)
  have c6 : dIf (ePureT (dTest (dOp fNeS (dLen (dVar 0)) (dLen (dVar 1))))) (dRet (ePure (dC (.bool false)))) dNext E0 = some (.nx E0) :=
    dIf_f (E1 := E0) (pureT_go (test_go (opI_go (hlen 0 (.inl rfl)) (hlen 1 (.inr rfl)) (neS_same _)))) rfl
  exact fnG_rt (E := EA (.own (.dat D)) (.dat D) D (al2 ds.length)) (dSeq_go (E1 := E0) rfl (dSeq_go (E1 := E0) rfl (dSeq_go (E1 := E0) rfl (dSeq_go (E1 := E0) rfl (dSeq_go (E1 := E0) rfl (dSeq_go c6 (dSeq_go lp rfl))))))) rfl
theorem al_list {j : Nat} {α : Type} {f : α → PyData} {xs : List α} (hl : xs.length < 900) (hs : ∀ a ∈ xs, K17.g__law_alike j [.dat (f a), .dat (f a)] = some (.dat (.bool true), [.dat (f a), .dat (f a)])) :
    K17.g__law_alike (j + 1) [dL f xs, .dat (.list (xs.map f))] = some (.dat (.bool true), [dL f xs, .dat (.list (xs.map f))]) := by
  let D : PyData := .list (xs.map f)
  let E0 : En := EA (.bor [3]) (dL f xs) D .no
  have h0 : dLen (dVar 0) E0 = some (.val (.dat (.int (xs.length : Nat)))) := len_go (f := f) (r := .pl [3]) rfl (show S.get _ [] = _ from S.get_nil _)
  have h1 : dLen (dVar 1) E0 = some (.val (.dat (.int (xs.length : Nat)))) := len_dat (f := f) rfl
  have lp := al_loop (g := K17.g__law_alike j) (x := .bor [3]) (s := dL f xs) (D := D) (ds := xs.map f) (by rw [List.length_map]; exact hl) (.inl rfl) (by rw [List.length_map]; exact h1) (fun i d hd => by
    obtain ⟨a, ha, rfl⟩ : ∃ a, xs[i]? = some a ∧ f a = d := by
      rw [List.getElem?_map] at hd
      exact Option.map_eq_some_iff.mp hd
    exact ⟨ixA_L (ixL_go (f := f) (r := .pl [3]) rfl (show S.get _ [] = _ from S.get_nil _) rfl ha), ixA_L (ixD (f := f) rfl rfl ha), hs a (List.mem_of_getElem? ha)⟩)
  have c6 : dIf (ePureT (dTest (dOp fNeS (dLen (dVar 0)) (dLen (dVar 1))))) (dRet (ePure (dC (.bool false)))) dNext E0 = some (.nx E0) :=
    dIf_f (E1 := E0) (pureT_go (test_go (opI_go h0 h1 (neS_same _)))) rfl
  exact fnG_rt (E := EA (.bor [3]) (dL f xs) D (al2 (xs.map f).length)) (dSeq_go (E1 := E0) rfl (dSeq_go (E1 := E0) rfl (dSeq_go (E1 := E0) rfl (dSeq_go (E1 := E0) rfl (dSeq_go (E1 := E0) rfl (dSeq_go c6 (dSeq_go lp rfl))))))) rfl
theorem al_int {j : Nat} (i : Int) : K17.g__law_alike (j + 1) [.dat (.int i), .dat (.int i)] = some (.dat (.bool true), [.dat (.int i), .dat (.int i)]) := by
  let E0 : En := EA (.own (.dat (.int i))) (.dat (.int i)) (.int i) .no
  have eq : fEqD (.int i) (.int i) = some (.bool true) := by
    show some (PyData.bool (i == i)) = _
    rw [beq_self_eq_true]
  have c3 : dIf (ePureT (dTest (dIsi .int (dVar 1)))) (dRet (ePure (dAndV (dIsi .int (dVar 0)) (dAndV (dNotV (dIsi .bool (dVar 0))) (dOp fEqD (dVar 0) (dVar 1)))))) dNext E0 = some (.rt (.dat (.bool true)) E0) := by
    refine dIf_t (E1 := E0) rfl (dRet_go (pure_go (andV_t rfl (andV_t rfl ?_))))
    exact opI_go rfl rfl eq
  exact fnG_rt (E := E0) (dSeq_go (E1 := E0) rfl (dSeq_go (E1 := E0) rfl (dSeq_rt c3))) rfl
theorem al_deed {j : Nat} (d : De) : K17.g__law_alike (j + 2) [.dat d.d, .dat d.d] = some (.dat (.bool true), [.dat d.d, .dat d.d]) := by
  refine al_tup (ds := ds7 d) (show 7 < 900 by decide) fun i x hx => ?_
  have : ∃ n : Int, x = .int n := by
    have := List.mem_of_getElem? hx
    unfold ds7 at this
    simp only [List.mem_cons, List.not_mem_nil, or_false] at this
    rcases this with h | h | h | h | h | h | h <;> exact ⟨_, h⟩
  obtain ⟨n, rfl⟩ := this
  exact al_int n
theorem al_pD {j : Nat} (p : Nat × De) : K17.g__law_alike (j + 3) [.dat (pD p), .dat (pD p)] = some (.dat (.bool true), [.dat (pD p), .dat (pD p)]) := by
  refine al_tup (ds := [.int (p.1 : Int), p.2.d]) (show 2 < 900 by decide) fun i x hx => ?_
  match i, hx with
  | 0, hx => cases hx; exact al_int _
  | 1, hx => cases hx; exact al_deed _
  | _ + 2, hx => cases hx
theorem v_alike {Q : List (Nat × De)} (hl : Q.length < 900) : K17.g__law_alike 9 [dL pD Q, .dat (AD Q)] = some (.dat (.bool true), [dL pD Q, .dat (AD Q)]) := al_list hl fun p _ => al_pD p
theorem v_both {rows : List (List De)} (hr : rows.length < 900) (hf : rows.flatten.length ≤ 17) :
    (∃ Q, Q.length < 900 ∧ K17.G17 (RD rows) = some (dL pD Q) ∧ K17.g_in_one [RR rows] = some (dL pD Q, [RR rows])) ∨ (K17.G17 (RD rows) = some (.dat .none) ∧ K17.g_in_one [RR rows] = some (.dat .none, [RR rows])) := by
  have key : ∀ a : Addr, ∃ s z', K17.g__law_first 40 a (RD rows) (.list []) [] = some (s, z') ∧ Told rows [] t0 (rows.map fun _ => 0) s := fun a => by
    obtain ⟨s, z', h1, _, h3⟩ := v_first (a := a) hr hf 40 (.nil (rows := rows)) (by rw [lft_zero]; omega) .nil
    exact ⟨s, z', h1, h3⟩
  have uniq : ∀ {s s' : S}, Told rows [] t0 (rows.map fun _ => 0) s → Told rows [] t0 (rows.map fun _ => 0) s' → s = s' := fun {s s'} h h' => by
    rcases h with ⟨F, h1, rfl⟩ | ⟨rfl, h1⟩ <;> rcases h' with ⟨F', h2, rfl⟩ | ⟨rfl, h2⟩
    · rw [h1.uniq h2]
    · exact absurd h1.1 (h2 F)
    · exact absurd h2.1 (h1 F')
    · rfl
  obtain ⟨s, z0, hs, told⟩ := key 0
  have all : ∃ s, ∀ a, ∃ z', K17.g__law_first 40 a (RD rows) (.list []) [] = some (s, z') := ⟨s, fun a => by
    obtain ⟨s', z', h1, h2⟩ := key a
    rw [uniq told h2]
    exact ⟨z', h1⟩⟩
  have hG : K17.G17 (RD rows) = some s := by
    unfold K17.G17
    rw [dif_pos all]
    obtain ⟨z', h1⟩ := all.choose_spec 0
    rw [hs] at h1
    cases h1
    rfl
  have io := v_in_one (rows := rows) (by omega) (by omega)
  cases q : ioF rows (sortU (makes rows)) t0 (rows.map fun _ => 0) [] with
  | none =>
    rw [q] at io
    have no := in_one_first.2 q
    refine .inr ⟨?_, io⟩
    rcases told with ⟨F, h1, rfl⟩ | ⟨rfl, h1⟩
    · exact absurd h1.1 (no F)
    · exact hG
  | some Q =>
    rw [q] at io
    have fi := in_one_first.1 Q q
    rcases told with ⟨F, h1, rfl⟩ | ⟨rfl, h1⟩
    · have := fi.uniq h1
      subst this
      refine .inl ⟨Q, ?_, hG, io⟩
      have := (fi.1.perm (by simp)).length_eq
      rw [List.length_map, rem_zero] at this
      omega
    · exact absurd fi.1 (h1 Q)
end DQ17
namespace DQ17
open PySem PySem.Spec PyProof.Rows L2 Mv NX
open Gn hiding g__law_take g__law_begun d__law_take d__law_begun
section
variable {ns : List Int} {st : Int} {ds : List De} {way : Int}
theorem take_go {many : Int} (h0 : 0 < many) (h1 : many < 1073741824) (hl : ns.length < 1000) : ∃ r ns' st', 0 ≤ r ∧ r < many ∧ ns'.length < 1000 ∧ K17.g__law_take [bx ns st, .dat (.int many)] = some (.dat (.int r), [bx ns' st', .dat (.int many)]) := by
  obtain ⟨r, ns', st', a, b, c, d⟩ := Gn.v_take (st := st) h0 h1 hl
  exact ⟨r, ns', st', a, b, by omega, d⟩
theorem de_lay (e : De) : e.d.canLay0 = true := rfl
theorem de_depth (e : De) : e.d.depth ≤ 1 := by
  show (PyData.tuple _).depth ≤ 1
  simp [PyData.depth, PyData.depthAll]
def De.l (e : De) : List Int := [e.slot, e.count, e.asker, e.num, e.more, e.worth, e.make]
theorem tst_eq {E : En} {da db : En → Option Rs} {x y : Int} (h1 : da E = some (.val (.dat (.int x)))) (h2 : db E = some (.val (.dat (.int y)))) : ePureT (dTest (dOp fEqS da db)) E = some (decide (x = y), E) := pureT_go (test_go (opI_go h1 h2 rfl))
def eT (ds : List De) (way : Int) (B : S) (s3 s4 : Sl) : En := [.bor [5], .own (L ds), I way, s3, s4, .own B, .own (L ds), I way]
theorem v_bent (hl : ns.length < 1000) (hd : ds.length < 200) : ∃ ds' ns' st' s, ns'.length < 1000 ∧ ds'.length ≤ ds.length ∧ (s = L ds' ∨ s = R ds') ∧ K17.g__law_bent [bx ns st, L ds, .dat (.int way)] = some (s, [bx ns' st', L ds, .dat (.int way)]) := by
  let E0 : En := eT ds way (bx ns st) .no .no
  have q0 : dTest (dOp fEqD (dVar 1) (dLst dNil)) E0 = some (decide (ds.length = 0)) := test_go (dOp_go (a := .val (L ds)) (b := .val (.lst [])) (x := .list (ds.map De.d)) (y := .list []) rfl rfl rfl rfl (eqD_nil de_lay de_depth (by omega) ds))
  have q1 : dTest (dOp fGt (dVar 2) (dC (.int 2))) E0 = some (decide (2 < way)) := rfl
  have t0 : ePureT (dOr (dTest (dOp fEqD (dVar 1) (dLst dNil))) (dTest (dOp fGt (dVar 2) (dC (.int 2))))) E0 = some (decide (ds.length = 0) || decide (2 < way), E0) := by
    refine pureT_go ?_
    unfold dOr
    rw [q0]
    cases decide (ds.length = 0)
    · rw [q1]; rfl
    · rfl
  by_cases hz : (decide (ds.length = 0) || decide (2 < way)) = true
  · rw [hz] at t0
    exact ⟨ds, ns, st, L ds, hl, Nat.le_refl _, .inl rfl, fnG_rt (E := (eT ds way (bx ns st) .no .no).set 1 .no) (dSeq_rt (dIf_t t0 rfl)) rfl⟩
  rw [Bool.not_eq_true] at hz
  rw [hz] at t0
  have hne : ds.length ≠ 0 := fun z => by rw [decide_eq_true z] at hz; cases hz
  have hlen : ∀ B s3 s4, dLen (dVar 1) (eT ds way B s3 s4) = some (.val (.dat (.int (ds.length : Nat)))) := fun _ _ _ => len_dat (f := De.d) (xs := ds) rfl
  obtain ⟨r1, n1, b1, p1, q1', l1, e1⟩ := take_go (st := st) (many := (ds.length : Nat)) (by omega) (by omega) hl
  have hr1 : ((r1.toNat : Nat) : Int) = r1 := Int.toNat_of_nonneg p1
  generalize hk : r1.toNat = k at hr1
  subst hr1
  have hkl : k < ds.length := by omega
  have c1 : eCall K17.g__law_take (dCons (dVar 0) (dCons (dLen (dVar 1)) dNil)) E0 = some (.dat (.int (k : Nat)), eT ds way (bx n1 b1) .no .no) :=
    eCall_go (rs := [.pl [5], .val (.dat (.int (ds.length : Nat)))]) (cons_go rfl (cons_go (hlen _ _ _) rfl)) rfl rfl e1
  let E2 : En := eT ds way (bx n1 b1) (I (k : Nat)) .no
  have s1 : dSet 3 (eCall K17.g__law_take (dCons (dVar 0) (dCons (dLen (dVar 1)) dNil))) E0 = some (.nx E2) := (dSet_go c1).trans rfl
  have tw : ∀ (v : Int), ePureT (dTest (dOp fEqS (dVar 2) (dC (.int v)))) E2 = some (decide (way = v), E2) := fun v => tst_eq rfl rfl
  have pre : ∀ (E : En), dVar 1 E = some (.val (L ds)) → dVar 3 E = some (.val (.dat (.int (k : Nat)))) → dSl fSlL (dVar 1) dNoPart (dPart (dVar 3)) E = some (.val (R (ds.take k))) := fun E h1 h2 => slD_pre (f := De.d) h1 h2 (by omega)
  have plus : ∀ (E : En) (m : Nat), dVar 3 E = some (.val (.dat (.int (k : Nat)))) → dOp fAdd (dVar 3) (dC (.int (m : Int))) E = some (.val (.dat (.int ((k + m : Nat) : Int)))) := fun E m h2 =>
    dOp_go h2 rfl rfl rfl (by show some (PyData.int ((k : Int) + (m : Int))) = _; rw [Int.natCast_add])
  have suf : ∀ (E : En) (m : Nat), dVar 1 E = some (.val (L ds)) → dVar 3 E = some (.val (.dat (.int (k : Nat)))) → dSl fSlL (dVar 1) (dPart (dOp fAdd (dVar 3) (dC (.int (m : Int))))) dNoPart E = some (.val (R (ds.drop (k + m)))) := fun E m h1 h2 => slD_suf (f := De.d) h1 (plus E m h2)
  have cat : ∀ (E : En) (da db : En → Option Rs) (xs ys : List De), da E = some (.val (R xs)) → db E = some (.val (R ys)) → xs.length + ys.length < 1000 → dOpS fCatL da db E = some (.val (R (xs ++ ys))) := fun E da db xs ys h1 h2 h3 => catL_go (f := De.d) h1 rfl h2 rfl (by omega)
  have ret : ∀ (E : En) (da : En → Option Rs) (xs : List De), da E = some (.val (R xs)) → dRet (ePure da) E = some (.rt (R xs) E) := fun E da xs h => dRet_go (pure_go h)
  have lt : ∀ m, (ds.take m).length ≤ m := fun m => by rw [List.length_take]; omega
  have ld : ∀ m, (ds.drop m).length = ds.length - m := fun m => List.length_drop
  by_cases w0 : way = 0
  · have t1 := tw 0
    rw [decide_eq_true w0] at t1
    have mid : dRev (dSl fSlL (dVar 1) (dPart (dVar 3)) (dPart (dOp fAdd (dVar 3) (dC (.int 2))))) E2 = some (.val (R ((ds.drop k).take 2).reverse)) := rev_go (f := De.d) (slD_mid (f := De.d) (l := 2) rfl rfl (plus E2 2 rfl) (by omega)) rfl
    have lm : ((ds.drop k).take 2).reverse.length ≤ 2 := by rw [List.length_reverse, List.length_take]; omega
    have lm2 : ((ds.drop k).take 2).reverse.length ≤ ds.length - k := by rw [List.length_reverse, List.length_take, ld]; omega
    have x := ret E2 _ _ (cat E2 _ _ _ _ (cat E2 _ _ _ _ (pre E2 rfl rfl) mid (by have := lt k; omega)) (suf E2 2 rfl rfl) (by rw [List.length_append, ld]; have := lt k; omega))
    exact ⟨_, n1, b1, _, l1, by rw [List.length_append, List.length_append, ld]; have := lt k; omega, .inr rfl, fnG_rt (E := E2) (dSeq_go (dIf_f t0 rfl) (dSeq_go s1 (dSeq_rt (dIf_t t1 x)))) rfl⟩
  have t1 := tw 0
  rw [decide_eq_false w0] at t1
  by_cases w1 : way = 1
  · have t2 := tw 1
    rw [decide_eq_true w1] at t2
    have hv : ds[k]? = some ds[k] := List.getElem?_eq_getElem hkl
    generalize hek : ds[k] = e at hv
    have it : ∀ s4, dIxL (dVar 1) (dVar 3) (eT ds way (bx n1 b1) (I (k : Nat)) s4) = some (.val (.dat e.d)) := fun s4 => ixD (f := De.d) (l := ds) rfl rfl hv
    let v : Int := (e.worth + 1) % 1000
    let E3 : En := eT ds way (bx n1 b1) (I (k : Nat)) (I v)
    have m : dOp fMod (dOp fAdd (dIxT (dIxL (dVar 1) (dVar 3)) (dC (.int 5))) (dC (.int 1))) (dC (.int 1000)) E2 = some (.val (.dat (.int v))) :=
      dOp_go (dOp_go (x := .int e.worth) (ix_go (ds := ds7 e) (it _) rfl (by decide) rfl) rfl rfl rfl rfl) rfl rfl rfl (modP (by omega))
    have s4 : dAlias 4 (dOp fMod (dOp fAdd (dIxT (dIxL (dVar 1) (dVar 3)) (dC (.int 5))) (dC (.int 1))) (dC (.int 1000))) E2 = some (.nx E3) := by
      unfold dAlias
      rw [m]; rfl
    have slp : dSl fSlT (dIxL (dVar 1) (dVar 3)) dNoPart (dPart (dC (.int 5))) E3 = some (.val (tI (e.l.take 5))) := by
      unfold dSl
      rw [it]
      rfl
    have sls : dSl fSlT (dIxL (dVar 1) (dVar 3)) (dPart (dC (.int 6))) dNoPart E3 = some (.val (tI (e.l.drop 6))) := slT_from (ns := e.l) (k := 6) (it _) rfl (by show 6 ≤ 7; omega)
    have cT : ∀ (E : En) (da db : En → Option Rs) (xs ys : List Int), da E = some (.val (tI xs)) → db E = some (.val (tI ys)) → xs.length + ys.length < 1000 → dOpS fCatT da db E = some (.val (tI (xs ++ ys))) := fun E da db xs ys h1 h2 h3 => by
      refine dOpS_go h1 h2 rfl rfl ?_
      show (if (xs.map PyData.int).length + (ys.map PyData.int).length < 100000 then some (S.dat (.tuple (xs.map PyData.int ++ ys.map PyData.int))) else none) = _
      rw [if_pos (by simp; omega), ← List.map_append]; rfl
    have z1 : dOpS fCatT (dOpS fCatT (dSl fSlT (dIxL (dVar 1) (dVar 3)) dNoPart (dPart (dC (.int 5)))) (dTupL (dCons (dVar 4) dNil))) (dSl fSlT (dIxL (dVar 1) (dVar 3)) (dPart (dC (.int 6))) dNoPart) E3 = some (.val (.dat ({ e with worth := v } : De).d)) := by
      have := cT E3 _ _ (e.l.take 5 ++ [v]) (e.l.drop 6) (cT E3 _ (dTupL (dCons (dVar 4) dNil)) (e.l.take 5) [v] slp rfl (by show 5 + 1 < _; omega)) sls (by show 6 + 1 < _; omega)
      exact this
    have z2 : dLst (dCons (dOpS fCatT (dOpS fCatT (dSl fSlT (dIxL (dVar 1) (dVar 3)) dNoPart (dPart (dC (.int 5)))) (dTupL (dCons (dVar 4) dNil))) (dSl fSlT (dIxL (dVar 1) (dVar 3)) (dPart (dC (.int 6))) dNoPart)) dNil) E3 = some (.val (R [{ e with worth := v }])) := by
      unfold dLst
      rw [cons_go z1 rfl]; rfl
    have x := ret E3 _ _ (cat E3 _ _ _ _ (cat E3 _ _ _ _ (pre E3 rfl rfl) z2 (by have := lt k; simp; omega)) (suf E3 1 rfl rfl) (by rw [List.length_append, ld]; have := lt k; simp; omega))
    exact ⟨_, n1, b1, _, l1, by rw [List.length_append, List.length_append, ld]; have := lt k; simp; omega, .inr rfl, fnG_rt (E := E3) (dSeq_go (dIf_f t0 rfl) (dSeq_go s1 (dSeq_go (dIf_f t1 rfl) (dSeq_rt (dIf_t t2 (dSeq_go s4 x)))))) rfl⟩
  have t2 := tw 1
  rw [decide_eq_false w1] at t2
  have x := ret E2 _ _ (cat E2 _ _ _ _ (pre E2 rfl rfl) (suf E2 1 rfl rfl) (by have := lt k; rw [ld]; omega))
  exact ⟨_, n1, b1, _, l1, by rw [List.length_append, ld]; have := lt k; omega, .inr rfl, fnG_rt (E := E2) (dSeq_go (dIf_f t0 rfl) (dSeq_go s1 (dSeq_go (dIf_f t1 rfl) (dSeq_go (dIf_f t2 rfl) x)))) rfl⟩
end
open Gn hiding g__law_take g__law_begun d__law_take d__law_begun
section
variable {b : Bool} {ns : List Int} {sb many mk t a7 a8 a9 a10 a11 : Int} {rs : List S} {sl : List (Int × (Int × Int))} {nu : List (Int × Int)} {D : PyData} {B : S}
def s1b (b : Bool) (D : PyData) : Sl := match b with | true => .own (.dat D) | false => .no
def eQp (B : S) (many : Int) (rs : List S) (sl : List (Int × (Int × Int))) (nu : List (Int × Int)) (mk : Int) (v6 v7 v8 v9 v10 v11 v12 v13 : Sl) (G : En) : En :=
  [.bor [14], I many, .own (.lst rs), .own (.dct false (kN t2 sl)), .own (.dct false (kN iD nu)), I mk, v6, v7, v8, v9, v10, v11, v12, v13, .own B, I many] ++ G
abbrev tk (da : En → Option Rs) : En → Option (S × En) := eCall K17.g__law_take (dCons (dVar 0) (dCons da dNil))
abbrev pS1 : En → Option Out := dParL 7 8 (lConsE (tk (dC (.int 3))) (lConsE (tk (dC (.int 3))) lNil))
abbrev pS2 : En → Option Out := dSet 9 (eOp fSub (tk (dC (.int 199))) (ePure (dC (.int 99))))
abbrev pS3 : En → Option Out := dSet 5 (eOp fAdd (ePure (dVar 5)) (eOp fDiv (tk (dC (.int 8))) (ePure (dC (.int 7)))))
abbrev pS4 : En → Option Out := dAsg (bTup 2 (bCons (bName 10) (bCons (bName 11) bNil))) (ePure (dDGet2 (dVar 3) (dVar 7) (dTupL (dCons (dC (.int 0)) (dCons (dC (.int 0)) dNil)))))
abbrev pS5 : En → Option Out := dDPut (dVar 3) (dVar 7) (ePure (dTupL (dCons (dOp fAdd (dVar 10) (dC (.int 1))) (dCons (dOp fMod (dOp fAdd (dVar 11) (dVar 9)) (dC (.int 1000))) dNil))))
abbrev pS6 : En → Option Out := dDPut (dVar 4) (dVar 8) (ePure (dOp fAdd (dDGet2 (dVar 4) (dVar 8) (dC (.int 0))) (dC (.int 1))))
abbrev pS7 : En → Option Out := dAlias 12 (dTupL (dCons (dVar 7) (dCons (dOp fAdd (dVar 10) (dC (.int 1))) (dCons (dVar 8) (dCons (dDGet (dVar 4) (dVar 8)) dNil)))))
abbrev pX : En → Option Rs := dOpS fCatT (dVar 12) (dTupL (dCons (dVar 9) (dCons (dIxT (dDGet (dVar 3) (dVar 7)) (dC (.int 1))) (dCons (dVar 5) dNil))))
abbrev pS8 : En → Option Out := dDrop (eAt 2 (tk (dVar 1)) fun k => eBM1 oAppend (dIxL (dVar 2) (dC (.int k))) pX)
abbrev pBody : En → Option Out := dSeq pS1 (dSeq pS2 (dSeq pS3 (dSeq pS4 (dSeq pS5 (dSeq pS6 (dSeq pS7 pS8))))))
theorem v_pS1 (hl : ns.length < 1000) : ∃ r7 r8 ns' st', ns'.length < 1000 ∧
    pS1 (eQp (bx ns sb) many rs sl nu mk (I t) (s1b b (.int a7)) (s1b b (.int a8)) (s1b b (.int a9)) (s1b b (.int a10)) (s1b b (.int a11)) (s1b b D) .no []) =
      some (.nx (eQp (bx ns' st') many rs sl nu mk (I t) (I r7) (I r8) (s1b b (.int a9)) (s1b b (.int a10)) (s1b b (.int a11)) (s1b b D) .no [])) := by
  obtain ⟨r1, n1, s1, _, _, l1, e1⟩ := take_go (st := sb) (many := 3) (by omega) (by omega) hl
  obtain ⟨r2, n2, s2, _, _, l2, e2⟩ := take_go (st := s1) (many := 3) (by omega) (by omega) l1
  refine ⟨r1, r2, n2, s2, l2, ?_⟩
  let E (B : S) : En := eQp B many rs sl nu mk (I t) (s1b b (.int a7)) (s1b b (.int a8)) (s1b b (.int a9)) (s1b b (.int a10)) (s1b b (.int a11)) (s1b b D) .no []
  have c1 : tk (dC (.int 3)) (E (bx ns sb)) = some (.dat (.int r1), E (bx n1 s1)) := by
    cases b <;> exact eCall_go (rs := [.pl [14], .val (.dat (.int 3))]) rfl rfl rfl e1
  have c2 : tk (dC (.int 3)) (E (bx n1 s1) ++ [.own (.dat (.int r1))]) = some (.dat (.int r2), E (bx n2 s2) ++ [.own (.dat (.int r1))]) := by
    cases b <;> exact eCall_go (rs := [.pl [14], .val (.dat (.int 3))]) rfl rfl rfl e2
  have hl : lConsE (tk (dC (.int 3))) (lConsE (tk (dC (.int 3))) lNil) (E (bx ns sb)) = some (2, E (bx n2 s2) ++ [.dat (.int r1), .dat (.int r2)].map Sl.own) :=
    lE_go c1 (lE_go c2 (by rw [List.append_assoc]; rfl))
  have hp : popS 2 (E (bx n2 s2) ++ [.dat (.int r1), .dat (.int r2)].map Sl.own) = some ([.dat (.int r1), .dat (.int r2)], E (bx n2 s2)) :=
    pop_go rfl (by cases b <;> rfl)
  refine par2_go hl hp (E3 := eQp (bx n2 s2) many rs sl nu mk (I t) (I r1) (s1b b (.int a8)) (s1b b (.int a9)) (s1b b (.int a10)) (s1b b (.int a11)) (s1b b D) .no []) ?_ ?_ <;> (cases b <;> rfl)
theorem v_pS2 (hl : ns.length < 1000) : ∃ r9 ns' st', ns'.length < 1000 ∧
    pS2 (eQp (bx ns sb) many rs sl nu mk (I t) (I a7) (I a8) (s1b b (.int a9)) (s1b b (.int a10)) (s1b b (.int a11)) (s1b b D) .no []) =
      some (.nx (eQp (bx ns' st') many rs sl nu mk (I t) (I a7) (I a8) (I r9) (s1b b (.int a10)) (s1b b (.int a11)) (s1b b D) .no [])) := by
  obtain ⟨r, n1, s1, r0, _, l1, e1⟩ := take_go (st := sb) (many := 199) (by omega) (by omega) hl
  refine ⟨r - 99, n1, s1, l1, ?_⟩
  let E (B : S) : En := eQp B many rs sl nu mk (I t) (I a7) (I a8) (s1b b (.int a9)) (s1b b (.int a10)) (s1b b (.int a11)) (s1b b D) .no []
  have c1 : tk (dC (.int 199)) (E (bx ns sb)) = some (.dat (.int r), E (bx n1 s1)) := by
    cases b <;> exact eCall_go (rs := [.pl [14], .val (.dat (.int 199))]) rfl rfl rfl e1
  have c2 : eOp fSub (tk (dC (.int 199))) (ePure (dC (.int 99))) (E (bx ns sb)) = some (.dat (.int (r - 99)), E (bx n1 s1)) := eOp_go (y := .int 99) c1 rfl rfl
  refine (dSet_go c2).trans ?_
  cases b <;> rfl
theorem v_pS3 (hl : ns.length < 1000) : ∃ mk' ns' st', ns'.length < 1000 ∧
    pS3 (eQp (bx ns sb) many rs sl nu mk (I t) (I a7) (I a8) (I a9) (s1b b (.int a10)) (s1b b (.int a11)) (s1b b D) .no []) =
      some (.nx (eQp (bx ns' st') many rs sl nu mk' (I t) (I a7) (I a8) (I a9) (s1b b (.int a10)) (s1b b (.int a11)) (s1b b D) .no [])) := by
  obtain ⟨r, n1, s1, r0, _, l1, e1⟩ := take_go (st := sb) (many := 8) (by omega) (by omega) hl
  refine ⟨mk + r / 7, n1, s1, l1, ?_⟩
  let E (B : S) : En := eQp B many rs sl nu mk (I t) (I a7) (I a8) (I a9) (s1b b (.int a10)) (s1b b (.int a11)) (s1b b D) .no []
  have c1 : tk (dC (.int 8)) (E (bx ns sb)) = some (.dat (.int r), E (bx n1 s1)) := by
    cases b <;> exact eCall_go (rs := [.pl [14], .val (.dat (.int 8))]) rfl rfl rfl e1
  have c2 : eOp fAdd (ePure (dVar 5)) (eOp fDiv (tk (dC (.int 8))) (ePure (dC (.int 7)))) (E (bx ns sb)) = some (.dat (.int (mk + r / 7)), E (bx n1 s1)) :=
    eOp_go (x := .int mk) rfl (eOp_go (y := .int 7) c1 rfl (divP (by omega) (by omega))) rfl
  refine (dSet_go c2).trans ?_
  cases b <;> rfl
def cAt (sl : List (Int × (Int × Int))) (k : Int) : Int × Int := (getK sl k).getD (0, 0)
def nAt (nu : List (Int × Int)) (k : Int) : Int := (getK nu k).getD 0
theorem v_pS4 : pS4 (eQp B many rs sl nu mk (I t) (I a7) (I a8) (I a9) (s1b b (.int a10)) (s1b b (.int a11)) (s1b b D) .no []) =
      some (.nx (eQp B many rs sl nu mk (I t) (I a7) (I a8) (I a9) (I (cAt sl a7).1) (I (cAt sl a7).2) (s1b b D) .no [])) := by
  have a2 : dDGet2 (dVar 3) (dVar 7) (dTupL (dCons (dC (.int 0)) (dCons (dC (.int 0)) dNil))) (eQp B many rs sl nu mk (I t) (I a7) (I a8) (I a9) (s1b b (.int a10)) (s1b b (.int a11)) (s1b b D) .no []) = some (.val (.dat (t2 (cAt sl a7)))) := by
    rw [dget2_go (f := t2) (m := sl) (k := a7) (r := .pl [3]) (d := .tuple [.int 0, .int 0]) rfl rfl rfl rfl]
    unfold cAt
    cases getK sl a7 <;> rfl
  refine dAsg_tup (ePure_go a2) rfl (bGo (E1 := eQp B many rs sl nu mk (I t) (I a7) (I a8) (I a9) (I (cAt sl a7).1) (s1b b (.int a11)) (s1b b D) .no []) ?_ (bGo (E1 := eQp B many rs sl nu mk (I t) (I a7) (I a8) (I a9) (I (cAt sl a7).1) (I (cAt sl a7).2) (s1b b D) .no []) ?_ bEnd)) <;> (cases b <;> rfl)
theorem getK_self {α : Type} {x : α} {k : Int} {m : List (Int × α)} : getK (putN m k x) k = some x := by rw [getK_put, if_pos rfl]
theorem S_get1 {rs : List S} {k : Nat} {u : S} (h : rs[k]? = some u) : (S.lst rs).get [k] = some u := by
  show (match rs[k]? with | some t => S.get t [] | none => none) = _
  rw [h]
  exact S.get_nil u
theorem S_put1 {rs : List S} {k : Nat} {u w : S} (h : rs[k]? = some u) : (S.lst rs).put [k] w = .lst (rs.set k w) := by
  show (match rs[k]? with | some u => (S.lst rs).setKid k (S.put u [] w) | none => S.lst rs) = _
  rw [h]
  rfl
theorem at_row {E : En} {rs : List S} {k : Nat} {ds : List De} {db : En → Option Rs} (h2 : dVar 2 E = some (.pl [2])) (hE : E[2]? = some (.own (.lst rs))) (hb : db E = some (.val (.dat (.int (k : Nat))))) (h : rs[k]? = some (R ds)) : dIxL (dVar 2) db E = some (.pl [2, k]) := by
  unfold dIxL
  rw [h2, hb]
  have e1 : (Rs.pl [2]).at E = some (.lst rs) := at_l hE
  have hk := (List.getElem?_eq_some_iff.mp h).1
  simp only [e1, ixN_in hk, h]
  rfl
def nextDe (sl : List (Int × (Int × Int))) (nu : List (Int × Int)) (slot asker more mk : Int) : De := ⟨slot, (cAt sl slot).1 + 1, asker, nAt nu asker + 1, more, ((cAt sl slot).2 + more) % 1000, mk⟩
structure Few (sl : List (Int × (Int × Int))) (nu : List (Int × Int)) (i : Nat) : Prop where
  n1 : (sl.map (·.1)).Nodup
  n2 : (nu.map (·.1)).Nodup
  l1 : sl.length ≤ i
  l2 : nu.length ≤ i
theorem Few.next {i : Nat} (h : Few sl nu i) (x : Int × Int) (y k j : Int) : Few (putN sl k x) (putN nu j y) (i + 1) :=
  ⟨putN_nodup x k h.n1, putN_nodup y j h.n2, Nat.le_trans (putN_len x k sl) (Nat.succ_le_succ h.l1), Nat.le_trans (putN_len y j nu) (Nat.succ_le_succ h.l2)⟩
theorem row_le : ∀ (rows : List (List De)) (k : Nat) {ds : List De}, rows[k]? = some ds → ds.length ≤ rows.flatten.length
  | [], k, ds, h => by simp at h
  | a :: rows, 0, ds, h => by simp at h; subst h; simp
  | a :: rows, k + 1, ds, h => by
    have := row_le rows k (ds := ds) (by simpa using h)
    simp only [List.flatten_cons, List.length_append]
    omega
theorem v_rest8 {rows : List (List De)} {i : Nat} (h : Few sl nu i) (hi : i < 200) (hm : many = (rows.length : Nat)) (h0 : 0 < many) (hmm : many < 1000) (hlen : rows.flatten.length < 900) (hl : ns.length < 1000) : ∃ e k ds ns' st' D', ns'.length < 1000 ∧ rows[k]? = some ds ∧
    dSeq pS5 (dSeq pS6 (dSeq pS7 pS8)) (eQp (bx ns sb) many (rows.map R) sl nu mk (I t) (I a7) (I a8) (I a9) (I (cAt sl a7).1) (I (cAt sl a7).2) (s1b b D) .no []) =
      some (.nx (eQp (bx ns' st') many ((rows.set k (ds ++ [e])).map R) (putN sl a7 ((cAt sl a7).1 + 1, ((cAt sl a7).2 + a9) % 1000)) (putN nu a8 (nAt nu a8 + 1)) mk (I t) (I a7) (I a8) (I a9) (I (cAt sl a7).1) (I (cAt sl a7).2) (s1b true D') .no [])) := by
  have h1 := h.l1
  have h2 := h.l2
  obtain ⟨r, n1, b1, r0, r1, l1, e1⟩ := take_go (st := sb) (many := many) h0 (by omega) hl
  have hr1 : ((r.toNat : Nat) : Int) = r := Int.toNat_of_nonneg r0
  generalize hk : r.toNat = k at hr1
  subst hr1
  have hkl : k < rows.length := by omega
  obtain ⟨ds, hds⟩ : ∃ ds, rows[k]? = some ds := ⟨_, List.getElem?_eq_getElem hkl⟩
  generalize hc : cAt sl a7 = cw
  let E (B : S) (rs : List S) (sl : List (Int × (Int × Int))) (nu : List (Int × Int)) (v12 : Sl) : En := eQp B many rs sl nu mk (I t) (I a7) (I a8) (I a9) (I cw.1) (I cw.2) v12 .no []
  let nw : Int × Int := (cw.1 + 1, (cw.2 + a9) % 1000)
  let rs := rows.map R
  have b1' : dTupL (dCons (dOp fAdd (dVar 10) (dC (.int 1))) (dCons (dOp fMod (dOp fAdd (dVar 11) (dVar 9)) (dC (.int 1000))) dNil)) (E (bx ns sb) rs sl nu (s1b b D)) = some (.val (.dat (t2 nw))) := by
    have m1 : dOp fMod (dOp fAdd (dVar 11) (dVar 9)) (dC (.int 1000)) (E (bx ns sb) rs sl nu (s1b b D)) = some (.val (.dat (.int ((cw.2 + a9) % 1000)))) := dOp_go (dOp_go rfl rfl rfl rfl rfl) rfl rfl rfl (modP (by omega))
    exact tupL_go (cons_go (show dOp fAdd (dVar 10) (dC (.int 1)) (E (bx ns sb) rs sl nu (s1b b D)) = some (.val (.dat (.int (cw.1 + 1)))) from rfl) (cons_go m1 rfl)) (by simp) rfl
  have s5 : pS5 (E (bx ns sb) rs sl nu (s1b b D)) = some (.nx (E (bx ns sb) rs (putN sl a7 nw) nu (s1b b D))) := by
    have := dput_go (da := dVar 3) (db := dVar 7) (f := t2) (x := nw) (m := sl) (k := a7) (p := [3]) (E1 := E (bx ns sb) rs sl nu (s1b b D)) (ePure_go b1') rfl rfl rfl h.n1 (by omega)
    refine this.trans ?_
    cases b <;> rfl
  have b2 : dDGet2 (dVar 4) (dVar 8) (dC (.int 0)) (E (bx ns sb) rs (putN sl a7 nw) nu (s1b b D)) = some (.val (.dat (.int (nAt nu a8)))) := by
    rw [dget2_go (f := iD) (m := nu) (k := a8) (r := .pl [4]) (d := .int 0) rfl rfl rfl rfl]
    unfold nAt
    cases getK nu a8 <;> rfl
  have b3 : dOp fAdd (dDGet2 (dVar 4) (dVar 8) (dC (.int 0))) (dC (.int 1)) (E (bx ns sb) rs (putN sl a7 nw) nu (s1b b D)) = some (.val (.dat (iD (nAt nu a8 + 1)))) := dOp_go (x := .int (nAt nu a8)) (y := .int 1) b2 rfl rfl rfl rfl
  have s6 : pS6 (E (bx ns sb) rs (putN sl a7 nw) nu (s1b b D)) = some (.nx (E (bx ns sb) rs (putN sl a7 nw) (putN nu a8 (nAt nu a8 + 1)) (s1b b D))) := by
    have := dput_go (da := dVar 4) (db := dVar 8) (f := iD) (x := nAt nu a8 + 1) (m := nu) (k := a8) (p := [4]) (E1 := E (bx ns sb) rs (putN sl a7 nw) nu (s1b b D)) (ePure_go b3) rfl rfl rfl h.n2 (by omega)
    refine this.trans ?_
    cases b <;> rfl
  let E2 (B : S) (rs : List S) (v12 : Sl) : En := E B rs (putN sl a7 nw) (putN nu a8 (nAt nu a8 + 1)) v12
  have g3 : ∀ B rs v12, dDGet (dVar 4) (dVar 8) (E2 B rs v12) = some (.val (.dat (iD (nAt nu a8 + 1)))) := fun _ _ _ => dget_go (f := iD) (m := putN nu a8 (nAt nu a8 + 1)) (k := a8) (r := .pl [4]) rfl rfl rfl getK_self
  have g2 : ∀ B rs v12, dDGet (dVar 3) (dVar 7) (E2 B rs v12) = some (.val (.dat (t2 nw))) := fun _ _ _ => dget_go (f := t2) (m := putN sl a7 nw) (k := a7) (r := .pl [3]) rfl rfl rfl getK_self
  let D' : PyData := .tuple ([a7, cw.1 + 1, a8, nAt nu a8 + 1].map .int)
  have x1 : dTupL (dCons (dVar 7) (dCons (dOp fAdd (dVar 10) (dC (.int 1))) (dCons (dVar 8) (dCons (dDGet (dVar 4) (dVar 8)) dNil)))) (E2 (bx ns sb) rs (s1b b D)) = some (.val (.dat D')) := by
    have q0 : dCons (dVar 7) (dCons (dOp fAdd (dVar 10) (dC (.int 1))) (dCons (dVar 8) (dCons (dDGet (dVar 4) (dVar 8)) dNil))) (E2 (bx ns sb) rs (s1b b D)) = some [.val (.dat (.int a7)), .val (.dat (.int (cw.1 + 1))), .val (.dat (.int a8)), .val (.dat (.int (nAt nu a8 + 1)))] :=
      cons_go rfl (cons_go rfl (cons_go rfl (cons_go (g3 _ _ _) rfl)))
    exact tupL_go q0 (by simp) rfl
  have s7 : pS7 (E2 (bx ns sb) rs (s1b b D)) = some (.nx (E2 (bx ns sb) rs (s1b true D'))) := by
    unfold pS7 dAlias
    rw [x1]
    cases b <;> rfl
  let e : De := nextDe sl nu a7 a8 a9 mk
  have x4 : ∀ B rs, pX (E2 B rs (s1b true D')) = some (.val (.dat e.d)) := fun B rs => by
    have y1 : dIxT (dDGet (dVar 3) (dVar 7)) (dC (.int 1)) (E2 B rs (s1b true D')) = some (.val (.dat (.int nw.2))) := ix_go (ds := [.int nw.1, .int nw.2]) (g2 _ _ _) rfl (by decide) rfl
    have y2 : dTupL (dCons (dVar 9) (dCons (dIxT (dDGet (dVar 3) (dVar 7)) (dC (.int 1))) (dCons (dVar 5) dNil))) (E2 B rs (s1b true D')) = some (.val (.dat (.tuple ([a9, nw.2, mk].map .int)))) :=
      tupL_go (cons_go rfl (cons_go y1 (cons_go rfl rfl))) (by simp) rfl
    refine dOpS_go (s := .dat D') (t := .dat (.tuple ([a9, nw.2, mk].map .int))) rfl y2 rfl rfl ?_
    show _ = some (S.dat (nextDe sl nu a7 a8 a9 mk).d)
    unfold nextDe
    rw [hc]
    rfl
  have c1 : tk (dVar 1) (E2 (bx ns sb) rs (s1b true D')) = some (.dat (.int (k : Nat)), E2 (bx n1 b1) rs (s1b true D')) := eCall_go (rs := [.pl [14], .val (.dat (.int many))]) rfl rfl rfl e1
  have hrk : rs[k]? = some (R ds) := by show (rows.map R)[k]? = _; rw [List.getElem?_map, hds]; rfl
  have hdl : ds.length ≤ rows.flatten.length := row_le rows k hds
  have c2 : eBM1 oAppend (dIxL (dVar 2) (dC (.int (k : Nat)))) pX (E2 (bx n1 b1) rs (s1b true D')) = some (.dat .none, E2 (bx n1 b1) (rs.set k (R (ds ++ [e]))) (s1b true D')) := by
    have gp : eget (E2 (bx n1 b1) rs (s1b true D')) [2, k] = some (dL De.d ds) := S_get1 hrk
    refine (append_go (f := De.d) (xs := ds) (x := e) (p := [2, k]) (at_row rfl rfl rfl hrk) gp (x4 _ _) (by omega)).trans ?_
    have pp : eput (E2 (bx n1 b1) rs (s1b true D')) [2, k] (dL De.d (ds ++ [e])) = E2 (bx n1 b1) (rs.set k (R (ds ++ [e]))) (s1b true D') := by
      show (E2 (bx n1 b1) rs (s1b true D')).set 2 (.own ((S.lst rs).put [k] (dL De.d (ds ++ [e])))) = _
      rw [S_put1 hrk]
      rfl
    rw [pp]
    rfl
  have s8 : pS8 (E2 (bx ns sb) rs (s1b true D')) = some (.nx (E2 (bx n1 b1) (rs.set k (R (ds ++ [e]))) (s1b true D'))) := by
    refine dDrop_go (s := .dat .none) ?_
    unfold eAt
    rw [c1]
    exact c2
  refine ⟨e, k, ds, n1, b1, D', l1, hds, ?_⟩
  rw [List.map_set]
  exact dSeq_go s5 (dSeq_go s6 (dSeq_go s7 s8))
end
open Gn hiding g__law_take g__law_begun d__law_take d__law_begun
theorem flat_set {e : De} : ∀ (rows : List (List De)) (k : Nat) {ds : List De}, rows[k]? = some ds → (rows.set k (ds ++ [e])).flatten.length = rows.flatten.length + 1
  | [], k, ds, h => by simp at h
  | a :: rows, 0, ds, h => by simp at h; subst h; simp; omega
  | a :: rows, k + 1, ds, h => by
    have := flat_set (e := e) rows k (ds := ds) (by simpa using h)
    simp only [List.set_cons_succ, List.flatten_cons, List.length_append, this]
    omega
theorem flat_put {ws : List De} : ∀ (rows : List (List De)) (k : Nat) {ds : List De}, rows[k]? = some ds → ws.length ≤ ds.length → (rows.set k ws).flatten.length ≤ rows.flatten.length
  | [], k, ds, h, _ => by simp at h
  | a :: rows, 0, ds, h, l => by simp at h; subst h; simp; omega
  | a :: rows, k + 1, ds, h, l => by
    have := flat_put (ws := ws) rows k (ds := ds) (by simpa using h) l
    simp only [List.set_cons_succ, List.flatten_cons, List.length_append]
    omega
section
variable {b : Bool} {ns : List Int} {sb mk t a7 a8 a9 a10 a11 : Int} {sl : List (Int × (Int × Int))} {nu : List (Int × Int)} {D : PyData} {B : S} {many : Int}
theorem v_pBody {rows : List (List De)} {i : Nat} (h : Few sl nu i) (hi : i < 200) (hm : many = (rows.length : Nat)) (h0 : 0 < many) (hmm : many < 1000) (hlen : rows.flatten.length < 900) (hl : ns.length < 1000) :
    ∃ e k ds ns' sb' sl' nu' mk' a7' a8' a9' a10' a11' D', ns'.length < 1000 ∧ rows[k]? = some ds ∧ Few sl' nu' (i + 1) ∧
    pBody (eQp (bx ns sb) many (rows.map R) sl nu mk (I t) (s1b b (.int a7)) (s1b b (.int a8)) (s1b b (.int a9)) (s1b b (.int a10)) (s1b b (.int a11)) (s1b b D) .no []) =
      some (.nx (eQp (bx ns' sb') many ((rows.set k (ds ++ [e])).map R) sl' nu' mk' (I t) (s1b true (.int a7')) (s1b true (.int a8')) (s1b true (.int a9')) (s1b true (.int a10')) (s1b true (.int a11')) (s1b true D') .no [])) := by
  obtain ⟨r7, r8, n1, s1, l1, e1⟩ := v_pS1 (b := b) (sb := sb) (many := many) (mk := mk) (t := t) (a7 := a7) (a8 := a8) (a9 := a9) (a10 := a10) (a11 := a11) (rs := rows.map R) (sl := sl) (nu := nu) (D := D) hl
  obtain ⟨r9, n2, s2, l2, e2⟩ := v_pS2 (b := b) (sb := s1) (many := many) (mk := mk) (t := t) (a7 := r7) (a8 := r8) (a9 := a9) (a10 := a10) (a11 := a11) (rs := rows.map R) (sl := sl) (nu := nu) (D := D) l1
  obtain ⟨mk3, n3, s3, l3, e3⟩ := v_pS3 (b := b) (sb := s2) (many := many) (mk := mk) (t := t) (a7 := r7) (a8 := r8) (a9 := r9) (a10 := a10) (a11 := a11) (rs := rows.map R) (sl := sl) (nu := nu) (D := D) l2
  have e4 := v_pS4 (b := b) (B := bx n3 s3) (many := many) (mk := mk3) (t := t) (a7 := r7) (a8 := r8) (a9 := r9) (a10 := a10) (a11 := a11) (rs := rows.map R) (sl := sl) (nu := nu) (D := D)
  obtain ⟨e, k, ds, n5, s5, D', l5, hk, e5⟩ := v_rest8 (b := b) (sb := s3) (mk := mk3) (t := t) (a7 := r7) (a8 := r8) (a9 := r9) (D := D) h hi hm h0 hmm hlen l3
  exact ⟨e, k, ds, n5, s5, _, _, _, _, _, _, _, _, D', l5, hk, h.next _ _ _ _, dSeq_go e1 (dSeq_go e2 (dSeq_go e3 (dSeq_go e4 e5)))⟩
abbrev pLoop : En → Option Out := dFor (iRangeE (tk (dC (.int 17)))) (bName 6) pBody
def After (many : Int) (E : En) (m : Nat) : Prop := ∃ b ns sb rows sl nu mk t a7 a8 a9 a10 a11 D, ns.length < 1000 ∧ many = ((rows : List (List De)).length : Nat) ∧ rows.flatten.length ≤ m ∧
  E = eQp (bx ns sb) many (rows.map R) sl nu mk (s1b b (.int t)) (s1b b (.int a7)) (s1b b (.int a8)) (s1b b (.int a9)) (s1b b (.int a10)) (s1b b (.int a11)) (s1b b D) .no []
theorem v_pLoop {rows : List (List De)} (hm : many = (rows.length : Nat)) (h0 : 0 < many) (hmm : many < 1000) (hlen : rows.flatten.length = 0) (hl : ns.length < 1000) :
    ∃ E, After many E 16 ∧ pLoop (eQp (bx ns sb) many (rows.map R) [] [] 0 .no .no .no .no .no .no .no .no []) = some (.nx E) := by
  obtain ⟨r, n1, b1, r0, r1, l1, e1⟩ := take_go (st := sb) (many := 17) (by omega) (by omega) hl
  have c1 : tk (dC (.int 17)) (eQp (bx ns sb) many (rows.map R) [] [] 0 .no .no .no .no .no .no .no .no []) = some (.dat (.int r), eQp (bx n1 b1) many (rows.map R) [] [] 0 .no .no .no .no .no .no .no .no []) :=
    eCall_go (rs := [.pl [14], .val (.dat (.int 17))]) rfl rfl rfl e1
  have hsrc := iRangeE_go c1 r0 (by omega)
  have hr : r.toNat ≤ 16 := by omega
  generalize r.toNat = m at hsrc hr
  let J (i : Nat) (E : En) : Prop := ∃ b ns sb rows sl nu mk t a7 a8 a9 a10 a11 D, ns.length < 1000 ∧ many = ((rows : List (List De)).length : Nat) ∧ rows.flatten.length = i ∧ Few sl nu i ∧
    E = eQp (bx ns sb) many (rows.map R) sl nu mk (s1b b (.int t)) (s1b b (.int a7)) (s1b b (.int a8)) (s1b b (.int a9)) (s1b b (.int a10)) (s1b b (.int a11)) (s1b b D) .no []
  have hloop := loop_inv (rd := fun _ i => some (if i < m then some (.val (.dat (.int (i : Nat)))) else none)) (bd := bName 6) (db := pBody) J m
    (fun i E hi hJ => by
      obtain ⟨b, ns, sb, rows, sl, nu, mk, t, a7, a8, a9, a10, a11, D, hn, hm, hf, fw, rfl⟩ := hJ
      obtain ⟨e, k, ds, ns', sb', sl', nu', mk', a7', a8', a9', a10', a11', D', l', hk, fw', x⟩ := v_pBody (b := b) (sb := sb) (mk := mk) (t := (i : Nat)) (a7 := a7) (a8 := a8) (a9 := a9) (a10 := a10) (a11 := a11) (D := D) fw (by omega) hm h0 hmm (by omega) hn
      refine ⟨_, _, _, rng_rd (E := []) hi, ?_, x, true, ns', sb', rows.set k (ds ++ [e]), sl', nu', mk', (i : Nat), a7', a8', a9', a10', a11', D', l', by rw [List.length_set]; exact hm, by rw [flat_set rows k hk, hf], fw', rfl⟩
      show some (slotSet _ 6 _) = _
      cases b <;> rfl)
    (fun E _ => rng_end (E := [])) m 0 m (eQp (bx n1 b1) many (rows.map R) [] [] 0 .no .no .no .no .no .no .no .no []) (by omega) (Nat.le_refl _)
    ⟨false, n1, b1, rows, [], [], 0, 0, 0, 0, 0, 0, 0, .none, l1, hm, hlen, ⟨List.nodup_nil, List.nodup_nil, Nat.le_refl _, Nat.le_refl _⟩, rfl⟩
  obtain ⟨E', hE, b, ns', sb', rows', sl, nu, mk, t, a7, a8, a9, a10, a11, D, hn, hm', hf, _, rfl⟩ := hloop
  exact ⟨_, ⟨b, ns', sb', rows', sl, nu, mk, t, a7, a8, a9, a10, a11, D, hn, hm', by omega, rfl⟩, dFor_go hsrc (by rw [List.append_nil]; exact hE)⟩
end
open Gn hiding g__law_take g__law_begun d__law_take d__law_begun
abbrev pT13 : En → Option Out := dSet 13 (tk (dVar 1))
abbrev pArgs : En → Option (Nat × En) := lConsP (dVar 0) (lConsE (eSealP (dIxL (dVar 2) (dVar 13))) (lConsE (tk (dC (.int 6))) lNil))
abbrev pBent : En → Option Out := dLSet (dVar 2) (dVar 13) (eEff pArgs fun k => dWhen k 3 (eCall K17.g__law_bent (dGhs k)))
theorem parted_is : K17.d__law_parted = dSeq (dSet 2 (eLc (iRange (dVar 1)) 13 eYes (ePure (dLst dNil)))) (dSeq (dParL3 3 4 5 (lConsP dNewD (lConsP dNewD (lConsP (dC (.int 0)) lNil)))) (dSeq pLoop (dSeq pT13 (dSeq pBent (dRet (eMove 2)))))) := rfl
def rowS (s : S) (ds : List De) : Prop := s = L ds ∨ s = R ds
theorem rowS.toD {s : S} {ds : List De} (h : rowS s ds) : s.toD = some (roD ds) := by
  rcases h with rfl | rfl
  · rfl
  · exact dL_toD
theorem toDs_set : ∀ (rows : List (List De)) (k : Nat) {s : S} {ds : List De}, rowS s ds → S.toDs ((rows.map R).set k s) = some ((rows.set k ds).map roD)
  | [], k, s, ds, h => rfl
  | a :: rows, 0, s, ds, h => by
    show (match s.toD, S.toDs (rows.map R) with | some a, some as => some (a :: as) | _, _ => none) = _
    have hr : S.toDs (rows.map R) = some (rows.map roD) := by
      clear h
      induction rows with
      | nil => rfl
      | cons b rows ih =>
        show (match (R b).toD, S.toDs (rows.map R) with | some a, some as => some (a :: as) | _, _ => none) = _
        rw [ih, show (R b).toD = some (roD b) from dL_toD]
        rfl
    rw [h.toD, hr]
    rfl
  | a :: rows, k + 1, s, ds, h => by
    show (match (R a).toD, S.toDs ((rows.map R).set k s) with | some a, some as => some (a :: as) | _, _ => none) = _
    rw [toDs_set rows k h, show (R a).toD = some (roD a) from dL_toD]
    rfl
section
variable {ns : List Int} {sb many : Int}
theorem v_parted {m : Nat} (h0 : 1 ≤ m) (h4 : m ≤ 4) (hl : ns.length < 1000) : ∃ rows ns' sb' s, ns'.length < 1000 ∧ s.toD = some (RD rows) ∧ rows.length = m ∧ rows.flatten.length ≤ 16 ∧
    K17.g__law_parted [bx ns sb, .dat (.int (m : Nat))] = some (s, [bx ns' sb', .dat (.int (m : Nat))]) := by
  let rows0 : List (List De) := List.replicate m []
  have s1a : ∃ E1, dSet 2 (eLc (iRange (dVar 1)) 13 eYes (ePure (dLst dNil))) (entry 14 [bx ns sb, .dat (.int (m : Nat))]) = some (.nx E1) ∧ dParL3 3 4 5 (lConsP dNewD (lConsP dNewD (lConsP (dC (.int 0)) lNil))) E1 = some (.nx (eQp (bx ns sb) (m : Nat) (rows0.map R) [] [] 0 .no .no .no .no .no .no .no .no [])) := by
    let E0 : En := [.bor [14], I (m : Nat), .no, .no, .no, .no, .no, .no, .no, .no, .no, .no, .no, .no, .own (bx ns sb), I (m : Nat)]
    have hsrc := iRange_go (E := E0) (d := dVar 1) (j := (m : Nat)) rfl (by omega) (by omega)
    rw [Int.toNat_natCast] at hsrc
    have hloop := lc_inv (rd := fun _ i => some (if i < m then some (.val (.dat (.int (i : Nat)))) else none)) (j := 13) (de := ePure (dLst dNil)) (fun i acc E => acc = List.replicate i (R []) ∧ E = E0) m (by omega)
      (fun i acc E hi hJ => by
        obtain ⟨rfl, rfl⟩ := hJ
        exact ⟨_, slotSet E0 13 (I (i : Nat)), R [], slotSet E0 13 (I (i : Nat)), rng_rd (E := []) hi, rfl, rfl, List.replicate_succ'.symm, rfl⟩)
      (fun acc E _ => rng_end (E := [])) m 0 m [] E0 (by omega) (Nat.le_refl _) rfl ⟨rfl, rfl⟩
    obtain ⟨acc, E', hE, rfl, rfl⟩ := hloop
    have c : eLc (iRange (dVar 1)) 13 eYes (ePure (dLst dNil)) E0 = some (.lst (List.replicate m (R [])), E0) := (eLc_go hsrc hE).trans rfl
    have hrr : rows0.map R = List.replicate m (R []) := List.map_replicate
    rw [hrr]
    exact ⟨_, (dSet_go c).trans rfl, rfl⟩
  obtain ⟨E1, s1a, s1b'⟩ := s1a
  obtain ⟨E2, hA, s2⟩ := v_pLoop (ns := ns) (sb := sb) (many := (m : Nat)) (rows := rows0) (by simp [rows0]) (by omega) (by omega) (by simp [rows0]) hl
  obtain ⟨b, n2, b2, rows, sl, nu, mk, t, a7, a8, a9, a10, a11, D, l2, hm, hf, rfl⟩ := hA
  have hm : m = rows.length := by omega
  obtain ⟨r, n3, b3, r0, r1, l3, e3⟩ := take_go (ns := n2) (st := b2) (many := (m : Nat)) (by omega) (by omega) l2
  have hr1 : ((r.toNat : Nat) : Int) = r := Int.toNat_of_nonneg r0
  generalize hk : r.toNat = k at hr1
  subst hr1
  have hkl : k < rows.length := by omega
  obtain ⟨ds, hds⟩ : ∃ ds, rows[k]? = some ds := ⟨_, List.getElem?_eq_getElem hkl⟩
  let E (B : S) (rs : List S) (v13 : Sl) : En := eQp B (m : Nat) rs sl nu mk (s1b b (.int t)) (s1b b (.int a7)) (s1b b (.int a8)) (s1b b (.int a9)) (s1b b (.int a10)) (s1b b (.int a11)) (s1b b D) v13 []
  let rs := rows.map R
  let i13 : Sl := I (k : Nat)
  have s3 : pT13 (E (bx n2 b2) rs .no) = some (.nx (E (bx n3 b3) rs i13)) := by
    have c : tk (dVar 1) (E (bx n2 b2) rs .no) = some (.dat (.int (k : Nat)), E (bx n3 b3) rs .no) := by
      refine (eCall_go (rs := [.pl [14], .val (.dat (.int (m : Nat)))]) rfl rfl rfl e3).trans ?_
      cases b <;> rfl
    refine (dSet_go c).trans ?_
    cases b <;> rfl
  have hrk : rs[k]? = some (R ds) := by show (rows.map R)[k]? = _; rw [List.getElem?_map, hds]; rfl
  have hdl := row_le rows k hds
  obtain ⟨way, n4, b4, w0, w1, l4, e4⟩ := take_go (ns := n3) (st := b3) (many := 6) (by omega) (by omega) l3
  obtain ⟨ds', n5, b5, s, l5, hl5, hs5, e5⟩ := v_bent (ns := n4) (st := b4) (ds := ds) (way := way) l4 (by omega)
  -- the row taken away, sealed
  let rsL := rs.set k (L ds)
  have q1 : eSealP (dIxL (dVar 2) (dVar 13)) (E (bx n3 b3) rs i13 ++ [Sl.bor [14]]) = some (L ds, E (bx n3 b3) rsL i13 ++ [Sl.bor [14]]) := by
    have gp : dIxL (dVar 2) (dVar 13) (E (bx n3 b3) rs i13 ++ [Sl.bor [14]]) = some (.pl [2, k]) := at_row rfl rfl rfl hrk
    have ge : eget (E (bx n3 b3) rs i13 ++ [Sl.bor [14]]) [2, k] = some (R ds) := S_get1 hrk
    unfold eSealP
    rw [gp]
    simp only [ge]
    rw [show (R ds).toD = some (roD ds) from dL_toD]
    have pp : eput (E (bx n3 b3) rs i13 ++ [Sl.bor [14]]) [2, k] (L ds) = E (bx n3 b3) rsL i13 ++ [Sl.bor [14]] := by
      show (E (bx n3 b3) rs i13 ++ [Sl.bor [14]]).set 2 (.own ((S.lst rs).put [k] (L ds))) = _
      rw [S_put1 hrk]
      rfl
    show some (L ds, ekill (eput (E (bx n3 b3) rs i13 ++ [Sl.bor [14]]) [2, k] (L ds)) [2, k]) = _
    rw [pp]
    cases b <;> rfl
  have q2 : tk (dC (.int 6)) (E (bx n3 b3) rsL i13 ++ [Sl.bor [14], .own (L ds)]) = some (.dat (.int way), E (bx n4 b4) rsL i13 ++ [Sl.bor [14], .own (L ds)]) := by
    refine (eCall_go (rs := [.pl [14], .val (.dat (.int 6))]) rfl rfl rfl e4).trans ?_
    cases b <;> rfl
  have q3 : pArgs (E (bx n3 b3) rs i13) = some (3, E (bx n4 b4) rsL i13 ++ [Sl.bor [14], .own (L ds), I way]) :=
    lP_bor (p := [14]) rfl (lE_go q1 (by rw [List.append_assoc]; exact lE_go q2 (by rw [List.append_assoc]; rfl)))
  have q4 : eCall K17.g__law_bent (dGhs 3) (E (bx n4 b4) rsL i13 ++ [Sl.bor [14], .own (L ds), I way]) = some (s, E (bx n5 b5) rsL i13 ++ [Sl.bor [14], .own (L ds), I way]) := by
    refine (eCall_go (rs := [.pl [14], .val (L ds), .val (.dat (.int way))]) rfl rfl rfl e5).trans ?_
    cases b <;> rfl
  have q5 : eEff pArgs (fun k => dWhen k 3 (eCall K17.g__law_bent (dGhs k))) (E (bx n3 b3) rs i13) = some (s, E (bx n5 b5) rsL i13) :=
    eff_go (dc := fun k => dWhen k 3 (eCall K17.g__law_bent (dGhs k))) q3 (when_go q4) (by cases b <;> rfl) rfl
  have s4 : pBent (E (bx n3 b3) rs i13) = some (.nx (E (bx n5 b5) (rs.set k s) i13)) := by
    unfold pBent dLSet
    rw [q5]
    show stepAt (oLSet (k : Nat)) (E (bx n5 b5) rsL i13) [2] s = _
    unfold stepAt
    rw [show eget (E (bx n5 b5) rsL i13) [2] = some (.lst rsL) from rfl]
    have ol : oLSet (k : Nat) (.lst rsL) s = some (.lst (rs.set k s), .dat .none) := by
      unfold oLSet
      have : k < rsL.length := by show k < (rs.set k (L ds)).length; rw [List.length_set]; show k < (rows.map R).length; rw [List.length_map]; exact hkl
      simp only [ixN_in this]
      show some (S.lst ((rs.set k (L ds)).set k s), _) = _
      rw [List.set_set]
    simp only [ol]
    cases b <;> rfl
  refine ⟨rows.set k ds', n5, b5, .lst (rs.set k s), l5, ?_, by rw [List.length_set]; exact hm.symm, Nat.le_trans (flat_put rows k hds hl5) hf, ?_⟩
  · show (S.toDs (rs.set k s)).map PyData.list = _
    rw [toDs_set rows k hs5]
    rfl
  · unfold K17.g__law_parted
    rw [parted_is]
    refine fnG_rt (E := slotSet (E (bx n5 b5) (rs.set k s) i13) 2 .no) (dSeq_go s1a (dSeq_go s1b' (dSeq_go s2 (dSeq_go s3 (dSeq_go s4 (dRet_go rfl)))))) ?_
    cases b <;> rfl
end
end DQ17
set_option maxHeartbeats 4000000
namespace DQ17
open PySem PySem.Spec PyProof.Rows L2 Mv NX
open Gn hiding g__law_take g__law_begun d__law_take d__law_begun
def Qa (s : Sl) : Prop := s = .no ∨ ∃ t, s = .own t
def eW (D : PyData) (B : S) (s2 s3 s4 s5 s6 s7 s8 : Sl) : En := [.own (.dat D), .own B, s2, s3, s4, s5, s6, s7, s8, .own (.dat D)]
abbrev wArgs : En → Option (Nat × En) := lConsP (dVar 1) (lConsE (eOp fAdd (ePure (dC (.int 1))) (eCall K17.g__law_take (dCons (dVar 1) (dCons (dC (.int 4)) dNil)))) lNil)
abbrev wA : En → Option Out := dSet 3 (eSeal (eEff wArgs fun k => dWhen k 2 (eCall K17.g__law_parted (dGhs k))))
noncomputable abbrev wB : En → Option Out := dSet 4 (eSeal (eFirst K17.G17 (dVar 3)))
abbrev wC : En → Option Out := dSet 5 (eSeal (eLc (iLst (dVar 3)) 8 eYes (ePure (dCS fList (dCons (dVar 8) dNil)))))
abbrev wF1 : En → Option Out := dSet 7 (eCall K17.g_in_one (dCons (dVar 5) dNil))
abbrev wF2 : En → Option Out := dIf (eOr (eNot (eTest (eCall (K17.g__law_alike 9) (dCons (dVar 7) (dCons (dVar 4) dNil))))) (ePureT (dTest (dOp fNeD (dVar 5) (dVar 3))))) (dRet (ePure (dC (.bool false)))) dNext
abbrev wF3 : En → Option Out := dIf (ePureT (dTest (dOp fNotN (dVar 7) (dC .none)))) (dDrop (eBM1 oAppend (dVar 7) (dTupL dNil))) dNext
abbrev wF : En → Option Out := dFor (iRange (dC (.int 2))) (bName 6) (dSeq wF1 (dSeq wF2 wF3))
theorem law_is : K17.d_law = dSeq (dSet 1 (eCall K17.g__law_begun (dCons (dVar 0) dNil))) (dSeq (dFor (iRange (dC (.int 4))) (bName 2) (dSeq wA (dSeq wB (dSeq wC wF)))) (dRet (ePure (dC (.bool true))))) := rfl
theorem roD_lay (ds : List De) : (roD ds).canLay0 = true := by
  unfold roD
  rw [PyData.canLay0]
  exact canLay_map de_lay ds
theorem roD_depth (ds : List De) : (roD ds).depth ≤ 2 := by
  unfold roD
  rw [PyData.depth]
  have := depth_map de_depth ds
  omega
theorem toDs_rows : ∀ (rows : List (List De)), S.toDs (rows.map R) = some (rows.map roD)
  | [] => rfl
  | b :: rows => by
    show (match (R b).toD, S.toDs (rows.map R) with | some a, some as => some (a :: as) | _, _ => none) = _
    rw [toDs_rows rows, show (R b).toD = some (roD b) from dL_toD]
    rfl
theorem eSeal_go {de : En → Option (S × En)} {E E1 : En} {s : S} {d : PyData} (h : de E = some (s, E1)) (h2 : s.toD = some d) : eSeal de E = some (.dat d, E1) := by
  unfold eSeal
  rw [h]
  simp only [h2]
section
variable {D : PyData} {ns : List Int} {sb : Int} {s2 s3 s4 s5 s6 s7 : Sl} {rows : List (List De)}
theorem v_wA (hl : ns.length < 1000) (h2 : Qa s2) (h3 : Qa s3) (h4 : Qa s4) (h5 : Qa s5) (h6 : Qa s6) (h7 : Qa s7) : ∃ rows ns' sb', ns'.length < 1000 ∧ rows.length ≤ 4 ∧ rows.flatten.length ≤ 16 ∧
    wA (eW D (bx ns sb) s2 s3 s4 s5 s6 s7 .no) = some (.nx (eW D (bx ns' sb') s2 (.own (.dat (RD rows))) s4 s5 s6 s7 .no)) := by
  obtain ⟨r, n1, b1, r0, r1, l1, e1⟩ := take_go (st := sb) (many := 4) (by omega) (by omega) hl
  obtain ⟨rows, n2, b2, s, l2, hs, hm, hf, e2⟩ := v_parted (ns := n1) (sb := b1) (m := (1 + r).toNat) (by omega) (by omega) l1
  have hr : (((1 + r).toNat : Nat) : Int) = 1 + r := Int.toNat_of_nonneg (by omega)
  rw [hr] at e2
  refine ⟨rows, n2, b2, l2, by omega, hf, ?_⟩
  let E (B : S) : En := eW D B s2 s3 s4 s5 s6 s7 .no
  have c1 : eCall K17.g__law_take (dCons (dVar 1) (dCons (dC (.int 4)) dNil)) (E (bx ns sb) ++ [Sl.bor [1]]) = some (.dat (.int r), E (bx n1 b1) ++ [Sl.bor [1]]) := by
    refine (eCall_go (rs := [.pl [1], .val (.dat (.int 4))]) rfl rfl rfl e1).trans ?_
    rcases h2 with rfl | ⟨d2, rfl⟩ <;> rcases h3 with rfl | ⟨d3, rfl⟩ <;> rcases h4 with rfl | ⟨d4, rfl⟩ <;> rcases h5 with rfl | ⟨d5, rfl⟩ <;> rcases h6 with rfl | ⟨d6, rfl⟩ <;> rcases h7 with rfl | ⟨d7, rfl⟩ <;> rfl
  have c2 : eOp fAdd (ePure (dC (.int 1))) (eCall K17.g__law_take (dCons (dVar 1) (dCons (dC (.int 4)) dNil))) (E (bx ns sb) ++ [Sl.bor [1]]) = some (.dat (.int (1 + r)), E (bx n1 b1) ++ [Sl.bor [1]]) := eOp_go (x := .int 1) rfl c1 rfl
  have c3 : wArgs (E (bx ns sb)) = some (2, E (bx n1 b1) ++ [Sl.bor [1], I (1 + r)]) := lP_bor (p := [1]) rfl (lE_go c2 (by rw [List.append_assoc]; rfl))
  have c4 : eCall K17.g__law_parted (dGhs 2) (E (bx n1 b1) ++ [Sl.bor [1], I (1 + r)]) = some (s, E (bx n2 b2) ++ [Sl.bor [1], I (1 + r)]) := by
    refine (eCall_go (rs := [.pl [1], .val (.dat (.int (1 + r)))]) rfl rfl rfl e2).trans ?_
    rcases h2 with rfl | ⟨d2, rfl⟩ <;> rcases h3 with rfl | ⟨d3, rfl⟩ <;> rcases h4 with rfl | ⟨d4, rfl⟩ <;> rcases h5 with rfl | ⟨d5, rfl⟩ <;> rcases h6 with rfl | ⟨d6, rfl⟩ <;> rcases h7 with rfl | ⟨d7, rfl⟩ <;> rfl
  have c5 : eEff wArgs (fun k => dWhen k 2 (eCall K17.g__law_parted (dGhs k))) (E (bx ns sb)) = some (s, E (bx n2 b2)) :=
    eff_go (dc := fun k => dWhen k 2 (eCall K17.g__law_parted (dGhs k))) c3 (when_go c4)
      (by rcases h2 with rfl | ⟨d2, rfl⟩ <;> rcases h3 with rfl | ⟨d3, rfl⟩ <;> rcases h4 with rfl | ⟨d4, rfl⟩ <;> rcases h5 with rfl | ⟨d5, rfl⟩ <;> rcases h6 with rfl | ⟨d6, rfl⟩ <;> rcases h7 with rfl | ⟨d7, rfl⟩ <;> rfl) rfl
  refine (dSet_go (eSeal_go c5 hs)).trans ?_
  rcases h2 with rfl | ⟨d2, rfl⟩ <;> rcases h4 with rfl | ⟨d4, rfl⟩ <;> rcases h5 with rfl | ⟨d5, rfl⟩ <;> rcases h6 with rfl | ⟨d6, rfl⟩ <;> rcases h7 with rfl | ⟨d7, rfl⟩ <;> rfl
theorem v_wC (hm : rows.length ≤ 4) (h2 : Qa s2) (h4 : Qa s4) (h5 : Qa s5) (h6 : Qa s6) (h7 : Qa s7) :
    wC (eW D (bx ns sb) s2 (.own (.dat (RD rows))) s4 s5 s6 s7 .no) = some (.nx (eW D (bx ns sb) s2 (.own (.dat (RD rows))) s4 (.own (.dat (RD rows))) s6 s7 .no)) := by
  let E (s8 : Sl) : En := eW D (bx ns sb) s2 (.own (.dat (RD rows))) s4 s5 s6 s7 s8
  have k8 : ∀ d, slotSet (E (.own d)) 8 .no = E .no := fun d => by
    rcases h2 with rfl | ⟨d2, rfl⟩ <;> rcases h4 with rfl | ⟨d4, rfl⟩ <;> rcases h5 with rfl | ⟨d5, rfl⟩ <;> rcases h6 with rfl | ⟨d6, rfl⟩ <;> rcases h7 with rfl | ⟨d7, rfl⟩ <;> rfl
  have k9 : ∀ d, slotSet (E .no) 8 d = E d := fun d => by
    rcases h2 with rfl | ⟨d2, rfl⟩ <;> rcases h4 with rfl | ⟨d4, rfl⟩ <;> rcases h5 with rfl | ⟨d5, rfl⟩ <;> rcases h6 with rfl | ⟨d6, rfl⟩ <;> rcases h7 with rfl | ⟨d7, rfl⟩ <;> rfl
  have hloop := lc_inv (rd := rdD (rows.map roD)) (j := 8) (de := ePure (dCS fList (dCons (dVar 8) dNil))) (fun i acc E' => acc = (rows.take i).map R ∧ E' = E .no) rows.length (by omega)
    (fun i acc E' hi hJ => by
      obtain ⟨rfl, rfl⟩ := hJ
      have hx : rows[i]? = some rows[i] := List.getElem?_eq_getElem hi
      generalize rows[i] = ds at hx
      have c1 : ePure (dCS fList (dCons (dVar 8) dNil)) (E (.own (.dat (roD ds)))) = some (R ds, E (.own (.dat (roD ds)))) := by
        show some (S.lst ((ds.map De.d).map S.dat), _) = _
        rw [dL_back]; rfl
      refine ⟨_, E (.own (.dat (roD ds))), R ds, E (.own (.dat (roD ds))), rdD_at (f := roD) hx, ?_, c1, ?_, k8 _⟩
      · show some (slotSet (E .no) 8 _) = _
        rw [k9]
      · rw [List.take_add_one, hx]
        simp)
    (fun acc E' _ => rdD_en (f := roD) (Nat.le_refl _)) rows.length 0 rows.length [] (E .no) (by omega) (Nat.le_refl _) rfl ⟨rfl, rfl⟩
  obtain ⟨acc, E', hE, rfl, rfl⟩ := hloop
  have hsrc : iLst (dVar 3) (E .no) = some ⟨E .no, [], rdD (rows.map roD), rows.length⟩ := by
    show some (Src.mk (E .no) [] (rdD (rows.map roD)) (rows.map roD).length) = _
    rw [List.length_map]
  have c : eLc (iLst (dVar 3)) 8 eYes (ePure (dCS fList (dCons (dVar 8) dNil))) (E .no) = some (.lst (rows.map R), E .no) := by
    refine (eLc_go hsrc (E1 := E .no) (acc := rows.map R) ?_).trans rfl
    show dLcLoop _ 8 eYes _ rows.length 0 [] (slotSet (E .no ++ []) 8 .no) = _
    rw [List.append_nil, k9, hE, List.take_length]
  have hs : (S.lst (rows.map R)).toD = some (RD rows) := by
    show (S.toDs (rows.map R)).map PyData.list = _
    rw [toDs_rows]; rfl
  refine (dSet_go (eSeal_go c hs)).trans ?_
  rcases h2 with rfl | ⟨d2, rfl⟩ <;> rcases h4 with rfl | ⟨d4, rfl⟩ <;> rcases h6 with rfl | ⟨d6, rfl⟩ <;> rcases h7 with rfl | ⟨d7, rfl⟩ <;> rfl
def Told2 (rows : List (List De)) (due : PyData) : Prop :=
  (∃ Q : List (Nat × De), Q.length < 900 ∧ due = AD Q ∧ K17.g_in_one [RR rows] = some (dL pD Q, [RR rows])) ∨ (due = .none ∧ K17.g_in_one [RR rows] = some (.dat .none, [RR rows]))
theorem v_wB (hm : rows.length ≤ 4) (hf : rows.flatten.length ≤ 16) (h2 : Qa s2) (h4 : Qa s4) (h5 : Qa s5) (h6 : Qa s6) (h7 : Qa s7) : ∃ due, Told2 rows due ∧
    wB (eW D (bx ns sb) s2 (.own (.dat (RD rows))) s4 s5 s6 s7 .no) = some (.nx (eW D (bx ns sb) s2 (.own (.dat (RD rows))) (.own (.dat due)) s5 s6 s7 .no)) := by
  let E : En := eW D (bx ns sb) s2 (.own (.dat (RD rows))) s4 s5 s6 s7 .no
  have fin : ∀ s due, K17.G17 (RD rows) = some s → s.toD = some due → wB E = some (.nx (eW D (bx ns sb) s2 (.own (.dat (RD rows))) (.own (.dat due)) s5 s6 s7 .no)) := fun s due hG hs => by
    have c : eFirst K17.G17 (dVar 3) E = some (s, E) := by
      unfold eFirst
      rw [show dVar 3 E = some (.val (.dat (RD rows))) from rfl]
      simp only [hG]
      rfl
    refine (dSet_go (eSeal_go c hs)).trans ?_
    rcases h2 with rfl | ⟨d2, rfl⟩ <;> rcases h5 with rfl | ⟨d5, rfl⟩ <;> rcases h6 with rfl | ⟨d6, rfl⟩ <;> rcases h7 with rfl | ⟨d7, rfl⟩ <;> rfl
  rcases v_both (rows := rows) (by omega) (by omega) with ⟨Q, hq, hG, hi⟩ | ⟨hG, hi⟩
  · exact ⟨AD Q, .inl ⟨Q, hq, rfl, hi⟩, fin _ _ hG dL_toD⟩
  · exact ⟨.none, .inr ⟨rfl, hi⟩, fin _ _ hG rfl⟩
theorem v_wTurn {due : PyData} (hm : rows.length ≤ 4) (ht : Told2 rows due) (h2 : Qa s2) (h6 : Qa s6) (h7 : Qa s7) : ∃ s7', Qa s7' ∧
    dSeq wF1 (dSeq wF2 wF3) (eW D (bx ns sb) s2 (.own (.dat (RD rows))) (.own (.dat due)) (.own (.dat (RD rows))) s6 s7 .no) =
      some (.nx (eW D (bx ns sb) s2 (.own (.dat (RD rows))) (.own (.dat due)) (.own (.dat (RD rows))) s6 s7' .no)) := by
  let E (s7 : Sl) : En := eW D (bx ns sb) s2 (.own (.dat (RD rows))) (.own (.dat due)) (.own (.dat (RD rows))) s6 s7 .no
  have f1 : ∀ s, K17.g_in_one [RR rows] = some (s, [RR rows]) → wF1 (E s7) = some (.nx (E (.own s))) := fun s h => by
    refine (dSet_go (eCall_go (rs := [.val (RR rows)]) rfl rfl rfl h)).trans ?_
    rcases h2 with rfl | ⟨d2, rfl⟩ <;> rcases h6 with rfl | ⟨d6, rfl⟩ <;> rfl
  have ne : ∀ s7, ePureT (dTest (dOp fNeD (dVar 5) (dVar 3))) (E s7) = some (false, E s7) := fun s7 => by
    unfold ePureT dTest
    rw [dOp_go (a := .val (.dat (RD rows))) (b := .val (.dat (RD rows))) (x := .list (rows.map roD)) (y := .list (rows.map roD)) rfl rfl rfl rfl (neD_same roD_lay roD_depth (by omega) rows)]; rfl
  rcases ht with ⟨Q, hq, rfl, hi⟩ | ⟨rfl, hi⟩
  · have c : eCall (K17.g__law_alike 9) (dCons (dVar 7) (dCons (dVar 4) dNil)) (E (.own (dL pD Q))) = some (.dat (.bool true), E (.own (dL pD Q))) := by
      refine (eCall_go (rs := [.pl [7], .val (.dat (AD Q))]) rfl rfl rfl (v_alike hq)).trans ?_
      rcases h2 with rfl | ⟨d2, rfl⟩ <;> rcases h6 with rfl | ⟨d6, rfl⟩ <;> rfl
    have f2 : wF2 (E (.own (dL pD Q))) = some (.nx (E (.own (dL pD Q)))) := dIf_f (eOr_f (eNot_go (eTest_go c)) (ne _)) rfl
    have f3 : wF3 (E (.own (dL pD Q))) = some (.nx (E (.own (dL id (Q.map pD ++ [.tuple []]))))) := by
      have t : ePureT (dTest (dOp fNotN (dVar 7) (dC .none))) (E (.own (dL pD Q))) = some (true, E (.own (dL pD Q))) := by
        unfold ePureT dTest
        rw [dOp_go (a := .pl [7]) (b := .val (.dat .none)) (x := AD Q) (y := .none) rfl rfl (show Rs.full (E (.own (dL pD Q))) (.pl [7]) = some (AD Q) from (dL_toD : (dL pD Q).toD = _)) rfl rfl]; rfl
      refine dIf_t t (dDrop_go (s := .dat .none) ?_)
      have di : dL id (Q.map pD) = dL pD Q := by simp [dL]
      refine (append_go (f := id) (xs := Q.map pD) (x := .tuple []) (p := [7]) rfl ?_ rfl (by rw [List.length_map]; omega)).trans ?_
      · rw [di]; rfl
      · rcases h2 with rfl | ⟨d2, rfl⟩ <;> rcases h6 with rfl | ⟨d6, rfl⟩ <;> rfl
    exact ⟨_, .inr ⟨_, rfl⟩, dSeq_go (f1 _ hi) (dSeq_go f2 f3)⟩
  · have c : eCall (K17.g__law_alike 9) (dCons (dVar 7) (dCons (dVar 4) dNil)) (E (.own (.dat .none))) = some (.dat (.bool true), E (.own (.dat .none))) := by
      refine (eCall_go (rs := [.val (.dat .none), .val (.dat .none)]) rfl rfl rfl (s := .dat (.bool true)) (ss' := [.dat .none, .dat .none]) rfl).trans rfl
    have f2 : wF2 (E (.own (.dat .none))) = some (.nx (E (.own (.dat .none)))) := dIf_f (eOr_f (eNot_go (eTest_go c)) (ne _)) rfl
    exact ⟨_, .inr ⟨_, rfl⟩, dSeq_go (f1 _ hi) (dSeq_go f2 rfl)⟩
theorem v_wF {due : PyData} (hm : rows.length ≤ 4) (ht : Told2 rows due) (h2 : Qa s2) (h6 : Qa s6) (h7 : Qa s7) : ∃ s6' s7', Qa s6' ∧ Qa s7' ∧
    wF (eW D (bx ns sb) s2 (.own (.dat (RD rows))) (.own (.dat due)) (.own (.dat (RD rows))) s6 s7 .no) =
      some (.nx (eW D (bx ns sb) s2 (.own (.dat (RD rows))) (.own (.dat due)) (.own (.dat (RD rows))) s6' s7' .no)) := by
  let E (s6 s7 : Sl) : En := eW D (bx ns sb) s2 (.own (.dat (RD rows))) (.own (.dat due)) (.own (.dat (RD rows))) s6 s7 .no
  have hsrc := iRange_go (E := E s6 s7) (d := dC (.int 2)) (j := 2) rfl (by omega) (by omega)
  let J (i : Nat) (E' : En) : Prop := ∃ s6 s7, E' = E s6 s7 ∧ Qa s6 ∧ Qa s7
  have hloop := loop_inv (rd := fun _ i => some (if i < 2 then some (.val (.dat (.int (i : Nat)))) else none)) (bd := bName 6) (db := dSeq wF1 (dSeq wF2 wF3)) J 2
    (fun i E' hi hJ => by
      obtain ⟨s6, s7, rfl, q6, q7⟩ := hJ
      obtain ⟨s7', q7', x⟩ := v_wTurn (D := D) (ns := ns) (sb := sb) (s6 := I (i : Nat)) hm ht h2 (.inr ⟨_, rfl⟩) q7
      refine ⟨_, _, _, rng_rd (E := []) hi, ?_, x, _, _, rfl, .inr ⟨_, rfl⟩, q7'⟩
      show some (slotSet _ 6 _) = _
      rcases h2 with rfl | ⟨d2, rfl⟩ <;> rcases q7 with rfl | ⟨d7, rfl⟩ <;> rfl)
    (fun E _ => rng_end (E := [])) 2 0 2 (E s6 s7) (by omega) (Nat.le_refl _) ⟨_, _, rfl, h6, h7⟩
  obtain ⟨E', hE, s6', s7', rfl, q6, q7⟩ := hloop
  exact ⟨s6', s7', q6, q7, dFor_go hsrc (by rw [List.append_nil]; exact hE)⟩
end
theorem law17 {ns : List Int} (hl : ns.length < 1000) : K17.g_law [.dat (.list (ns.map .int))] = some (.dat (.bool true), [.dat (.list (ns.map .int))]) := by
  obtain ⟨st, hb⟩ := Gn.v_begun hl
  let D : PyData := .list (ns.map .int)
  have s1 : dSet 1 (eCall K17.g__law_begun (dCons (dVar 0) dNil)) (entry 9 [.dat D]) = some (.nx (eW D (bx ns st) .no .no .no .no .no .no .no)) :=
    (dSet_go (eCall_go (rs := [.val (.dat D)]) rfl rfl rfl hb)).trans rfl
  have hsrc := iRange_go (E := eW D (bx ns st) .no .no .no .no .no .no .no) (d := dC (.int 4)) (j := 4) rfl (by omega) (by omega)
  let J (i : Nat) (E : En) : Prop := ∃ ns st s2 s3 s4 s5 s6 s7, E = eW D (bx ns st) s2 s3 s4 s5 s6 s7 .no ∧ ns.length < 1000 ∧ Qa s2 ∧ Qa s3 ∧ Qa s4 ∧ Qa s5 ∧ Qa s6 ∧ Qa s7
  have hloop := loop_inv (rd := fun _ i => some (if i < 4 then some (.val (.dat (.int (i : Nat)))) else none)) (bd := bName 2) (db := dSeq wA (dSeq wB (dSeq wC wF))) J 4
    (fun i E hi hJ => by
      obtain ⟨ns, st, s2, s3, s4, s5, s6, s7, rfl, hn, q2, q3, q4, q5, q6, q7⟩ := hJ
      have q2' : Qa (I (i : Nat)) := .inr ⟨_, rfl⟩
      obtain ⟨rows, n1, b1, l1, hm, hf, x1⟩ := v_wA (D := D) (sb := st) hn q2' q3 q4 q5 q6 q7
      obtain ⟨due, ht, x2⟩ := v_wB (D := D) (ns := n1) (sb := b1) hm hf q2' q4 q5 q6 q7
      have x3 := v_wC (D := D) (ns := n1) (sb := b1) (rows := rows) (s4 := .own (.dat due)) hm q2' (.inr ⟨_, rfl⟩) q5 q6 q7
      obtain ⟨s6', s7', q6', q7', x4⟩ := v_wF (D := D) (ns := n1) (sb := b1) hm ht q2' q6 q7
      refine ⟨_, _, _, rng_rd (E := []) hi, ?_, dSeq_go x1 (dSeq_go x2 (dSeq_go x3 x4)), n1, b1, _, _, _, _, _, _, rfl, l1, q2', .inr ⟨_, rfl⟩, .inr ⟨_, rfl⟩, .inr ⟨_, rfl⟩, q6', q7'⟩
      show some (slotSet _ 2 _) = _
      rcases q3 with rfl | ⟨d3, rfl⟩ <;> rcases q4 with rfl | ⟨d4, rfl⟩ <;> rcases q5 with rfl | ⟨d5, rfl⟩ <;> rcases q6 with rfl | ⟨d6, rfl⟩ <;> rcases q7 with rfl | ⟨d7, rfl⟩ <;> rfl)
    (fun E _ => rng_end (E := [])) 4 0 4 (eW D (bx ns st) .no .no .no .no .no .no .no) (by omega) (Nat.le_refl _) ⟨ns, st, _, _, _, _, _, _, rfl, hl, .inl rfl, .inl rfl, .inl rfl, .inl rfl, .inl rfl, .inl rfl⟩
  obtain ⟨E', hE, ns', st', t2, t3, t4, t5, t6, t7, rfl, _, _, _, _, _, _, _⟩ := hloop
  have x := dFor_go hsrc (by rw [List.append_nil]; exact hE)
  unfold K17.g_law
  rw [law_is]
  exact fnG_rt (dSeq_go s1 (dSeq_go x (dRet_go rfl))) rfl
end DQ17
namespace K17
open PySem PySem.Spec PyProof.Rows L2 Mv
theorem law_sp {K : PySem.W.Frag} {H : Hp} {a : Addr} {ns : List Int} {E : XK} (hl : ns.length ≤ 63) (hS : SqL K H a (ns.map V.int)) : spMv K 1 g_law [.ref a] H (fun v _ => v = .bl true) E := by
  let F : Hp := fun b => if b = a then H b else none
  have fa : F a = H a := if_pos rfl
  have hF : SqL K F a (ns.map V.int) := hS.imp (fun rd => by
    rcases rd with z | ⟨o, z⟩
    · exact .inl (fa.trans z)
    · exact .inr ⟨o, fa.trans z⟩) id
  have hd : ∀ (ns : List Int), DqAll K F (ns.map V.int) (ns.map PyData.int) := by
    intro ns
    induction ns with
    | nil => exact .nil
    | cons i r ih => exact .cons (.int i) ih
  refine ⟨rfl, F, [.dat (.list (ns.map .int))], [], .dat (.bool true), [.dat (.list (ns.map .int))], fun b o e => ?_, .cons (fp := []) (.dat (.lst hF (hd ns))) .nil, List.nodup_nil, (fun _ m => nomatch m), DQ17.law17 (by omega), fun v F' H' fr fp' g o ov nd of => ?_⟩
  · by_cases hb : b = a
    · have : F b = H b := if_pos hb
      rw [← this]; exact e
    · have : F b = none := if_neg hb
      rw [this] at e; cases e
  · have := (Own.dat_inv ov rfl).1
    cases this
    rfl
theorem all_mk {l : W.OpenLaw} {w : World} {K : W.Frag} {h : Heap} {mg : Str → Option Value} {fa f0 f1 f2 f3 f4 f5 f6 f7 f8 f9 f10 f11 f12 f13 CTally qNEW_SLOT_0 : Addr} {od0 an0 od1 an1 od2 an2 od3 an3 od4 an4 od5 an5 od6 an6 od7 an7 od8 an8 od9 an9 od10 an10 od11 an11 od12 an12 od13 an13 : Option Addr} {sl0 sl1 sl2 sl3 sl4 sl5 sl6 sl7 sl8 sl9 sl10 sl11 sl12 sl13 : Array (Option Value)} {oc0 kV0 dc0 pm0 cd0 ct0 oc1 kV1 dc1 pm1 cd1 ct1 oc2 kV2 dc2 pm2 cd2 ct2 oc3 kV3 dc3 pm3 cd3 ct3 oc4 kV4 dc4 pm4 cd4 ct4 oc5 kV5 dc5 pm5 cd5 ct5 oc6 kV6 dc6 pm6 cd6 ct6 oc7 kV7 dc7 pm7 cd7 ct7 oc8 kV8 dc8 pm8 cd8 ct8 oc9 kV9 dc9 pm9 cd9 ct9 oc10 kV10 dc10 pm10 cd10 ct10 oc11 kV11 dc11 pm11 cd11 ct11 oc12 kV12 dc12 pm12 cd12 ct12 oc13 kV13 dc13 pm13 cd13 ct13 : Value} {tkWORTHS tNEW_SLOT_1 tNEW_SLOT_2 : Tok} {zqNEW_SLOT_0 : Nat} (X : K.In h) (G : h.Ns mainGlobals mg) (hfa : mg "law" = some (.ref fa))
    (aCTally : W.nsIn K mainGlobals "Tally" = some (some (.ref CTally)))
    (pgTally : W.plainGet K CTally Str.empty = true)
    (hdTally : W.hasDictIn K CTally = true)
    (poTally : W.plainOver K CTally = true)
    (saTally : W.findIn K (.ref CTally) "__setattr__" = some (some (.builtin "object.__setattr__")))
    (mkTally : W.makesIn K CTally = true)
    (kcTally : W.keepIn K (.ref CTally) = true)
    (nTally_grown : W.findIn K (.ref CTally) "grown" = some none)
    (nTally_numbers : W.findIn K (.ref CTally) "numbers" = some none)
    (nTally_make : W.findIn K (.ref CTally) "make" = some none)
    (a0 : W.nsIn K mainGlobals "with_more" = some (some (.ref f0)))
    (l0 : K.lookup f0 = some ⟨oc0, od0, .func (W.fnOf "with_more" "with_more" (defArgs s_with_more) (defBody s_with_more) (defScope s_with_more) .none kV0 dc0 pm0 an0 cd0 ct0), sl0⟩)
    (c0 : W.codeIn K cd0 "with_more" = true)
    (k0 : W.keepIn K (.ref f0) = true)
    (a1 : W.nsIn K mainGlobals "in_one" = some (some (.ref f1)))
    (l1 : K.lookup f1 = some ⟨oc1, od1, .func (W.fnOf "in_one" "in_one" (defArgs s_in_one) (defBody s_in_one) (defScope s_in_one) .none kV1 dc1 pm1 an1 cd1 ct1), sl1⟩)
    (c1 : W.codeIn K cd1 "in_one" = true)
    (k1 : W.keepIn K (.ref f1) = true)
    (a2 : W.nsIn K mainGlobals "next_place" = some (some (.ref f2)))
    (l2 : K.lookup f2 = some ⟨oc2, od2, .func (W.fnOf "next_place" "next_place" (defArgs s_next_place) (defBody s_next_place) (defScope s_next_place) .none kV2 dc2 pm2 an2 cd2 ct2), sl2⟩)
    (c2 : W.codeIn K cd2 "next_place" = true)
    (k2 : W.keepIn K (.ref f2) = true)
    (a3 : W.nsIn K mainGlobals "_law_begun" = some (some (.ref f3)))
    (l3 : K.lookup f3 = some ⟨oc3, od3, .func (W.fnOf "_law_begun" "_law_begun" (defArgs s__law_begun) (defBody s__law_begun) (defScope s__law_begun) .none kV3 dc3 pm3 an3 cd3 ct3), sl3⟩)
    (c3 : W.codeIn K cd3 "_law_begun" = true)
    (k3 : W.keepIn K (.ref f3) = true)
    (a4 : W.nsIn K mainGlobals "_law_take" = some (some (.ref f4)))
    (l4 : K.lookup f4 = some ⟨oc4, od4, .func (W.fnOf "_law_take" "_law_take" (defArgs s__law_take) (defBody s__law_take) (defScope s__law_take) .none kV4 dc4 pm4 an4 cd4 ct4), sl4⟩)
    (c4 : W.codeIn K cd4 "_law_take" = true)
    (k4 : W.keepIn K (.ref f4) = true)
    (a5 : W.nsIn K mainGlobals "_law_alike" = some (some (.ref f5)))
    (l5 : K.lookup f5 = some ⟨oc5, od5, .func (W.fnOf "_law_alike" "_law_alike" (defArgs s__law_alike) (defBody s__law_alike) (defScope s__law_alike) .none kV5 dc5 pm5 an5 cd5 ct5), sl5⟩)
    (c5 : W.codeIn K cd5 "_law_alike" = true)
    (k5 : W.keepIn K (.ref f5) = true)
    (a6 : W.nsIn K mainGlobals "_law_parted" = some (some (.ref f6)))
    (l6 : K.lookup f6 = some ⟨oc6, od6, .func (W.fnOf "_law_parted" "_law_parted" (defArgs s__law_parted) (defBody s__law_parted) (defScope s__law_parted) .none kV6 dc6 pm6 an6 cd6 ct6), sl6⟩)
    (c6 : W.codeIn K cd6 "_law_parted" = true)
    (k6 : W.keepIn K (.ref f6) = true)
    (a7 : W.nsIn K mainGlobals "_law_bent" = some (some (.ref f7)))
    (l7 : K.lookup f7 = some ⟨oc7, od7, .func (W.fnOf "_law_bent" "_law_bent" (defArgs s__law_bent) (defBody s__law_bent) (defScope s__law_bent) .none kV7 dc7 pm7 an7 cd7 ct7), sl7⟩)
    (c7 : W.codeIn K cd7 "_law_bent" = true)
    (k7 : W.keepIn K (.ref f7) = true)
    (a8 : W.nsIn K mainGlobals "_law_lets" = some (some (.ref f8)))
    (l8 : K.lookup f8 = some ⟨oc8, od8, .func (W.fnOf "_law_lets" "_law_lets" (defArgs s__law_lets) (defBody s__law_lets) (defScope s__law_lets) .none kV8 dc8 pm8 an8 cd8 ct8), sl8⟩)
    (c8 : W.codeIn K cd8 "_law_lets" = true)
    (k8 : W.keepIn K (.ref f8) = true)
    (a9 : W.nsIn K mainGlobals "_law_first" = some (some (.ref f9)))
    (l9 : K.lookup f9 = some ⟨oc9, od9, .func (W.fnOf "_law_first" "_law_first" (defArgs s__law_first) (defBody s__law_first) (defScope s__law_first) .none kV9 dc9 pm9 an9 cd9 ct9), sl9⟩)
    (c9 : W.codeIn K cd9 "_law_first" = true)
    (k9 : W.keepIn K (.ref f9) = true)
    (a10 : W.nsIn K mainGlobals "law" = some (some (.ref f10)))
    (l10 : K.lookup f10 = some ⟨oc10, od10, .func (W.fnOf "law" "law" (defArgs s_law) (defBody s_law) (defScope s_law) .none kV10 dc10 pm10 an10 cd10 ct10), sl10⟩)
    (c10 : W.codeIn K cd10 "law" = true)
    (k10 : W.keepIn K (.ref f10) = true)
    (a11 : W.findIn K (.ref CTally) "__init__" = some (some (.ref f11)))
    (i11 : W.isFn K (.ref f11) = true)
    (l11 : K.lookup f11 = some ⟨oc11, od11, .func (W.fnOf "__init__" "Tally.__init__" (defArgs s_Tally___init__) (defBody s_Tally___init__) (defScope s_Tally___init__) .none kV11 dc11 pm11 an11 cd11 ct11), sl11⟩)
    (c11 : W.codeIn K cd11 "Tally.__init__" = true)
    (k11 : W.keepIn K (.ref f11) = true)
    (a12 : W.findIn K (.ref CTally) "lets" = some (some (.ref f12)))
    (i12 : W.isFn K (.ref f12) = true)
    (l12 : K.lookup f12 = some ⟨oc12, od12, .func (W.fnOf "lets" "Tally.lets" (defArgs s_Tally_lets) (defBody s_Tally_lets) (defScope s_Tally_lets) .none kV12 dc12 pm12 an12 cd12 ct12), sl12⟩)
    (c12 : W.codeIn K cd12 "Tally.lets" = true)
    (k12 : W.keepIn K (.ref f12) = true)
    (a13 : W.findIn K (.ref CTally) "note" = some (some (.ref f13)))
    (i13 : W.isFn K (.ref f13) = true)
    (l13 : K.lookup f13 = some ⟨oc13, od13, .func (W.fnOf "note" "Tally.note" (defArgs s_Tally_note) (defBody s_Tally_note) (defScope s_Tally_note) .none kV13 dc13 pm13 an13 cd13 ct13), sl13⟩)
    (c13 : W.codeIn K cd13 "Tally.note" = true)
    (k13 : W.keepIn K (.ref f13) = true)
    (vWORTHS : W.nsIn K mainGlobals "WORTHS" = some (some (.int (1000) tkWORTHS)))
    (vNEW_SLOT : W.nsIn K mainGlobals "NEW_SLOT" = some (some (.ref qNEW_SLOT_0)))
    (lkqNEW_SLOT_0 : K.lookup qNEW_SLOT_0 = some ⟨.type "tuple", none, .seq #[.int 0 tNEW_SLOT_1, .int 0 tNEW_SLOT_2] zqNEW_SLOT_0, #[]⟩)
    (zbool : W.nsIn K mainGlobals "bool" = some none)
    (zenumerate : W.nsIn K mainGlobals "enumerate" = some none)
    (zint : W.nsIn K mainGlobals "int" = some none)
    (zisinstance : W.nsIn K mainGlobals "isinstance" = some none)
    (zlen : W.nsIn K mainGlobals "len" = some none)
    (zlist : W.nsIn K mainGlobals "list" = some none)
    (zrange : W.nsIn K mainGlobals "range" = some none)
    (zsorted : W.nsIn K mainGlobals "sorted" = some none)
    (zstr : W.nsIn K mainGlobals "str" = some none)
    (ztuple : W.nsIn K mainGlobals "tuple" = some none)
    : ∃ fd : FuncData, (∀ (s : Shared) (v : Value), BindsTo s fd ⟨[v], []⟩ [("_law_script", v)]) ∧ ∀ base : Heap, K.In base → base.Ns mainGlobals mg → FnOk l.prog w K mg base CX0 42 fa fd ["_law_script"] (spMv K 1 g_law) := by
  have e := hfa.symm.trans (W.mg_of X G a10)
  cases e
  have F0 := fun_mk (st := s_with_more) l0 c0 k0
  have F1 := fun_mk (st := s_in_one) l1 c1 k1
  have F2 := fun_mk (st := s_next_place) l2 c2 k2
  have F3 := fun_mk (st := s__law_begun) l3 c3 k3
  have F4 := fun_mk (st := s__law_take) l4 c4 k4
  have F5 := fun_mk (st := s__law_alike) l5 c5 k5
  have F6 := fun_mk (st := s__law_parted) l6 c6 k6
  have F7 := fun_mk (st := s__law_bent) l7 c7 k7
  have F8 := fun_mk (st := s__law_lets) l8 c8 k8
  have F9 := fun_mk (st := s__law_first) l9 c9 k9
  have F10 := fun_mk (st := s_law) l10 c10 k10
  have F11 := fun_mk (st := s_Tally___init__) l11 c11 k11
  have F12 := fun_mk (st := s_Tally_lets) l12 c12 k12
  have F13 := fun_mk (st := s_Tally_note) l13 c13 k13
  let T : Txt K mg := {
    n_bool := W.mg_none_of X G zbool
    n_enumerate := W.mg_none_of X G zenumerate
    n_int := W.mg_none_of X G zint
    n_isinstance := W.mg_none_of X G zisinstance
    n_len := W.mg_none_of X G zlen
    n_list := W.mg_none_of X G zlist
    n_range := W.mg_none_of X G zrange
    n_sorted := W.mg_none_of X G zsorted
    n_str := W.mg_none_of X G zstr
    n_tuple := W.mg_none_of X G ztuple
    t_WORTHS := tkWORTHS
    c_WORTHS := W.mg_of X G vWORTHS
    a_NEW_SLOT := qNEW_SLOT_0
    c_NEW_SLOT := W.mg_of X G vNEW_SLOT
    q_NEW_SLOT := fun F => (.tup (xs := [.int 0, .int 0]) (.inr ⟨_, _, _, lkqNEW_SLOT_0, rfl, rfl, rfl, by rw [sizeLine_eq]; simp, (.cons ⟨_, rfl⟩ (.cons ⟨_, rfl⟩ .nil))⟩) (.cons (.int _) (.cons (.int _) .nil)))
    C_Tally := CTally
    k_Tally := aCTally
    cl_Tally := ⟨pgTally, hdTally, poTally, saTally⟩
    na_Tally_grown := nTally_grown
    na_Tally_numbers := nTally_numbers
    na_Tally_make := nTally_make
    a_with_more := f0
    d_with_more := _
    F_with_more := F0
    b_with_more := F0.binds (ps := ["worth", "more"]) fun _ _ _ _ _ _ us hl => match us, hl with | [_, _], _ => rfl
    m_with_more := W.mg_of X G a0
    a_in_one := f1
    d_in_one := _
    F_in_one := F1
    b_in_one := F1.binds (ps := ["rows"]) fun _ _ _ _ _ _ us hl => match us, hl with | [_], _ => rfl
    m_in_one := W.mg_of X G a1
    a_next_place := f2
    d_next_place := _
    F_next_place := F2
    b_next_place := F2.binds (ps := ["rows", "begun", "tally", "make"]) fun _ _ _ _ _ _ us hl => match us, hl with | [_, _, _, _], _ => rfl
    m_next_place := W.mg_of X G a2
    a__law_begun := f3
    d__law_begun := _
    F__law_begun := F3
    b__law_begun := F3.binds (ps := ["_law_script"]) fun _ _ _ _ _ _ us hl => match us, hl with | [_], _ => rfl
    m__law_begun := W.mg_of X G a3
    a__law_take := f4
    d__law_take := _
    F__law_take := F4
    b__law_take := F4.binds (ps := ["_law_box", "_law_many"]) fun _ _ _ _ _ _ us hl => match us, hl with | [_, _], _ => rfl
    m__law_take := W.mg_of X G a4
    a__law_alike := f5
    d__law_alike := _
    F__law_alike := F5
    b__law_alike := F5.binds (ps := ["_law_found", "_law_due"]) fun _ _ _ _ _ _ us hl => match us, hl with | [_, _], _ => rfl
    m__law_alike := W.mg_of X G a5
    a__law_parted := f6
    d__law_parted := _
    F__law_parted := F6
    b__law_parted := F6.binds (ps := ["_law_box", "_law_many"]) fun _ _ _ _ _ _ us hl => match us, hl with | [_, _], _ => rfl
    m__law_parted := W.mg_of X G a6
    a__law_bent := f7
    d__law_bent := _
    F__law_bent := F7
    b__law_bent := F7.binds (ps := ["_law_box", "_law_mine", "_law_way"]) fun _ _ _ _ _ _ us hl => match us, hl with | [_, _, _], _ => rfl
    m__law_bent := W.mg_of X G a7
    a__law_lets := f8
    d__law_lets := _
    F__law_lets := F8
    b__law_lets := F8.binds (ps := ["_law_ahead", "_law_deed"]) fun _ _ _ _ _ _ us hl => match us, hl with | [_, _], _ => rfl
    m__law_lets := W.mg_of X G a8
    a__law_first := f9
    d__law_first := _
    F__law_first := F9
    b__law_first := F9.binds (ps := ["_law_rows", "_law_ahead", "_law_known"]) fun _ _ _ _ _ _ us hl => match us, hl with | [_, _, _], _ => rfl
    m__law_first := W.mg_of X G a9
    a_law := fa
    d_law := _
    F_law := F10
    b_law := F10.binds (ps := ["_law_script"]) fun _ _ _ _ _ _ us hl => match us, hl with | [_], _ => rfl
    m_law := W.mg_of X G a10
    a_Tally___init__ := f11
    d_Tally___init__ := _
    F_Tally___init__ := F11
    b_Tally___init__ := F11.binds (ps := ["self"]) fun _ _ _ _ _ _ us hl => match us, hl with | [_], _ => rfl
    M_Tally := ⟨mkTally, a11, i11, kcTally⟩
    g_Tally := W.mg_of X G aCTally
    a_Tally_lets := f12
    d_Tally_lets := _
    F_Tally_lets := F12
    b_Tally_lets := F12.binds (ps := ["self", "deed"]) fun _ _ _ _ _ _ us hl => match us, hl with | [_, _], _ => rfl
    mt_Tally_lets := ⟨a12, i12, k12⟩
    a_Tally_note := f13
    d_Tally_note := _
    F_Tally_note := F13
    b_Tally_note := F13.binds (ps := ["self", "deed"]) fun _ _ _ _ _ _ us hl => match us, hl with | [_, _], _ => rfl
    mt_Tally_note := ⟨a13, i13, k13⟩
  }
  exact ⟨_, fun s v => .of_eq rfl, fun base _ _ => ok_law T⟩
end K17
open PySem PySem.W PyProof.Rows
set_option maxHeartbeats 0 in
theorem PySem.Challenge.cw_drainhouse_k17_in_one_holds : PySem.Challenge.rw_drainhouse_k17_in_one.Holds := by
  w_on; o_law; k_head; (case hw => w_witness2)
  k_fill
  refine L2.walk_of (l := PySem.Challenge.rw_drainhouse_k17_in_one) (n := 63) (k := 42) (x := "_law_script") (CX := fun _ => L2.CX0) (sp := fun w => Mv.spMv _ 1 K17.g_law) rfl (by decide) rfl ⟨rfl, by decide, by decide⟩ (fun w h Y => PySem.W.kIn_of Y) ?F (fun _ _ a ns hl _ hS => K17.law_sp hl hS) (fun _ _ _ _ _ h => h)
  case F =>
    intro w mg fa h KX G hmg
    refine' K17.all_mk KX G hmg ?_ ?_ ?_ ?_ ?_ ?_ ?_ ?_ ?_ ?_ ?_ ?_ ?_ ?_ ?_ ?_ ?_ ?_ ?_ ?_ ?_ ?_ ?_ ?_ ?_ ?_ ?_ ?_ ?_ ?_ ?_ ?_ ?_ ?_ ?_ ?_ ?_ ?_ ?_ ?_ ?_ ?_ ?_ ?_ ?_ ?_ ?_ ?_ ?_ ?_ ?_ ?_ ?_ ?_ ?_ ?_ ?_ ?_ ?_ ?_ ?_ ?_ ?_ ?_ ?_ ?_ ?_ ?_ ?_ ?_ ?_ ?_ ?_ ?_ ?_ ?_ ?_ ?_ ?_ ?_ ?_ ?_
    any_goals first | k_is | k_exc | rfl
