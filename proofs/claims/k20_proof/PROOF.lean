import PyProof.Rows.All
import Wide.All
import OpenK.AllK
import Wide.FinOn
import HandS.EndTab
import KE.KNestM
import HandS.Lambda
import HandS.Exc
import PyProof.DefMake
import HandS.ForMost
import HandS.TupAny
import HandS.SetFor
import HandS.Strs
import HandS.DictComp
import HandS.IsInst
import HandS.SortInts
import HandS.More
import HandS.Conv
import KE.DataMinMax
import HandS.Evl
import HandS.WordsDict
import HandS.ExcOwn
import HandS.TryOnly
import HandS.WordsExc
import PyProof.CollectIter
import HandS.Flow
import HandS.TupMul
import HandS.MethStar
import HandS.Slots
import PyProof.DictUpdate
import PyProof.FactsAll.dict_3
import PyProof.FactsAll.dict_4
import PyProof.FactsAll.subtypes_4
import PyProof.ListOps
import HandS.Deep
import HandS.Style
import HandS.Iter
import HandS.Small
import HandS.TupSets
import PyProof.SumWalkG
import PyProof.Rows.SeqMore
import PyProof.TupleKey
import PyProof.DictRoadsH
import HandS.Dict
import HandS.Call
import HandS.Text
import HandS.RaiseMore
import HandS.Star
import HandS.Wide
import KE.KUnpack
import KE.GoesRaise
import HandS.Comp
import HandS.ExcInit
import HandS.ExcField
import HandS.FStr
import HandS.ClsMeth
import HandS.HotCalls
import HandS.ExcIs
import HandS.Codes
import HandS.HeadHook3
import KE.KExcIs
import PySem.Challenge.RW_drainhouse_k20_texts_refused
set_option Elab.async false
set_option linter.all false
set_option maxRecDepth 100000
set_option maxHeartbeats 4000000
namespace CLX
open PySem PySem.Spec PyProof.Rows L2 LamX
def cb_ (c : Addr) (o : Obj) : HO := .ext fun h => h.get? c = some o
def oe_ (v : V) (o : Obj) : Prop := ∃ u, RelV v u /\ o.data = .cell (some u)
def bS_ (cs : List Addr) (H : Hp) : Hp := fun b => if b ∈ cs then none else H b
def dC_ (cs : List Addr) (H H' : Hp) : Hp := fun b => if b ∈ cs then H b else H' b
theorem dL_ {cs : List Addr} {H : Hp} {b : Addr} (h : b ∈ cs) : bS_ cs H b = none := if_pos h
theorem aM_ {cs : List Addr} {H : Hp} {b : Addr} (h : b ∉ cs) : bS_ cs H b = H b := if_neg h
theorem jA_ {cs : List Addr} {H H' : Hp} {b : Addr} (h : b ∈ cs) : dC_ cs H H' b = H b := if_pos h
theorem bi_ {cs : List Addr} {H H' : Hp} {b : Addr} (h : b ∉ cs) : dC_ cs H H' b = H' b := if_neg h
theorem bT_ {cs : List Addr} {H : Hp} {b : Addr} (h : H b = none) : bS_ cs H b = none := by
 unfold bS_; split
 ·rfl
 ·exact h
def Told (H : Hp) (cs : List Addr) : Prop := ∀ c ∈ cs, ∃ o, H c = some (cb_ c o)
section
variable {P : Program} {w : World} {cs : List Addr} {H H' : Hp} {h h' : Heap} {fs : List Addr}
theorem Told.out (t : Told H cs) {b : Addr} (n : H b = none) : b ∉ cs := fun m => by
 obtain ⟨o, e⟩ := t b m
 rw [n] at e; cases e
theorem Told.not {u : HO} (t : Told H cs) {b : Addr} (e : H b = some u) (ne : ∀ φ, u ≠ .ext φ) : b ∉ cs := fun m => by
 obtain ⟨o, e2⟩ := t b m
 rw [e] at e2; cases e2; exact ne _ rfl
theorem Told.obj (t : Told H cs) (x : HOk P w H h) {c : Addr} (m : c ∈ cs) : ∃ o, H c = some (cb_ c o) /\ h.get? c = some o := by
 obtain ⟨o, e⟩ := t c m
 exact ⟨o, e, (x c _ e).1⟩
theorem im_ (t : Told H cs) (x : HOk P w H h) : HOk P w (bS_ cs H) h := fun b u e => by
 by_cases m : b ∈ cs
 ·rw [dL_ m] at e; cases e
 ·rw [aM_ m] at e
  exact (x b u e).stay (fun _ _ _ q => q) (fun c q => by rw [aM_ (t.not q fun _ z => by cases z)]; exact q) fun c xs q => by rw [aM_ (t.not q fun _ z => by cases z)]; exact q
theorem in_ (t : Told H cs) (x : HOk P w H' h') (n : ∀ c ∈ cs, H' c = none) (k : ∀ c ∈ cs, ∀ o, H c = some (cb_ c o) -> h'.get? c = some o) : HOk P w (dC_ cs H H') h' := fun b u e => by
 have out : ∀ {c : Addr} {u : HO}, H' c = some u -> c ∉ cs := fun {c u} q m => by rw [n c m] at q; cases q
 by_cases m : b ∈ cs
 ·rw [jA_ m] at e
  obtain ⟨o, eo⟩ := t b m
  rw [eo] at e; cases e
  have := k b m o eo
  exact ⟨this, ⟨o, this⟩, fun h1 h2 p st => st o p⟩
 ·rw [bi_ m] at e
  exact (x b u e).stay (fun _ _ _ q => q) (fun c q => by rw [bi_ (out q)]; exact q) fun c xs q => by rw [bi_ (out q)]; exact q
theorem mM_ (t : Told H cs) (x : HOk P w H h) (u : Un fs [] (bS_ cs H) H' h h') : Un fs [] H (dC_ cs H H') h h' where
 keep := fun b o q n hb hx => u.keep b o q (bT_ n) hb hx
 slot := fun b o q n hb hx => u.slot b o q (bT_ n) hb hx
 free := fun b o q n hx => by rw [bi_ (t.out n)]; exact u.free b o q (bT_ n) hx
 there := u.there
 tups := fun b xs q => by
  have m := t.not q fun _ z => by cases z
  rw [bi_ m]; exact u.tups b xs (by rw [aM_ m]; exact q)
 frzs := fun b o z q => by
  have m := t.not q fun _ z => by cases z
  rw [bi_ m]; exact u.frzs b o z (by rw [aM_ m]; exact q)
 tbls := fun b ps q => by
  have m := t.not q fun _ z => by cases z
  rw [bi_ m]; exact u.tbls b ps (by rw [aM_ m]; exact q)
theorem mN_ {B : Heap} (t : Told H cs) (u : UB fs (bS_ cs H) H' h B h') : UB fs H (dC_ cs H H') h B h' where
 keep := fun b o q n hb => u.keep b o q (bT_ n) hb
 slot := u.slot
 free := fun b o q n => by rw [bi_ (t.out n)]; exact u.free b o q (bT_ n)
 there := u.there
 tups := fun b xs q => by
  have m := t.not q fun _ z => by cases z
  rw [bi_ m]; exact u.tups b xs (by rw [aM_ m]; exact q)
 frzs := fun b o z q => by
  have m := t.not q fun _ z => by cases z
  rw [bi_ m]; exact u.frzs b o z (by rw [aM_ m]; exact q)
 tbls := fun b ps q => by
  have m := t.not q fun _ z => by cases z
  rw [bi_ m]; exact u.tbls b ps (by rw [aM_ m]; exact q)
end
theorem jB_ {P : Program} {w : World} {K : PySem.W.Frag} {mg : Str -> Option Value} {base : Heap} {A : Around} {outer : List Env} {s : Shared} {H : Hp} {cs : List Addr} (e0 : Env0 P w K mg base A outer s H) (t : Told H cs) : ∀ c ∈ cs, c ∉ frs outer := fun c m hb => by
 obtain ⟨o, e⟩ := t c m
 rw [e0.frf c hb] at e; cases e
theorem mO_ {P : Program} {w : World} {K : PySem.W.Frag} {mg : Str -> Option Value} {base : Heap} {A : Around} {outer : List Env} {s s' : Shared} {H : Hp} {cs : List Addr} {Q : VK} {u : Value} (e0 : Env0 P w K mg base A outer s H) (t : Told H cs)
  (h : CE outer P w (bS_ cs H) s (fun v H' => (∀ c ∈ cs, H' c = none) -> Q v (dC_ cs H H')) u s') : CE outer P w H s Q u s' := by
 obtain ⟨v, H', os, bare, un, hok, r, q⟩ := h
 have fs := jB_ e0 t
 have nH : ∀ c ∈ cs, H' c = none := fun c m => by
  obtain ⟨o, e, eo⟩ := t.obj e0.hok m
  exact un.free c o eo (dL_ m) (by simp)
 refine ⟨v, dC_ cs H H', os, bare, mM_ t e0.hok un, in_ t hok nH (fun c m o e => ?_), r, q nH⟩
 ·exact un.keep c o (e0.hok c _ e).1 (dL_ m) (fs c m) (by simp)
theorem jC_ {P : Program} {w : World} {K : PySem.W.Frag} {mg : Str -> Option Value} {base : Heap} {A : Around} {outer : List Env} {s s' : Shared} {H : Hp} {cs : List Addr} {E : XK} {u : Value} (e0 : Env0 P w K mg base A outer s H) (t : Told H cs)
  (h : L2.CX P w outer (bS_ cs H) s (fun cls d H' => (∀ c ∈ cs, H' c = none) -> E cls d (dC_ cs H H')) u s') : L2.CX P w outer H s E u s' := by
 obtain ⟨a, B, H', cls, d, ea, fl, hok, ub, na, os, ag, he⟩ := h
 have fs := jB_ e0 t
 have kp : ∀ c ∈ cs, ∀ o, H c = some (cb_ c o) -> B.get? c = some o := fun c m o e => ub.keep c o (e0.hok c _ e).1 (dL_ m) (fs c m)
 have nH : ∀ c ∈ cs, H' c = none := fun c m => by
  obtain ⟨o, e, eo⟩ := t.obj e0.hok m
  exact ub.free c o eo (dL_ m)
 refine ⟨a, B, dC_ cs H H', cls, d, ea, fl, in_ t hok nH kp, mN_ t ub, ?_, os, ag, he nH⟩
 have : a ∉ cs := fun m => by
  obtain ⟨o, e, eo⟩ := t.obj e0.hok m
  have h1 := kp a m o e
  rw [fl.2.1] at h1; cases h1
 rw [bi_ this]; exact na
theorem jD_ {P : Program} {w : World} {K : PySem.W.Frag} {mg : Str -> Option Value} {base : Heap} {A : Around} {outer : List Env} {s : Shared} {H : Hp} {cs : List Addr} (e0 : Env0 P w K mg base A outer s H) (t : Told H cs) : Env0 P w K mg base A outer s (bS_ cs H) :=
 ⟨e0.frames, e0.mod, fun b o e => ⟨(e0.bs b o e).1, bT_ (e0.bs b o e).2⟩, e0.bsz, e0.funs, fun b hb => bT_ (e0.frf b hb), im_ t e0.hok, e0.bare⟩
abbrev of_ (qual : Str) (params : Arguments) (body : Expr) (scope : Scope) (cl : List (Str × Addr)) (pm cdv ct dV : Value) : FuncData :=
 {PySem.W.kla_fn "<lambda>" qual params body scope cl pm cdv ct with defaults := dV }
abbrev f9_ (qual : Str) (params : Arguments) (body : Expr) (scope : Scope) (cl : List (Str × Addr)) (pm : Value) (c' : Addr) (ct dV : Value) : Obj :=
 {cls := .type "function", data := .func (of_ qual params body scope cl pm (.ref c') ct dV) }
section
variable {P : Program} {w : World} {K : PySem.W.Frag} {mg : Str -> Option Value} {base : Heap}
abbrev ga_ (qual : Str) (scope : Scope) (cl : List (Str × Addr)) (L f c' : Addr) : Env := PySem.W.envX qual scope L f (.ref c') cl
def og_ (P : Program) (w : World) (K : PySem.W.Frag) (mg : Str -> Option Value) (base : Heap) (qual : Str) (scope : Scope) (N : List Str) (cl : List (Str × Addr)) (f c' : Addr) (A : Around) (outer : List Env) (s : Shared) (H : Hp) (E : XK) : Cx where
 prog := P
 w := w
 K := K
 mg := mg
 base := base
 A := A.deeper (ga_ qual scope cl s.heap.objs.size f c')
 N := N
 s_0 := s
 H_0 := H
 env := ga_ qual scope cl s.heap.objs.size f c'
 outer := outer
 stack := ga_ qual scope cl s.heap.objs.size f c' :: outer
 ex := []
 fn := fun _ => false
 calm := true
 pn := []
 xe := fun e s' => wpAny (model P w) (A.deeper (ga_ qual scope cl s.heap.objs.size f c')) (leaving (ga_ qual scope cl s.heap.objs.size f c') e) (fun _ s'' => L2.CX P w outer H s E e s'') (fun e' s'' => L2.CX P w outer H s E e' s'') s'
def pY_ (P : Program) (w : World) (K : PySem.W.Frag) (mg : Str -> Option Value) (base : Heap) (k : Nat) (f : Addr) (tl : XK -> Hp -> VK -> Prop) : Prop :=
 ∀ (A : Around) (outer : List Env) (s : Shared) (H : Hp) (Q : VK) (E : XK), Room k A -> Env0 P w K mg base A outer s H -> tl E H Q →
  (∃ (oc : Value) (od : Option Addr) (fd : FuncData) (sl : Array (Option Value)), s.heap.get? f = some ⟨oc, od, .func fd, sl⟩) /\ codeAny (model P w) A (.call (.ref f) ⟨[], []⟩) (CR (L2.CX P w) outer P w H s Q E) s
def l8_ (P : Program) (w : World) (H : Hp) (scope : Scope) (fd : FuncData) : Prop :=
 ∀ s : Shared, HOk P w H s.heap -> ∃ binds : List (Str × Value), BindsTo s fd ⟨[], []⟩ binds /\ ∀ y ∈ binds, scope.names.lookup y.1 = some .local
end
section
variable {X : Cx} {pins : List (Addr × Obj)} {σ : L2.St} {H : Hp} {s : Shared} {k i : Nat} {a x : Str} {p p2 pos : Pos} {E : XK}
theorem jE_ (hN : X.N[i]? = some a) (hv : Vis X.env.scope a) (hr : Room k X.A) (hx : Passes (L2.CX X.prog X.w) X E) (hd : (a == ("__debug__" : Str)) = false := by decide) (hcd : (a == ("__classdict__" : Str)) = false := by decide) :
  PE X (.Call (.Name a p) [] [] p2) (fun σ H Q => ∃ f tl, σ[i]? = some (some (.ref f)) /\ pY_ X.prog X.w X.K X.mg X.base k f tl /\ tl E H Q) := by
 refine ⟨fun pins s σ H Q I h => ?_⟩
 obtain ⟨f, tl, hs, ok, ht⟩ := h
 refine wpAny_Call_Name_kw (thn ((pe_var (pos := p) (i := i) hN hv hd hcd).run pins s σ H (fun v H1 => v = .ref f /\ H1 = H) I ⟨.ref f, hs, rfl, rfl⟩) fun u s1 ⟨v, H1, I1, r1, q1⟩ => ?_)
 obtain ⟨ev, eH⟩ := q1
 subst ev
 rw [eH] at I1
 obtain rfl : u = Value.ref f := r1
 obtain ⟨of, rc⟩ := ok X.A X.stack s1 H Q E hr I1.env0 ht
 refine PySem.W.callWith_F0 of ?_
 refine wpAny_call (codeAny_mono rc fun r s' hq => ?_)
 cases r with
 | error e => exact hx pins σ H s1 e s' I1 hq
 | ok fl =>
  cases fl with
  | ret u => exact I1.after hq
  | next => exact False.elim hq
  | brk => exact False.elim hq
  | cont => exact False.elim hq
def gb_ (cs : List Addr) (os : Addr -> Obj) (H : Hp) : Hp := fun b => if b ∈ cs then some (cb_ b (os b)) else H b
theorem hL_ {cs : List Addr} {os : Addr -> Obj} {H : Hp} {b : Addr} (h : b ∈ cs) : gb_ cs os H b = some (cb_ b (os b)) := if_pos h
theorem be_ {cs : List Addr} {os : Addr -> Obj} {H : Hp} {b : Addr} (h : b ∉ cs) : gb_ cs os H b = H b := if_neg h
theorem lg_ {P : Program} {w : World} {cs : List Addr} {os : Addr -> Obj} {h : Heap} (x : HOk P w H h) (hc : ∀ c ∈ cs, H c = none /\ h.get? c = some (os c)) : HOk P w (gb_ cs os H) h := fun b u e => by
 have out : ∀ {c : Addr} {u : HO}, H c = some u -> c ∉ cs := fun {c u} q m => by rw [(hc c m).1] at q; cases q
 by_cases m : b ∈ cs
 ·rw [hL_ m] at e
  cases e
  exact ⟨(hc b m).2, ⟨_, (hc b m).2⟩, fun h1 h2 p st => st _ p⟩
 ·rw [be_ m] at e
  exact (x b u e).stay (fun _ _ _ q => q) (fun c q => by rw [be_ (out q)]; exact q) fun c xs q => by rw [be_ (out q)]; exact q
theorem jF_ {cs : List Addr} {os : Addr -> Obj} (I : Inv X pins σ H s) (hc : ∀ c ∈ cs, ∃ y, X.env.cells.lookup y = some c) (ho : ∀ c ∈ cs, s.heap.get? c = some (os c)) (hfn : ∀ y, X.fn y = true) : Env0 X.prog X.w X.K X.mg X.base X.A X.stack s (gb_ cs os H) := by
 have e0 := I.env0
 have fr : ∀ c ∈ cs, H c = none := fun c m => by obtain ⟨y, e⟩ := hc c m; exact I.freeC y c e
 have big : ∀ c ∈ cs, X.s_0.heap.objs.size <= c := fun c m => by obtain ⟨y, e⟩ := hc c m; exact I.ok.cab y c (hfn y) e
 refine ⟨e0.frames, e0.mod, fun b o e => ⟨(e0.bs b o e).1, ?_⟩, e0.bsz, e0.funs, fun b hb => ?_, lg_ e0.hok fun c m => ⟨fr c m, ho c m⟩, e0.bare⟩
 ·have : b ∉ cs := fun m => absurd (Nat.lt_of_lt_of_le (Heap.lt_size (I.ok.bs b o e).1) (big b m)) (Nat.lt_irrefl _)
  rw [be_ this]; exact (e0.bs b o e).2
 ·have : b ∉ cs := fun m => by
   rcases List.mem_cons.mp (I.stkSub b hb) with z | z
   ·obtain ⟨y, e⟩ := hc b m
    exact I.cne y b e z
   ·obtain ⟨_, o, h1, _⟩ := I.ok.funs.mem z
    exact absurd (Nat.lt_of_lt_of_le (Heap.lt_size h1) (big b m)) (Nat.lt_irrefl _)
  rw [be_ this]; exact e0.frf b hb
theorem mP_ {P : Program} {w : World} {outer : List Env} {cs : List Addr} {os : Addr -> Obj} {s' : Shared} {Q : VK} {u : Value} (hc : ∀ c ∈ cs, H c = none /\ s.heap.get? c = some (os c)) (hfs : ∀ c ∈ cs, c ∉ frs outer)
  (h : CE outer P w (gb_ cs os H) s (fun v H' => (∀ c ∈ cs, H' c = some (cb_ c (os c))) /\ Q v (bS_ cs H')) u s') : CE outer P w H s Q u s' := by
 obtain ⟨v, H', hos, bare, un, hok, r, st, q⟩ := h
 have out : ∀ {c : Addr} {u : HO}, H c = some u -> c ∉ cs := fun {c u} q m => by rw [(hc c m).1] at q; cases q
 have at_ : ∀ c ∈ cs, s'.heap.get? c = some (os c) := fun c m => (hok c _ (st c m)).1
 refine ⟨v, bS_ cs H', hos, bare, ⟨fun b o q n hb hx => ?_, fun b o q n hb hx => ?_, fun b o q n hx => ?_, un.there, fun b xs q => ?_, fun b o z q => ?_, fun b ps q => ?_⟩, im_ (fun c m => ⟨os c, st c m⟩) hok, r, q⟩
 ·by_cases m : b ∈ cs
  ·rw [(hc b m).2] at q
   rw [at_ b m]; exact q
  ·exact un.keep b o q (by rw [be_ m]; exact n) hb hx
 ·by_cases m : b ∈ cs
  ·exact absurd hb (hfs b m)
  ·exact un.slot b o q (by rw [be_ m]; exact n) hb hx
 ·by_cases m : b ∈ cs
  ·exact dL_ m
  ·exact bT_ (un.free b o q (by rw [be_ m]; exact n) hx)
 ·rw [aM_ (out q)]; exact un.tups b xs (by rw [be_ (out q)]; exact q)
 ·rw [aM_ (out q)]; exact un.frzs b o z (by rw [be_ (out q)]; exact q)
 ·rw [aM_ (out q)]; exact un.tbls b ps (by rw [be_ (out q)]; exact q)
def l9_ (N : List Str) (cells : List (Str × Addr)) (sp : Sp) (t : TA) : TE := fun σ H Q => t σ H fun vs H1 => ∀ os : Addr -> Obj, (∀ c ∈ cells.map (·.2), H1 c = none) →
 (∀ (i : Nat) (y : Str) (v : V) (c : Addr), N[i]? = some y -> σ[i]? = some (some v) -> cells.lookup y = some c -> oe_ v (os c)) →
 sp vs (gb_ (cells.map (·.2)) os H1) (fun v H2 => (∀ c ∈ cells.map (·.2), H2 c = some (cb_ c (os c))) /\ Q v (bS_ (cells.map (·.2)) H2)) (fun _ _ _ => False)
theorem io_ {CX : CXT} {f : Addr} {fd : FuncData} {ps : List Str} {sp : Sp} {e : Expr} {es : List Expr} {t : TA} (F : FnOk X.prog X.w X.K X.mg X.base CX k f fd ps sp) (h0 : ∀ o H s E e s', CX o H s E e s' -> False) (hr : Room k X.A) (hg : Gl X x) (hm : X.mg x = some (.ref f)) (hk : PySem.W.keepIn X.K (.ref f) = true) (hb : Binds X.K fd ps []) (hfn : ∀ y, X.fn y = true)
  (hnd : ∀ q ∈ X.env.cells, X.env.cells.lookup q.1 = some q.2) (hcell : ∀ q ∈ X.env.cells, X.env.scope.names.lookup q.1 = some .cell)
  (ha : PA X (e :: es) t) (hdb : (x == ("__debug__" : Str)) = false := by decide) (he : starEach (e :: es) X.env = (false, eval e X.env) :: starEach es X.env := by rfl) (hpl : (backTo pos (starEach es X.env)).any (·.1) = false := by rfl) :
  PE X (.Call (.Name x p) (e :: es) [] pos) (l9_ X.N X.env.cells sp t) := by
 refine ⟨fun pins s σ H Q I h => ?_⟩
 refine wpAny_Call_Name_kw (ld_glob I hg hm ?_ hdb)
 refine PySem.W.callWith_K (h₀ := X.base) I.ok.mod.kin hk (thn (ha.run pos pins s σ H _ I h) fun us s1 ⟨vs, H1, I1, r, q⟩ => ⟨I1.kIn, ?_⟩) he hpl
 let cs := X.env.cells.map (·.2)
 have hc : ∀ c ∈ cs, ∃ y, X.env.cells.lookup y = some c := fun c m => by
  obtain ⟨p, hp, e⟩ := List.mem_map.mp m
  exact ⟨p.1, by rw [hnd p hp, e]⟩
 let os : Addr -> Obj := fun c => (s1.heap.get? c).getD { cls := .none, data := .plain }
 have ho : ∀ c ∈ cs, s1.heap.get? c = some (os c) := fun c m => by
  obtain ⟨y, e⟩ := hc c m
  obtain ⟨v, o, eo, _⟩ := I1.cell y c e
  show _ = some ((s1.heap.get? c).getD _)
  rw [eo]; rfl
 have hv : ∀ (i : Nat) (y : Str) (v : V) (c : Addr), X.N[i]? = some y -> σ[i]? = some (some v) -> X.env.cells.lookup y = some c -> oe_ v (os c) := fun i y v c h1 h2 h3 => by
  obtain ⟨m, _, hl⟩ := I1.loc
  have kc := hcell _ (PySem.mem_of_lookup h3)
  obtain ⟨u, ru, l⟩ := hl i y v h1 h2 (.inr (.inl kc))
  rcases l with ⟨k1, _⟩ | ⟨_, c2, h4, o, eo, hd⟩
  ·have k1 : X.env.scope.names.lookup y = some .local := k1
   rw [show X.env.scope.names.lookup y = some .cell from kc] at k1; cases k1
  ·rw [h3] at h4; cases h4
   refine ⟨u, ru, ?_⟩
   show ((s1.heap.get? c).getD _).data = _
   rw [eo]; exact hd
 have q' := q os (fun c m => by obtain ⟨y, e⟩ := hc c m; exact I1.freeC y c e) hv
 have hl : us.length = ps.length := by rw [<- r.length]; exact F.len _ _ _ _ q'
 have e0 := jF_ (os := os) I1 hc ho hfn
 have hb2 := hb s1 us I1.kIn (by rw [List.append_nil]; exact hl)
 rw [List.append_nil] at hb2
 refine wpAny_call (codeAny_mono (F.run X.A X.stack s1 _ ⟨us, []⟩ us vs _ _ hr e0 hb2 r q') fun r s' hq => ?_)
 cases r with
 | error e =>
  exact (h0 _ _ _ _ _ _ hq).elim
 | ok fl =>
  cases fl with
  | ret u => exact I1.after (mP_ (fun c m => ⟨by obtain ⟨y, e⟩ := hc c m; exact I1.freeC y c e, ho c m⟩) (fun c m hb => by
    have := e0.frf c hb
    rw [hL_ m] at this; cases this) hq)
  | next => exact False.elim hq
  | brk => exact False.elim hq
  | cont => exact False.elim hq
end
section
variable {M : Model} {A : Around} {E : Value -> Shared -> Prop} {s : Shared} {name qual : Str} {params : Arguments} {body : Expr} {scope : Scope} {env : Env} {pos : Pos} {fl : Nat} {mg : Str -> Option Value} {clos : List (Str × Addr)} {Q : Value -> Shared -> Prop} {dV : Value} {bm : Addr} {ob : Obj}
def Kp (h h' : Heap) : Prop := ∀ b o, h.get? b = some o -> h'.get? b = some o
theorem jG_ {R : Heap -> Value -> Heap -> Prop} (hcl : closureFor scope env = pure clos) (hge0 : env.globals = mainGlobals) (hbm : mg "__builtins__" = some (.ref bm)) (hne : bm ≠ builtinsNs) (c1 : ob.cls = .type "module") (c2 : ob.dict = some builtinsNs) (c3 : ob.data = .plain)
  (hfc : ∀ (h1 : Heap) (Q' : Value -> Shared -> Prop), Kp s.heap h1 -> s.heap.objs.size <= h1.objs.size -> (∀ cv h' tk, R h1 cv h' -> Q' cv { s with heap := h', toks := tk }) -> wpAny M A (functionCode env pos fl name qual params scope (.expr body)) Q' E { s with heap := h1 })
  (hgl : ∀ h1 cv h', Kp s.heap h1 -> R h1 cv h' -> h'.Ns mainGlobals mg /\ h'.get? bm = some ob)
  (h : ∀ (ct : Value) (h1 : Heap) (cv : Value) (h' : Heap) (tk : Tok), Kp s.heap h1 -> s.heap.objs.size <= h1.objs.size -> R h1 cv h' →
   Q (.ref h'.objs.size) { s with heap := h'.push { cls := .type "function", data := .func { PySem.W.kla_fn name qual params body scope clos ((mg "__name__").getD .none) cv ct with defaults := dV } }, toks := tk }) :
  wpAny M A (makeTail name qual params (.expr body) scope env dV .none none pos fl) Q E s := by
 unfold makeTail
 rw [hcl, hge0]
 refine wpAny_bind (wpAny_pure ?_)
 have fin : ∀ (ct : Value) (h1 : Heap), Kp s.heap h1 -> s.heap.objs.size <= h1.objs.size -> wpAny M A (do
   let code <- functionCode env pos fl name qual params scope (.expr body)
   let bs <- builtinsFor mainGlobals env.builtins
   let pm := (<- nsGet mainGlobals "__name__").getD .none
   let doc <- pure Value.none
   newObj (.type "function") (.func { name, qualname := qual, params, body := .expr body, scope, globals := mainGlobals, closure := clos, closureTuple := ct, code, builtins := bs, defaults := dV, kwdefaults := .none, annotations := none, pyModule := pm, doc })) Q E { s with heap := h1 } := fun ct h1 k1 z1 => by
  refine wpAny_bind (hfc h1 _ k1 z1 fun cv h' tk r => ?_)
  obtain ⟨hg', hbo'⟩ := hgl h1 cv h' k1 r
  refine wpAny_bind (wpAny_builtinsFor hg' hbm hne hbo' c1 c2 c3 ?_)
  refine wpAny_bind (wpAny_nsGet hg' ?_)
  exact wpAny_bind (wpAny_pure (wpAny_newObj_type (h ct h1 cv h' tk k1 z1 r) (by size_fits)))
 cases clos with
 | nil =>
  simp only [List.isEmpty_nil, if_true]
  exact wpAny_bind (wpAny_pure (fin .none s.heap (fun _ _ e => e) (Nat.le_refl _)))
 | cons q r =>
  simp only [List.isEmpty_cons, Bool.false_eq_true, if_false]
  exact wpAny_bind (wpAny_newTextTuple (fin _ _ (fun b o e => Heap.get?_push_of_some _ e) (by rw [Heap.size_push]; omega)))
end
section
variable {X : Cx} {pins : List (Addr × Obj)} {σ : L2.St} {H : Hp} {s : Shared}
def IsLam (H : Hp) (qual : Str) (params : Arguments) (body : Expr) (scope : Scope) (cl : List (Str × Addr)) (dV : Value) (f : Addr) : Prop :=
 ∃ (c' : Addr) (pm ct : Value), H f = some (cb_ f (f9_ qual params body scope cl pm c' ct dV)) /\ H c' = some (CodeO c' qual)
theorem IsLam.mono {H H' : Hp} {qual : Str} {params : Arguments} {body : Expr} {scope : Scope} {cl : List (Str × Addr)} {dV : Value} {f : Addr} (k : ∀ b o, H b = some o -> H' b = some o) (h : IsLam H qual params body scope cl dV f) : IsLam H' qual params body scope cl dV f := by
 obtain ⟨c', pm, ct, h1, h2⟩ := h
 exact ⟨c', pm, ct, k _ _ h1, k _ _ h2⟩
def TabG (G H : Hp) (P : Addr) (q : Str) : Prop := ∃ ps : Array Value, H P = some (.tbl ps) /\ TriplesOk ps.toList /\ ∀ (pos : Pos) (cv : Value), codeAmong pos ps.toList = some cv -> ∃ c, cv = .ref c /\ G c = some (CodeO c q)
structure Made (P : Addr) (q : Str) (G H G1 H1 : Hp) : Prop where
 keep : ∀ b o, H b = some o -> b ≠ P -> H1 b = some o
 g : ∀ b o, G b = some o -> G1 b = some o
 sub : ∀ b o, G1 b = some o -> H1 b = some o
 new : ∀ b, G1 b ≠ none -> G b = none -> H b = none
 tab : TabG G1 H1 P q
theorem TabG.grow {G G1 H H1 : Hp} {P : Addr} {q : Str} (t : TabG G H P q) (g : ∀ b o, G b = some o -> G1 b = some o) (k : ∀ ps, H P = some (.tbl ps) -> H1 P = some (.tbl ps)) : TabG G1 H1 P q := by
 obtain ⟨ps, h1, h2, h3⟩ := t
 exact ⟨ps, k _ h1, h2, fun pos cv hc => let ⟨c, e1, e2⟩ := h3 pos cv hc; ⟨c, e1, g _ _ e2⟩⟩
theorem jH_ {G : Hp} {c P : Addr} {params : Arguments} {body : Expr} {scope : Scope} {pos : Pos} {E : Value -> Shared -> Prop} {Q : Value -> Shared -> Prop} {dV : Value} (I : Inv X pins σ H s) (TB : TabB X.base X.mg c P) (hcode : X.env.code = .ref c)
  (hT : TabG G H P (X.env.qual ++ "<lambda>")) (hG : ∀ b o, G b = some o -> H b = some o) (GP : G P = none) (hfree : ∀ y ∈ scope.names, y.2 = .free -> ∃ c, X.env.cells.lookup y.1 = some c)
  (h : ∀ (f : Addr) (G1 H1 : Hp) (s' : Shared), Inv X pins σ H1 s' -> Made P (X.env.qual ++ "<lambda>") G H G1 H1 -> IsLam G1 (X.env.qual ++ "<lambda>") params body scope (cloFrom X.env.cells scope.names []) dV f -> Q (.ref f) s') :
  wpAny (model X.prog X.w) X.A (makeTail "<lambda>" (X.env.qual ++ "<lambda>") params (.expr body) scope X.env dV .none none pos pos.line) Q E s := by
 obtain ⟨ps, hP, ht, ha⟩ := hT
 have bP : s.heap.BuiltinsAt X.mg P := TB.bm.keeps I.bk
 have C : PySem.W.CodeHd s.heap c P := TB.code.keeps I.bk
 have hg : s.heap.Ns mainGlobals X.mg := I.mod.glob.keeps I.bk
 have hP' : s.heap.get? P = some { cls := .none, data := .fields ps } := I.hok P _ hP
 obtain ⟨bm, ob, hbm, hne0, _, hneP, hbo, c1, c2, c3⟩ := bP
 have gn : ∀ {b : Addr}, H b = none -> G b = none := fun {b} e => by
  cases q : G b with
  | none => rfl
  | some o => rw [hG b o q] at e; cases e
 have gne : ∀ {b d : Addr} {o : HO}, G b = some o -> H d = none -> b ≠ d := fun {b d o} e n z => by rw [z, gn n] at e; cases e
 cases hc : codeAmong pos ps.toList with
 | none =>
  refine jG_ (R := fun h1 cv h' => Kp s.heap h1 /\ s.heap.objs.size <= h1.objs.size /\ ∃ c', cv = .ref c' /\ Heap.ExtBut P h1 h' /\ h1.objs.size <= c' /\ c' < h'.objs.size /\ h'.CodeRec (.ref c') (X.env.qual ++ "<lambda>") /\ h'.get? P = some (PySem.W.tabObj (ps ++ #[rawInt pos.line, rawInt pos.col, .ref c'])))
   (closure_ok hfree) I.ok.glob hbm hne0 c1 c2 c3 (fun h1 Q' k1 z1 hq => ?_) (fun h1 cv h' k1 r => ?_) fun ct h1 cv h' tk k1 z1 r => ?_
  ·refine wpAny_functionCodeX (P := P) (ps := ps) hcode ((C.keeps k1).code (k1 _ _ hP') ht) ((C.keeps k1).tab (k1 _ _ hP')) hc fun c' h' tk hx hge hlt _ hrec htb _ => ?_
   exact hq _ h' tk ⟨k1, z1, c', rfl, hx, hge, hlt, hrec, htb.2⟩
  ·obtain ⟨_, _, c', rfl, hx, _, _, _, _⟩ := r
   exact ⟨(hg.keeps k1).extBut hx TB.gP, hx _ _ hneP (k1 _ _ hbo)⟩
  ·obtain ⟨_, _, c', rfl, hx, hge, hlt, hrec, htb⟩ := r
   obtain ⟨c2', oc, vs, t, e2, hoc, hd, hv⟩ := hrec
   cases e2
   have hge' : s.heap.objs.size <= c' := Nat.le_trans z1 hge
   have hsz : s.heap.objs.size <= h'.objs.size := Nat.le_trans hge' (Nat.le_of_lt hlt)
   have nC : H c' = none := I.hok.fresh hge'
   have nF : H h'.objs.size = none := I.hok.fresh hsz
   have nFc : h'.objs.size ≠ c' := Nat.ne_of_gt hlt
   have I1 := inv_table (t' := tk) (more := #[rawInt pos.line, rawInt pos.col, .ref c']) (h' := h') I hP (fun b o hb e => hx b o hb (k1 _ _ e)) htb hge' ⟨oc, vs, t, hoc, hd, hv⟩
   have I2 := I1.laid (a := h'.objs.size) (o := cb_ h'.objs.size (f9_ (X.env.qual ++ "<lambda>") params body scope (cloFrom X.env.cells scope.names []) ((X.mg "__name__").getD .none) c' ct dV)) (t' := tk)
    (h' := h'.push (f9_ (X.env.qual ++ "<lambda>") params body scope (cloFrom X.env.cells scope.names []) ((X.mg "__name__").getD .none) c' ct dV)) (fun b o e => Heap.get?_push_of_some _ e) (Nat.le_refl _) ⟨Heap.get?_push_size _ rfl, ⟨_, Heap.get?_push_size _ rfl⟩, fun h1 h2 p st => st _ p⟩
   have eL : (ps ++ #[rawInt pos.line, rawInt pos.col, .ref c']).toList = ps.toList ++ [rawInt pos.line, rawInt pos.col, .ref c'] := by simp
   refine h h'.objs.size (upd (upd G c' (CodeO c' (X.env.qual ++ "<lambda>"))) h'.objs.size (cb_ h'.objs.size (f9_ (X.env.qual ++ "<lambda>") params body scope (cloFrom X.env.cells scope.names []) ((X.mg "__name__").getD .none) c' ct dV))) _ _ I2
    ⟨fun b o e n => by rw [upd_ne (ne_of_none e nF), upd_ne (ne_of_none e nC), upd_ne n]; exact e, fun b o e => by rw [upd_ne (gne e nF), upd_ne (gne e nC)]; exact e, fun b o e => ?_, fun b e n => ?_, ?_⟩ ⟨c', _, ct, upd_same, by rw [upd_ne (Ne.symm nFc), upd_same]⟩
   ·by_cases h1 : b = h'.objs.size
    ·subst h1; rw [upd_same] at e ⊢; exact e
    ·rw [upd_ne h1] at e ⊢
     by_cases h2 : b = c'
     ·subst h2; rw [upd_same] at e ⊢; exact e
     ·rw [upd_ne h2] at e ⊢
      rw [upd_ne (fun z => by rw [z, GP] at e; cases e)]
      exact hG b o e
   ·by_cases h1 : b = h'.objs.size
    ·rw [h1]; exact nF
    ·rw [upd_ne h1] at e
     by_cases h2 : b = c'
     ·rw [h2]; exact nC
     ·rw [upd_ne h2] at e; exact absurd n e
   ·refine ⟨_, by rw [upd_ne (ne_of_none hP nF), upd_ne (ne_of_none hP nC), upd_same], by rw [eL]; exact PySem.TriplesOk_snoc _ _ _ _ ht, fun p' cv hcv => ?_⟩
    rw [eL] at hcv
    rcases among_app _ ht hcv with z | z
    ·obtain ⟨c0, e1, e2⟩ := ha p' cv z
     exact ⟨c0, e1, by rw [upd_ne (gne e2 nF), upd_ne (gne e2 nC)]; exact e2⟩
    ·exact ⟨c', z, by rw [upd_ne (Ne.symm nFc), upd_same]⟩
 | some cv0 =>
  obtain ⟨c', e, hco⟩ := ha pos cv0 hc
  subst e
  refine jG_ (R := fun h1 cv h' => Kp s.heap h1 /\ s.heap.objs.size <= h1.objs.size /\ cv = .ref c' /\ h' = h1)
   (closure_ok hfree) I.ok.glob hbm hne0 c1 c2 c3 (fun h1 Q' k1 z1 hq => ?_) (fun h1 cv h' k1 r => ?_) fun ct h1 cv h' tk k1 z1 r => ?_
  ·exact wpAny_functionCode_hit (P := P) (ps := ps) hcode ((C.keeps k1).code (k1 _ _ hP') ht) hc (hq _ h1 s.toks ⟨k1, z1, rfl, rfl⟩)
  ·obtain ⟨_, _, _, rfl⟩ := r
   exact ⟨hg.keeps k1, k1 _ _ hbo⟩
  ·obtain ⟨_, _, rfl, rfl⟩ := r
   have nf : H h'.objs.size = none := I.hok.fresh z1
   have I1 : Inv X pins σ H { s with heap := h', toks := tk } := I.kept k1
   have I2 := I1.laid (a := h'.objs.size) (o := cb_ h'.objs.size (f9_ (X.env.qual ++ "<lambda>") params body scope (cloFrom X.env.cells scope.names []) ((X.mg "__name__").getD .none) c' ct dV)) (t' := tk)
    (h' := h'.push (f9_ (X.env.qual ++ "<lambda>") params body scope (cloFrom X.env.cells scope.names []) ((X.mg "__name__").getD .none) c' ct dV)) (fun b o e => Heap.get?_push_of_some _ e) (Nat.le_refl _) ⟨Heap.get?_push_size _ rfl, ⟨_, Heap.get?_push_size _ rfl⟩, fun h1 h2 p st => st _ p⟩
   have up : ∀ {J : Hp} {b : Addr} {o : HO} {u : HO}, b ≠ h'.objs.size -> J b = some o -> (upd J h'.objs.size u) b = some o := fun {J b o u} n e => by rw [upd_ne n]; exact e
   refine h h'.objs.size (upd G h'.objs.size (cb_ h'.objs.size (f9_ (X.env.qual ++ "<lambda>") params body scope (cloFrom X.env.cells scope.names []) ((X.mg "__name__").getD .none) c' ct dV))) _ _ I2
    ⟨fun b o e _ => up (ne_of_none e nf) e, fun b o e => up (gne e nf) e, fun b o e => ?_, fun b e n => ?_, ps, up (ne_of_none hP nf) hP, ht, fun p' cv hcv => ?_⟩ ⟨c', _, ct, upd_same, up (gne hco nf) hco⟩
   ·by_cases h1 : b = h'.objs.size
    ·subst h1; rw [upd_same] at e ⊢; exact e
    ·rw [upd_ne h1] at e ⊢; exact hG b o e
   ·by_cases h1 : b = h'.objs.size
    ·rw [h1]; exact nf
    ·rw [upd_ne h1] at e; exact absurd n e
   ·obtain ⟨c0, e1, e2⟩ := ha p' cv hcv
    exact ⟨c0, e1, up (gne e2 nf) e2⟩
end
def DflOk (H : Hp) (params : Arguments) (dV : Value) : Prop := (params.defaults = [] /\ dV = .none) ∨ (params.defaults ≠ [] /\ ∃ (d : Addr) (n : Int), dV = .ref d /\ H d = some (.tup [.int n]))
theorem DflOk.mono {H H' : Hp} {params : Arguments} {dV : Value} (k : ∀ b o, H b = some o -> H' b = some o) (h : DflOk H params dV) : DflOk H' params dV := by
 rcases h with h | ⟨n, d, m, e, q⟩
 ·exact .inl h
 ·exact .inr ⟨n, d, m, e, k _ _ q⟩
def IsLm (H : Hp) (qual : Str) (params : Arguments) (body : Expr) (scope : Scope) (cl : List (Str × Addr)) (f : Addr) : Prop := ∃ dV, IsLam H qual params body scope cl dV f /\ DflOk H params dV
theorem IsLm.mono {H H' : Hp} {qual : Str} {params : Arguments} {body : Expr} {scope : Scope} {cl : List (Str × Addr)} {f : Addr} (k : ∀ b o, H b = some o -> H' b = some o) (h : IsLm H qual params body scope cl f) : IsLm H' qual params body scope cl f := by
 obtain ⟨dV, h1, h2⟩ := h
 exact ⟨dV, h1.mono k, h2.mono k⟩
structure LamBind (params : Arguments) (scope : Scope) : Prop where
 none : params.defaults = [] -> ∀ (q : Str) (body : Expr) (cl : List (Str × Addr)) (pm cv ct : Value), bindArgs (of_ q params body scope cl pm cv ct .none) ⟨[], []⟩ = pure []
 one : params.defaults ≠ [] -> ∃ x, scope.names.lookup x = some .local /\ ∀ (q : Str) (body : Expr) (cl : List (Str × Addr)) (pm cv ct : Value) (d : Addr), ∃ k, bindArgs (of_ q params body scope cl pm cv ct (.ref d)) ⟨[], []⟩ = seqItems? (.ref d) >>= k /\ ∀ v, k (some #[v]) = pure [(x, v)]
theorem LamBind.ok {P : Program} {w : World} {H : Hp} {params : Arguments} {scope : Scope} {dV : Value} {q : Str} {body : Expr} {cl : List (Str × Addr)} {pm cv ct : Value} (L : LamBind params scope) (D : DflOk H params dV) : l8_ P w H scope (of_ q params body scope cl pm cv ct dV) := by
 intro s hok
 rcases D with ⟨h, rfl⟩ | ⟨h, d, n, rfl, hd⟩
 ·exact ⟨[], .of_eq (L.none h q body cl pm cv ct), fun y m => nomatch m⟩
 ·obtain ⟨x, hx, hk⟩ := L.one h
  obtain ⟨k, e, ek⟩ := hk q body cl pm cv ct d
  obtain ⟨_, its, r, ob, eo, _, m, ed⟩ := hok d _ hd
  obtain ⟨u, rfl, t, rfl⟩ := vals1 r
  refine ⟨[(x, .int n t)], fun M A E Q hq => ?_, fun y m => by rw [List.mem_singleton.mp m]; exact hx⟩
  rw [e]
  refine wpAny_bind (wpAny_seqItems eo ed ?_)
  rw [ek]
  exact wpAny_pure hq
section
variable {X : Cx}
def tLm (P : Addr) (qual : Str) (params : Arguments) (body : Expr) (scope : Scope) (cl : List (Str × Addr)) : TE := fun _ H Q => ∃ G, TabG G H P qual /\ (∀ b o, G b = some o -> H b = some o) /\ G P = none ∧
 ∀ (f : Addr) (G1 H1 : Hp), Made P qual G H G1 H1 -> IsLm G1 qual params body scope cl f -> Q (.ref f) H1
inductive LamDef (X : Cx) (params : Arguments) : Prop
 | none (h : defaultsOf params X.env = ([], [])) (h2 : params.defaults = [])
 | one {e : Expr} {n : Int} (h : defaultsOf params X.env = ([eval e X.env], [])) (h2 : params.defaults ≠ []) (he : PE X e (tC (.int n)))
theorem oh_ {c P : Addr} {params : Arguments} {body : Expr} {scope : Scope} {pos : Pos} (TB : TabB X.base X.mg c P) (hcode : X.env.code = .ref c)
  (hfree : ∀ y ∈ scope.names, y.2 = .free -> ∃ c, X.env.cells.lookup y.1 = some c) (D : LamDef X params) : PE X (.Lambda params body scope pos) (tLm P (X.env.qual ++ "<lambda>") params body scope (cloFrom X.env.cells scope.names [])) := by
 refine ⟨fun pins s σ H Q I h => ?_⟩
 obtain ⟨G, hT, hG, GP, h⟩ := h
 cases D with
 | none hd h2 =>
  refine PySem.W.kla_eval hd ?_
  rw [makeFunction_eq]
  simp only [List.zip_nil_right, List.filterMap_nil, List.isEmpty_nil, if_true, pure_bind]
  exact jH_ I TB hcode hT hG GP hfree fun f G1 H1 s' I1 m il => ⟨.ref f, H1, I1, rfl, h f G1 H1 m ⟨.none, il, .inl ⟨h2, rfl⟩⟩⟩
 | @one e n hd h2 he =>
  rw [arm_eval_Lambda, hd]
  show wpAny _ _ (do let dv <- evalAll [eval e X.env]; let kdv <- holding dv (evalAllOpt []); makeFunction "<lambda>" (X.env.qual ++ "<lambda>") params (.expr body) scope X.env dv kdv [] pos pos.line) _ _ s
  refine wpAny_bind ?_
  show wpAny _ _ (do let v <- eval e X.env; return v :: (<- holding [v] (evalAll []))) _ _ s
  refine wpAny_bind (thn (he.run pins s σ H (fun v H1 => v = .int n /\ H1 = H) I ⟨rfl, rfl⟩) fun u s1 ⟨v, H1, I1, r1, q1⟩ => ?_)
  obtain ⟨rfl, eH⟩ := q1
  rw [eH] at I1
  refine wpAny_bind (wpAny_holding (wpAny_pure (wpAny_pure ?_)))
  refine wpAny_bind (wpAny_holding (wpAny_pure ?_))
  rw [makeFunction_eq]
  simp only [List.zip_nil_right, List.filterMap_nil, List.isEmpty_nil, List.isEmpty_cons, Bool.false_eq_true, if_false, if_true, pure_bind]
  refine wpAny_bind (wpAny_newTextTuple ?_)
  have nd : H s1.heap.objs.size = none := I1.hok.fresh (Nat.le_refl _)
  have ng : G s1.heap.objs.size = none := by
   cases q : G s1.heap.objs.size with
   | none => rfl
   | some o => rw [hG _ o q] at nd; cases nd
  have I2 := I1.laid (a := s1.heap.objs.size) (o := .tup [.int n]) (t' := s1.toks) (h' := s1.heap.push { cls := .type "tuple", data := .seq [u].toArray }) (fun b o e => Heap.get?_push_of_some _ e) (Nat.le_refl _)
   ⟨(by show 1 <= sizeLine; decide), [u], .cons r1 .nil, _, Heap.get?_push_size _ rfl, rfl, _, rfl⟩
  have up : ∀ {J : Hp} {b : Addr} {o : HO}, J s1.heap.objs.size = none -> J b = some o -> (upd J s1.heap.objs.size (.tup [.int n])) b = some o := fun {J b o} n e => by rw [upd_ne (ne_of_none e n)]; exact e
  obtain ⟨ps, hP, _, _⟩ := id hT
  have nP : P ≠ s1.heap.objs.size := ne_of_none hP nd
  exact jH_ (G := upd G s1.heap.objs.size (.tup [.int n])) I2 TB hcode (hT.grow (fun b o e => up ng e) fun ps e => up nd e) (fun b o e => by
    by_cases hb : b = s1.heap.objs.size
    ·subst hb; rw [upd_same] at e ⊢; exact e
    ·rw [upd_ne hb] at e ⊢; exact hG b o e) (by rw [upd_ne nP]; exact GP) hfree fun f G1 H1 s' I3 m il =>
   ⟨.ref f, H1, I3, rfl, h f G1 H1 ⟨fun b o e n => m.keep b o (up nd e) n, fun b o e => m.g b o (up ng e), m.sub, fun b e n => by
    by_cases hb : b = s1.heap.objs.size
    ·rw [hb]; exact nd
    ·have := m.new b e (by rw [upd_ne hb]; exact n)
     rw [upd_ne hb] at this; exact this, m.tab⟩ ⟨_, il, .inr ⟨h2, s1.heap.objs.size, n, rfl, m.g _ _ upd_same⟩⟩⟩
end
end CLX
namespace L2
open PySem PySem.Spec PyProof.Rows
end L2
set_option maxHeartbeats 6400000
namespace PySem
end PySem
namespace L2
open PySem PySem.Spec PyProof.Rows
end L2
namespace L2
open PySem PySem.Spec PyProof.Rows PySem.W PySem.SeqAt
end L2
namespace PySem
open PyProof.Rows
end PySem
namespace L2
open PySem PySem.Spec PyProof.Rows
end L2
set_option maxHeartbeats 4000000
namespace L2
open PySem PySem.Spec PyProof.Rows
section
variable {X : Cx}
def pZ_ (K : PySem.W.Frag) : List V -> Hp -> VK -> Prop := fun vs H Q => ∃ (l : Addr) (ys : List V), vs = [V.ref l] /\ SqL K H l ys /\ ∀ (q : Addr) (ob : Obj), H q = none -> ob.dict = none -> Q (.ref q) (upd H q (.frz ob (.tup ys)))
theorem mQ_ : CallR X (.type "tuple") (pZ_ X.K) := by
 intro pins s σ H vs us Q I r h
 obtain ⟨l, ys, rfl, hl, k⟩ := h
 rw [Vals.ref1 r]
 obtain ⟨its, rv, il, zl⟩ := I.list hl
 have n := rv.length
 refine call_tuple_list il.isList (fun h2 kp => ?_) (by simp only [List.size_toArray]; omega)
 have J : Inv X pins σ H { s with heap := h2 } := I.kept (t' := s.toks) kp
 have e := Heap.get?_push_size h2 (o := { cls := .type "tuple", data := .seq its.toArray }) rfl
 exact ⟨.ref h2.objs.size, upd H h2.objs.size (.frz { cls := .type "tuple", data := .seq its.toArray } (.tup ys)), J.laid (t' := s.toks) (fun _ _ w => Heap.get?_push_of_some _ w) (Nat.le_refl _) ⟨e, zl, its, rv, IsTup.new _ _⟩, rfl,
  k _ _ (J.hok.fresh (Nat.le_refl _)) rfl⟩
def TupQ (K : PySem.W.Frag) (H : Hp) (a : Addr) (xs : List V) : Prop := (∃ ob : Obj, H a = some (.frz ob (.tup xs)) /\ ob.dict = none) ∨
 ∃ (o : Obj) (its : Array Value) (n : Nat), K.lookup a = some o /\ o.cls = .type "tuple" /\ o.dict = none /\ o.data = .seq its n /\ its.size <= sizeLine /\ Vals xs its.toList
theorem TupQ.sq {H : Hp} {a : Addr} {xs : List V} {K : PySem.W.Frag} (t : TupQ K H a xs) : SqT K H a xs := by
 rcases t with ⟨_, e, _⟩ | ⟨o, its, n, h1, h2, _, h3, h4, h5⟩
 ·exact .inl (.inr ⟨_, e⟩)
 ·exact .inr ⟨o, its, n, h1, h2, h3, h4, h5⟩
theorem TupQ.mono {F F' : Hp} {a : Addr} {xs : List V} {K : PySem.W.Frag} (k : ∀ b o, F b = some o -> F' b = some o) (h : TupQ K F a xs) : TupQ K F' a xs := h.imp (fun ⟨ob, e, d⟩ => ⟨ob, k _ _ e, d⟩) id
def jI_ (K : PySem.W.Frag) : List V -> Hp -> VK -> Prop := fun vs H Q => ∃ (l : Addr) (ys : List V), vs = [V.ref l] /\ ((SqL K H l ys /\ ∀ (q : Addr) (ob : Obj), H q = none -> ob.dict = none -> Q (.ref q) (upd H q (.frz ob (.tup ys)))) ∨ (SqT K H l ys /\ Q (.ref l) H))
theorem hM_ : CallR X (.type "tuple") (jI_ X.K) := by
 intro pins s σ H vs us Q I r h
 obtain ⟨l, ys, rfl, h | ⟨h1, h2⟩⟩ := h
 ·exact mQ_ pins s σ H _ us Q I r ⟨l, ys, rfl, h.1, h.2⟩
 ·exact call_tupleT pins s σ H _ us Q I r ⟨l, ys, rfl, h1, h2⟩
def mR_ (K : PySem.W.Frag) : R2 := fun x y H Q => ∃ a b xs ys, x = .ref a /\ y = .ref b /\ SqT K H a xs /\ SqT K H b ys /\ xs.length + ys.length <= sizeLine ∧
 (xs = [] -> Q (.ref b) H) /\ (xs ≠ [] -> ys = [] -> Q (.ref a) H) /\ (xs ≠ [] -> ys ≠ [] -> ∀ (p : Addr) (ob : Obj), H p = none -> ob.dict = none -> Q (.ref p) (upd H p (.frz ob (.tup (xs ++ ys)))))
theorem mS_ : OpR X (binaryOp .Add) (mR_ X.K) := by
 intro pins s σ H x y v u Q I rx ry h
 obtain ⟨a, b, xs, ys, rfl, rfl, ha, hb, hz, q0, q1, q2⟩ := h
 cases rx
 cases ry
 obtain ⟨its, r1, p1, _⟩ := I.tuple ha
 obtain ⟨its2, r2, p2, _⟩ := I.tuple hb
 by_cases hx : xs = []
 ·subst hx
  cases r1
  exact cat_tup0 p1 p2 ⟨.ref b, H, I, rfl, q0 rfl⟩
 ·refine HT.cat_tup p1 p2 (fun z => hx (r1.nil_iff.mp z)) (fun z => ⟨.ref a, H, I, rfl, q1 hx (r2.nil_iff.mp z)⟩) (fun z => ?_) (by rw [<- r1.length, <- r2.length]; exact hz)
  exact ⟨.ref s.heap.objs.size, upd H s.heap.objs.size (.frz _ (.tup (xs ++ ys))), I.laid (t' := s.toks) (fun b ob q => Heap.get?_push_of_some _ q) (Nat.le_refl _) ⟨Heap.get?_push_size s.heap rfl, by rw [List.length_append]; exact hz, _, r1.append r2, IsTup.new _ _⟩, rfl,
   q2 hx (fun w => z (r2.nil_iff.mpr w)) _ _ (I.hok.fresh (Nat.le_refl _)) rfl⟩
def mT_ (t : TA) : TE := fun σ H Q => t σ H fun xs H1 => xs.length <= sizeLine /\ ∀ (p : Addr) (ob : Obj), H1 p = none -> ob.dict = none -> Q (.ref p) (upd H1 p (.frz ob (.tup xs)))
variable {o e : Expr} {es : List Expr} {to : TE} {t : TA} {apos cpos pos : Pos} {name : Str} {id : String} {r : V -> List V -> Hp -> VK -> Prop}
theorem a1_ {x1} (h : PA X es t) : PE X (.Tuple es x1 pos) (mT_ t) := by
 refine ⟨fun pins s σ H Q I hq => ?_⟩
 refine wpAny_Tuple_spliced (thn (h.run pos pins s σ H _ I hq) fun us s1 ⟨xs, H1, I1, r, z, q⟩ => ⟨by rw [<- r.length]; exact z, ?_⟩)
 have hf : H1 s1.heap.objs.size = none := I1.hok.fresh (Nat.le_refl _)
 exact ⟨.ref s1.heap.objs.size, upd H1 s1.heap.objs.size (.frz _ (.tup xs)), I1.laid (t' := s1.toks) (fun b u e => Heap.get?_push_of_some _ e) (Nat.le_refl _) ⟨Heap.get?_push_size _ rfl, z, us, r, ⟨_, Heap.get?_push_size _ rfl, rfl, _, rfl⟩⟩, rfl, q _ _ hf rfl⟩
end
end L2
namespace Mv
open PySem PySem.Spec PyProof.Rows L2
structure Xt where
 id : Nat := 0
 At : PySem.W.Frag -> Hp -> Hp -> V -> List Addr -> Prop
 frame : ∀ {K : PySem.W.Frag} {F F' H H' : Hp} {v : V} {fp : List Addr}, (∀ b o, F b = some o -> F' b = some o) -> (∀ b o, F' b = some o -> H' b = some o) -> At K F H v fp -> (∀ a ∈ fp, ∀ o, H a = some o -> H' a = some o) -> At K F' H' v fp
 there : ∀ {K : PySem.W.Frag} {F H : Hp} {v : V} {fp : List Addr}, At K F H v fp -> ∀ a ∈ fp, ∃ o, H a = some o
inductive S where
 | dat (d : PyData)
 | con (v : V)
 | ext (x : Xt)
 | lst (xs : List S)
 | dct (l : Bool) (kvs : List (Key × S))
 | ins (C : Nat) (ss : List S)
 | tup (xs : List S)
def bJ_ {α β : Type} (l : List (α × β)) (i : Nat) (b : β) : List (α × β) :=
 match l, i with
 | [], _ => []
 | (a, _) :: r, 0 => (a, b) :: r
 | p :: r, i + 1 => p :: bJ_ r i b
theorem du_ {α β : Type} (b : β) : ∀ (l : List (α × β)) (i : Nat), (bJ_ l i b).map (·.1) = l.map (·.1)
 | [], _ => rfl
 | _ :: _, 0 => rfl
 | p :: r, i + 1 => by simp only [bJ_, List.map_cons, du_ b r i]
theorem dv_ {α β : Type} (b : β) : ∀ (l : List (α × β)) (i : Nat), (bJ_ l i b).map (·.2) = (l.map (·.2)).set i b
 | [], _ => rfl
 | _ :: _, 0 => rfl
 | p :: r, i + 1 => by simp only [bJ_, List.map_cons, dv_ b r i, List.set_cons_succ]
def S.kids : S -> List S
 | .lst xs => xs
 | .dct _ kvs => kvs.map (·.2)
 | .ins _ ss => ss
 | .tup xs => xs
 | _ => []
def S.setKid (s : S) (i : Nat) (t : S) : S :=
 match s with
 | .lst xs => .lst (xs.set i t)
 | .dct l kvs => .dct l (bJ_ kvs i t)
 | .ins C ss => .ins C (ss.set i t)
 | .tup xs => .tup (xs.set i t)
 | s => s
theorem S.kids_setKid (s t : S) (i : Nat) : (s.setKid i t).kids = s.kids.set i t := by
 cases s with
 | dat d => simp [S.setKid, S.kids]
 | con v => simp [S.setKid, S.kids]
 | ext x => simp [S.setKid, S.kids]
 | lst xs => rfl
 | dct l kvs => exact dv_ t kvs i
 | ins C ss => rfl
 | tup xs => rfl
def S.get : S -> List Nat -> Option S
 | s, [] => some s
 | s, i :: p => match s.kids[i]? with
  | some t => S.get t p
  | none => none
def S.put : S -> List Nat -> S -> S
 | _, [], t => t
 | s, i :: p, t => match s.kids[i]? with
  | some u => s.setKid i (S.put u p t)
  | none => s
def cQ_ : Nat -> Str
 | 0 => "Board" | 1 => "House" | 2 => "Asker" | 3 => "World" | 4 => "Tally"
 | 10 => "DrainError" | 11 => "BadHouse" | 12 => "Known" | 13 => "NoHouse" | 14 => "TooMany" | 15 => "LastHouse" | 16 => "BadAsker" | 17 => "BadEdition" | 18 => "BadAsk" | 19 => "Busy" | 20 => "NoLetter" | 21 => "BadCount" | 22 => "BadText"
 | _ => "?"
def ma_ : Nat -> List Str
 | 0 => ["now", "lacking", "planned", "known"]
 | 1 => ["name", "now", "owned", "held", "giving", "takings", "newest", "last_answers", "done"]
 | 2 => ["name", "now", "number", "under_way", "last"]
 | 3 => ["board", "first_book", "house_named", "asker_named", "road", "all_deeds", "all_answers"]
 | 4 => ["grown", "numbers", "make"]
 | _ => []
def clsOf (K : PySem.W.Frag) (c : Nat) (C : Addr) : Prop := PySem.W.nsIn K mainGlobals (cQ_ c) = some (some (.ref C))
theorem clsOf.one {K : PySem.W.Frag} {c : Nat} {C D : Addr} (h : clsOf K c C) (g : clsOf K c D) : C = D := by
 unfold clsOf at h g
 rw [h] at g
 cases g
 rfl
def i4_ : HO -> List V
 | .lst vs => vs
 | .dK kvs => kvs.map (·.2)
 | .frz _ (.dK kvs) => kvs.map (·.2)
 | .frz _ (.tup vs) => vs
 | .ins _ _ fs => fs.map (·.2)
 | _ => []
def Head (K : PySem.W.Frag) (H : Hp) (a : Addr) : HO -> S -> List Addr -> Prop
 | .lst _, .lst _, ex => ex = []
 | .dK kvs, .dct false kss, ex => ex = [] /\ kvs.map (·.1) = kss.map (·.1)
 | .ins C dx fs, .ins c ss, ex => clsOf K c C /\ ex = [dx] /\ H dx = some (.own a) /\ fs.map (·.1) = (ma_ c).take ss.length /\ ss.length <= (ma_ c).length
 | _, _, _ => False
theorem Head.setKid {K : PySem.W.Frag} {H : Hp} {a : Addr} {o : HO} {s : S} {ex : List Addr} (h : Head K H a o s ex) (i : Nat) (t : S) : Head K H a o (s.setKid i t) ex := by
 unfold S.setKid
 cases s with
 | dat d => exact h
 | con v => exact h
 | ext x => exact h
 | lst xs => cases o with
  | lst vs => exact h
  | frz o u => cases u <;> exact h.elim
  | _ => exact h.elim
 | dct l kvs => cases o with
  | dK k => cases l with
   | false => exact ⟨h.1, h.2.trans (du_ t kvs i).symm⟩
   | true => exact h.elim
  | frz o u => cases u <;> exact h.elim
  | _ => exact h.elim
 | ins C fs => cases o with
  | ins C' dx gs => exact ⟨h.1, h.2.1, h.2.2.1, by rw [List.length_set]; exact h.2.2.2⟩
  | frz o u => cases u <;> exact h.elim
  | _ => exact h.elim
 | tup xs => exact absurd h (by cases o <;> first | exact id | (rename_i u; cases u <;> exact id))
theorem Head.keep {K : PySem.W.Frag} {H H' : Hp} {a : Addr} {o : HO} {s : S} {ex : List Addr} (h : Head K H a o s ex) (k : ∀ b ∈ ex, ∀ u, H b = some u -> H' b = some u) : Head K H' a o s ex := by
 cases s with
 | dat d => cases o <;> first | exact h.elim | (rename_i u; cases u <;> exact h.elim)
 | con v => cases o <;> first | exact h.elim | (rename_i u; cases u <;> exact h.elim)
 | ext x => cases o <;> first | exact h.elim | (rename_i u; cases u <;> exact h.elim)
 | tup x => cases o <;> first | exact h.elim | (rename_i u; cases u <;> exact h.elim)
 | lst xs => cases o with
  | lst vs => exact h
  | frz o u => cases u <;> exact h.elim
  | _ => exact h.elim
 | dct l kvs => cases o with
  | dK k => cases l <;> exact h
  | frz o u => cases u <;> exact h.elim
  | _ => exact h.elim
 | ins C fs => cases o with
  | ins C' dx gs =>
   obtain ⟨h1, h2, h3, h4⟩ := h
   exact ⟨h1, h2, k dx (by rw [h2]; exact List.mem_cons_self) _ h3, h4⟩
  | frz o u => cases u <;> exact h.elim
  | _ => exact h.elim
mutual
inductive Dq (K : PySem.W.Frag) (H : Hp) : V -> PyData -> Prop
 | non : Dq K H .non .none
 | bl (b : Bool) : Dq K H (.bl b) (.bool b)
 | int (i : Int) : Dq K H (.int i) (.int i)
 | str (x : Str) : Dq K H (.str x) (.str x)
 | lst {a : Addr} {xs : List V} {ds : List PyData} : SqL K H a xs -> DqAll K H xs ds -> Dq K H (.ref a) (.list ds)
 | tup {a : Addr} {xs : List V} {ds : List PyData} : TupQ K H a xs -> DqAll K H xs ds -> Dq K H (.ref a) (.tuple ds)
inductive DqAll (K : PySem.W.Frag) (H : Hp) : List V -> List PyData -> Prop
 | nil : DqAll K H [] []
 | cons {v : V} {vs : List V} {d : PyData} {ds : List PyData} : Dq K H v d -> DqAll K H vs ds -> DqAll K H (v :: vs) (d :: ds)
end
mutual
theorem Dq.dp {K : PySem.W.Frag} {H : Hp} : ∀ {v : V} {d : PyData}, Dq K H v d -> Dp K H v d
 | _, _, .non => .non
 | _, _, .bl b => .bl b
 | _, _, .int i => .int i
 | _, _, .str x => .str x
 | _, _, .lst h t => .lst h (DqAll.dp t)
 | _, _, .tup h t => .tup h.sq (DqAll.dp t)
theorem DqAll.dp {K : PySem.W.Frag} {H : Hp} : ∀ {vs : List V} {ds : List PyData}, DqAll K H vs ds -> DpAll K H vs ds
 | _, _, .nil => .nil
 | _, _, .cons h t => .cons (Dq.dp h) (DqAll.dp t)
end
mutual
inductive Own (K : PySem.W.Frag) (F H : Hp) : V -> S -> List Addr -> Prop
 | dat {v : V} {d : PyData} : Dq K F v d -> Own K F H v (.dat d) []
 | con {v : V} : Own K F H v (.con v) []
 | ext {v : V} {x : Xt} {fp : List Addr} : x.At K F H v fp -> Own K F H v (.ext x) fp
 | node {a : Addr} {o : HO} {s : S} {ex fp : List Addr} : H a = some o -> Head K H a o s ex -> OwnL K F H (i4_ o) s.kids fp -> Own K F H (.ref a) s (a :: (ex ++ fp))
 | lck {a : Addr} {o : Obj} {kvs : List (Key × V)} {kss : List (Key × S)} {fp : List Addr} : F a = some (.frz o (.dK kvs)) -> H a = some (.frz o (.dK kvs)) -> kvs.map (·.1) = kss.map (·.1) -> OwnL K F H (kvs.map (·.2)) (kss.map (·.2)) fp -> Own K F H (.ref a) (.dct true kss) fp
 | tp {a : Addr} {o : Obj} {vs : List V} {ss : List S} {fp : List Addr} : F a = some (.frz o (.tup vs)) -> H a = some (.frz o (.tup vs)) -> o.dict = none -> OwnL K F H vs ss fp -> Own K F H (.ref a) (.tup ss) fp
inductive OwnL (K : PySem.W.Frag) (F H : Hp) : List V -> List S -> List Addr -> Prop
 | nil : OwnL K F H [] [] []
 | cons {v : V} {vs : List V} {s : S} {ss : List S} {fp fq : List Addr} : Own K F H v s fp -> OwnL K F H vs ss fq -> OwnL K F H (v :: vs) (s :: ss) (fp ++ fq)
end
variable {K : PySem.W.Frag} {F F' H H' : Hp} {v : V} {vs : List V} {s t : S} {ss : List S} {fp fq : List Addr}
theorem Rd.mono {a : Addr} {u : HO} (k : ∀ b o, F b = some o -> F' b = some o) (h : Rd F a u) : Rd F' a u := by
 rcases h with h | ⟨o, h⟩
 ·exact .inl (k _ _ h)
 ·exact .inr ⟨o, k _ _ h⟩
theorem SqL.mono {a : Addr} {xs : List V} (k : ∀ b o, F b = some o -> F' b = some o) (h : SqL K F a xs) : SqL K F' a xs := h.imp (Rd.mono k) id
theorem SqT.mono {a : Addr} {xs : List V} (k : ∀ b o, F b = some o -> F' b = some o) (h : SqT K F a xs) : SqT K F' a xs := h.imp (Rd.mono k) id
mutual
theorem Dq.mono (k : ∀ b o, F b = some o -> F' b = some o) : ∀ {v : V} {d : PyData}, Dq K F v d -> Dq K F' v d
 | _, _, .non => .non
 | _, _, .bl b => .bl b
 | _, _, .int i => .int i
 | _, _, .str x => .str x
 | _, _, .lst h t => .lst (SqL.mono k h) (DqAll.mono k t)
 | _, _, .tup h t => .tup (TupQ.mono k h) (DqAll.mono k t)
theorem DqAll.mono (k : ∀ b o, F b = some o -> F' b = some o) : ∀ {vs : List V} {ds : List PyData}, DqAll K F vs ds -> DqAll K F' vs ds
 | _, _, .nil => .nil
 | _, _, .cons h t => .cons (Dq.mono k h) (DqAll.mono k t)
end
mutual
theorem Own.frame (kF : ∀ b o, F b = some o -> F' b = some o) (sub : ∀ b o, F' b = some o -> H' b = some o) : ∀ {v : V} {s : S} {fp : List Addr}, Own K F H v s fp -> (∀ a ∈ fp, ∀ o, H a = some o -> H' a = some o) -> Own K F' H' v s fp
 | _, _, _, .dat d, _ => .dat (Dq.mono kF d)
 | _, _, _, .con, _ => .con
 | _, _, _, .ext (x := x) h, k => .ext (x.frame kF sub h k)
 | _, _, _, .node h hd t, k => .node (k _ List.mem_cons_self _ h) (hd.keep fun b m u e => k b (List.mem_cons_of_mem _ (List.mem_append_left _ m)) u e)
   (OwnL.frame kF sub t fun b m o e => k b (List.mem_cons_of_mem _ (List.mem_append_right _ m)) o e)
 | _, _, _, .lck hf hh hk t, k => .lck (kF _ _ hf) (sub _ _ (kF _ _ hf)) hk (OwnL.frame kF sub t k)
 | _, _, _, .tp hf hh hk t, k => .tp (kF _ _ hf) (sub _ _ (kF _ _ hf)) hk (OwnL.frame kF sub t k)
theorem OwnL.frame (kF : ∀ b o, F b = some o -> F' b = some o) (sub : ∀ b o, F' b = some o -> H' b = some o) : ∀ {vs : List V} {ss : List S} {fp : List Addr}, OwnL K F H vs ss fp -> (∀ a ∈ fp, ∀ o, H a = some o -> H' a = some o) -> OwnL K F' H' vs ss fp
 | _, _, _, .nil, _ => .nil
 | _, _, _, .cons h t, k => .cons (Own.frame kF sub h fun a m => k a (List.mem_append_left _ m)) (OwnL.frame kF sub t fun a m => k a (List.mem_append_right _ m))
end
theorem Head.ex_there {a : Addr} {o : HO} {ex : List Addr} (h : Head K H a o s ex) : ∀ b ∈ ex, ∃ u, H b = some u := by
 intro b m
 cases s with
 | dat d => cases o <;> first | exact h.elim | (rename_i u; cases u <;> exact h.elim)
 | con v => cases o <;> first | exact h.elim | (rename_i u; cases u <;> exact h.elim)
 | ext x => cases o <;> first | exact h.elim | (rename_i u; cases u <;> exact h.elim)
 | tup x => cases o <;> first | exact h.elim | (rename_i u; cases u <;> exact h.elim)
 | lst xs => cases o <;> first | exact h.elim | (rw [show ex = [] from h] at m; cases m) | (rename_i u; cases u <;> exact h.elim)
 | dct l kvs => cases o with
  | dK k => cases l with
   | false => rw [h.1] at m; cases m
   | true => exact h.elim
  | frz o u => cases u <;> exact h.elim
  | _ => exact h.elim
 | ins C fs => cases o with
  | ins C' dx gs =>
   rw [h.2.1] at m
   rw [List.mem_singleton.mp m]
   exact ⟨_, h.2.2.1⟩
  | frz o u => cases u <;> exact h.elim
  | _ => exact h.elim
mutual
theorem Own.there : ∀ {v : V} {s : S} {fp : List Addr}, Own K F H v s fp -> ∀ a ∈ fp, ∃ o, H a = some o
 | _, _, _, .dat d, _, m => nomatch m
 | _, _, _, .con, _, m => nomatch m
 | _, _, _, .ext (x := x) h, _, m => x.there h _ m
 | _, _, _, .node h hd t, b, m => by
  rcases List.mem_cons.mp m with rfl | m
  ·exact ⟨_, h⟩
  ·rcases List.mem_append.mp m with m | m
   ·exact hd.ex_there b m
   ·exact OwnL.there t b m
 | _, _, _, .lck hf hh hk t, b, m => OwnL.there t b m
 | _, _, _, .tp hf hh hk t, b, m => OwnL.there t b m
theorem OwnL.there : ∀ {vs : List V} {ss : List S} {fp : List Addr}, OwnL K F H vs ss fp -> ∀ a ∈ fp, ∃ o, H a = some o
 | _, _, _, .nil, _, m => nomatch m
 | _, _, _, .cons h t, b, m => by
  rcases List.mem_append.mp m with m | m
  ·exact Own.there h b m
  ·exact OwnL.there t b m
end
theorem Head.con_no {a : Addr} {o : HO} {ex : List Addr} (h : Head K H a o (.con v) ex) : False := by
 cases o <;> first | exact h | (rename_i u; cases u <;> exact h)
theorem Head.dat_no {d : PyData} {a : Addr} {o : HO} {ex : List Addr} (h : Head K H a o (.dat d) ex) : False := by
 cases o <;> first | exact h | (rename_i u; cases u <;> exact h)
theorem Own.con_inv {w : V} (h : Own K F H w s fp) (e : s = .con v) : w = v /\ fp = [] := by
 cases h with
 | dat _ => cases e
 | con => cases e; exact ⟨rfl, rfl⟩
 | ext => cases e
 | node h hd t => subst e; exact hd.con_no.elim
 | lck => cases e
 | tp => cases e
theorem Own.dat_inv {d : PyData} (h : Own K F H v s fp) (e : s = .dat d) : Dq K F v d /\ fp = [] := by
 cases h with
 | dat q => cases e; exact ⟨q, rfl⟩
 | con => cases e
 | ext => cases e
 | node h hd t => subst e; exact hd.dat_no.elim
 | lck => cases e
 | tp => cases e
theorem Head.ext_no {x : Xt} {a : Addr} {o : HO} {ex : List Addr} (h : Head K H a o (.ext x) ex) : False := by
 cases o <;> first | exact h | (rename_i u; cases u <;> exact h)
theorem Own.ext_inv {x : Xt} (h : Own K F H v s fp) (e : s = .ext x) : x.At K F H v fp := by
 cases h with
 | dat _ => cases e
 | con => cases e
 | ext q => cases e; exact q
 | node h hd t => subst e; exact hd.ext_no.elim
 | lck => cases e
 | tp => cases e
theorem OwnL.length : ∀ {vs : List V} {ss : List S} {fp : List Addr}, OwnL K F H vs ss fp -> vs.length = ss.length
 | _, _, _, .nil => rfl
 | _, _, _, .cons _ t => by simp only [List.length_cons, OwnL.length t]
theorem OwnL.append : ∀ {vs ws : List V} {ss ts : List S} {fp fq : List Addr}, OwnL K F H vs ss fp -> OwnL K F H ws ts fq -> OwnL K F H (vs ++ ws) (ss ++ ts) (fp ++ fq)
 | _, _, _, _, _, _, .nil, h => h
 | _, _, _, _, _, _, .cons a t, h => by
  rw [List.append_assoc]
  exact .cons a (OwnL.append t h)
theorem OwnL.take : ∀ {vs : List V} {ss : List S} {fp : List Addr} {i : Nat} {s : S}, OwnL K F H vs ss fp -> ss[i]? = some s →
  ∃ v fp1 fp2, vs[i]? = some v /\ Own K F H v s fp1 /\ OwnL K F H vs (ss.set i (.con v)) fp2 /\ fp.Perm (fp1 ++ fp2)
 | _, _, _, i, _, .nil, e => by simp at e
 | _, _, _, 0, s, .cons (v := v) (fp := fp1) (fq := fp2) h t, e => by
  simp only [List.getElem?_cons_zero, Option.some.injEq] at e
  subst e
  exact ⟨v, fp1, fp2, rfl, h, .cons (fp := []) .con t, List.Perm.refl _⟩
 | _, _, _, i + 1, s, .cons (fp := fpa) h t, e => by
  obtain ⟨v, fp1, fp2, e1, o, l, p⟩ := OwnL.take (i := i) (s := s) t (by simpa using e)
  refine ⟨v, fp1, fpa ++ fp2, by simpa using e1, o, .cons h l, ?_⟩
  refine (List.Perm.append_left fpa p).trans ?_
  rw [<- List.append_assoc, <- List.append_assoc]
  exact List.Perm.append_right fp2 List.perm_append_comm
theorem OwnL.put : ∀ {vs : List V} {ss : List S} {fp : List Addr} {i : Nat} {v : V} {s : S} {fq : List Addr}, OwnL K F H vs ss fp -> ss[i]? = some (.con v) -> Own K F H v s fq →
  ∃ fr, OwnL K F H vs (ss.set i s) fr /\ fr.Perm (fq ++ fp)
 | _, _, _, i, _, _, _, .nil, e, _ => by simp at e
 | _, _, _, 0, v, s, fq, .cons h t, e, o => by
  simp only [List.getElem?_cons_zero, Option.some.injEq] at e
  subst e
  obtain ⟨rfl, rfl⟩ := h.con_inv rfl
  exact ⟨_, .cons o t, List.Perm.refl _⟩
 | _, _, _, i + 1, v, s, fq, .cons (fp := fpa) h t, e, o => by
  obtain ⟨fr, l, p⟩ := OwnL.put (i := i) t (by simpa using e) o
  refine ⟨fpa ++ fr, .cons h l, ?_⟩
  refine (List.Perm.append_left fpa p).trans ?_
  rw [<- List.append_assoc, <- List.append_assoc]
  exact List.Perm.append_right _ List.perm_append_comm
end Mv
namespace Mv
open PySem PySem.Spec PyProof.Rows L2
variable {K : PySem.W.Frag} {F F' H H' : Hp} {v u : V} {vs : List V} {s t : S} {ss : List S} {fp fq : List Addr}
theorem S.get_nil (s : S) : s.get [] = some s := by cases s <;> rfl
theorem S.get_cons (s : S) (i : Nat) (p : List Nat) : s.get (i :: p) = (match s.kids[i]? with | some t => t.get p | none => none) := by cases s <;> rfl
theorem S.put_nil (s t : S) : s.put [] t = t := by cases s <;> rfl
theorem S.put_cons (s t : S) (i : Nat) (p : List Nat) : s.put (i :: p) t = (match s.kids[i]? with | some u => s.setKid i (u.put p t) | none => s) := by cases s <;> rfl
theorem S.get_put : ∀ (p : List Nat) (s t u : S), s.get p = some u -> (s.put p t).get p = some t
 | [], s, t, u, _ => by rw [S.put_nil, S.get_nil]
 | i :: p, s, t, u, h => by
  rw [S.get_cons] at h
  rw [S.put_cons, S.get_cons]
  cases e : s.kids[i]? with
  | none => rw [e] at h; cases h
  | some w =>
   rw [e] at h
   have hi := (List.getElem?_eq_some_iff.mp e).1
   simp only [S.kids_setKid, List.getElem?_set_self hi]
   exact S.get_put p w t u h
theorem fN_ {α β : Type} (b c : β) : ∀ (l : List (α × β)) (i : Nat), bJ_ (bJ_ l i b) i c = bJ_ l i c
 | [], _ => rfl
 | _ :: _, 0 => rfl
 | p :: r, i + 1 => by simp only [bJ_, fN_ b c r i]
theorem fb_ {α β : Type} (b c : β) : ∀ (l : List (α × β)) (i j : Nat), i ≠ j -> bJ_ (bJ_ l i b) j c = bJ_ (bJ_ l j c) i b
 | [], _, _, _ => rfl
 | _ :: _, 0, 0, h => absurd rfl h
 | _ :: _, 0, _ + 1, _ => rfl
 | _ :: _, _ + 1, 0, _ => rfl
 | p :: r, i + 1, j + 1, h => by simp only [bJ_, fb_ b c r i j (fun e => h (by rw [e]))]
theorem S.setKid_set (s t u : S) (i : Nat) : (s.setKid i t).setKid i u = s.setKid i u := by
 cases s with
 | dat d => rfl
 | con v => rfl
 | ext v => rfl
 | lst xs => simp [S.setKid]
 | dct l kvs => simp only [S.setKid, fN_]
 | tup xs => simp only [S.setKid, List.set_set]
 | ins C fs => simp [S.setKid]
theorem S.setKid_comm (s t u : S) {i j : Nat} (h : i ≠ j) : (s.setKid i t).setKid j u = (s.setKid j u).setKid i t := by
 cases s with
 | dat d => rfl
 | con v => rfl
 | ext v => rfl
 | lst xs => simp only [S.setKid, List.set_comm _ _ h]
 | dct l kvs => simp only [S.setKid, fb_ _ _ _ _ _ h]
 | tup xs => simp only [S.setKid, List.set_comm _ _ h]
 | ins C fs => simp only [S.setKid, List.set_comm _ _ h]
theorem S.put_put : ∀ (p : List Nat) (s t u : S), (s.put p t).put p u = s.put p u
 | [], s, t, u => by rw [S.put_nil, S.put_nil]
 | i :: p, s, t, u => by
  cases e : s.kids[i]? with
  | none => simp only [S.put_cons, e]
  | some w =>
   have hi := (List.getElem?_eq_some_iff.mp e).1
   simp only [S.put_cons, e, S.kids_setKid, List.getElem?_set_self hi, S.setKid_set, S.put_put p w t u]
def b2_ : List Nat -> List Nat -> Bool
 | i :: p, j :: q => i != j || b2_ p q
 | _, _ => false
theorem em_ : ∀ (p q : List Nat), b2_ p q = b2_ q p
 | [], [] => rfl
 | [], _ :: _ => rfl
 | _ :: _, [] => rfl
 | i :: p, j :: q => by
  simp only [b2_, em_ p q]
  rw [show (i != j) = (j != i) from bne_comm]
theorem S.get_put_apart : ∀ (p q : List Nat) (s t : S), b2_ p q = true -> (s.put p t).get q = s.get q
 | [], _, _, _, h => by simp [b2_] at h
 | _ :: _, [], _, _, h => by simp [b2_] at h
 | i :: p, j :: q, s, t, h => by
  rw [S.put_cons, S.get_cons, S.get_cons]
  cases e : s.kids[i]? with
  | none => rfl
  | some w =>
   have hi := (List.getElem?_eq_some_iff.mp e).1
   simp only [S.kids_setKid]
   by_cases ij : i = j
   ·subst ij
    simp only [List.getElem?_set_self hi, e]
    simp only [b2_, bne_self_eq_false, Bool.false_or] at h
    exact S.get_put_apart p q w t h
   ·rw [List.getElem?_set_ne ij]
theorem S.put_comm : ∀ (p q : List Nat) (s t u : S), b2_ p q = true -> (s.put p t).put q u = (s.put q u).put p t
 | [], _, _, _, _, h => by simp [b2_] at h
 | _ :: _, [], _, _, _, h => by simp [b2_] at h
 | i :: p, j :: q, s, t, u, h => by
  by_cases ij : i = j
  ·subst ij
   simp only [b2_, bne_self_eq_false, Bool.false_or] at h
   cases e : s.kids[i]? with
   | none => simp only [S.put_cons, e]
   | some w =>
    have hi := (List.getElem?_eq_some_iff.mp e).1
    simp only [S.put_cons, e, S.kids_setKid, List.getElem?_set_self hi, S.setKid_set, S.put_comm p q w t u h]
  ·have ji : j ≠ i := fun z => ij z.symm
   cases e : s.kids[i]? with
   | none =>
    cases e2 : s.kids[j]? with
    | none => simp only [S.put_cons, e, e2]
    | some w => simp only [S.put_cons, e, e2, S.kids_setKid, List.getElem?_set_ne ji]
   | some w =>
    cases e2 : s.kids[j]? with
    | none => simp only [S.put_cons, e, e2, S.kids_setKid, List.getElem?_set_ne ij]
    | some x => simp only [S.put_cons, e, e2, S.kids_setKid, List.getElem?_set_ne ij, List.getElem?_set_ne ji, S.setKid_comm _ _ _ ij]
def cY_ (H : Hp) : V -> List Nat -> Option V
 | v, [] => some v
 | .ref a, i :: p => match H a with
  | some o => match (i4_ o)[i]? with
   | some w => cY_ H w p
   | none => none
  | none => none
 | _, _ => none
theorem bH_ (H : Hp) (v : V) : cY_ H v [] = some v := by cases v <;> rfl
theorem a2_ {a : Addr} {o : HO} {w : V} {i : Nat} {p : List Nat} (h : H a = some o) (e : (i4_ o)[i]? = some w) : cY_ H (.ref a) (i :: p) = cY_ H w p := by
 simp only [cY_, h, e]
theorem Own.takeP : ∀ (p : List Nat) {v : V} {s t : S} {fp : List Addr}, Own K F H v s fp -> s.get p = some t →
  ∃ u fp1 fp2, cY_ H v p = some u /\ Own K F H u t fp1 /\ Own K F H v (s.put p (.con u)) fp2 /\ fp.Perm (fp1 ++ fp2)
 | [], v, s, t, fp, o, e => by
  rw [S.get_nil] at e
  cases e
  exact ⟨v, fp, [], bH_ H v, o, by rw [S.put_nil]; exact .con, by simp⟩
 | i :: p, v, s, t, fp, o, e => by
  rw [S.get_cons] at e
  cases o with
  | dat d => simp [S.kids] at e
  | con => simp [S.kids] at e
  | ext => simp [S.kids] at e
  | @node a ob _ ex fp h hd l =>
   cases ek : s.kids[i]? with
   | none => rw [ek] at e; cases e
   | some w =>
    rw [ek] at e
    obtain ⟨x, f1, f2, e1, o1, l2, pm⟩ := l.take ek
    obtain ⟨u, g1, g2, e2, o2, o3, pm2⟩ := Own.takeP p o1 e
    have hi := (List.getElem?_eq_some_iff.mp ek).1
    obtain ⟨fr, l3, pm3⟩ := l2.put (i := i) (v := x) (by rw [List.getElem?_set_self hi]) o3
    rw [List.set_set] at l3
    refine ⟨u, g1, a :: (ex ++ fr), by rw [a2_ h e1]; exact e2, o2, ?_, ?_⟩
    ·rw [S.put_cons, ek]
     exact .node h (hd.setKid i _) (by rw [S.kids_setKid]; exact l3)
    ·-- a :: (ex ++ fp) ~ g1 ++ a :: (ex ++ fr)
     have p1 : fp.Perm (g1 ++ fr) := (pm.trans (List.Perm.append_right f2 pm2)).trans (by rw [List.append_assoc]; exact List.Perm.append_left g1 pm3.symm)
     have p2 : (ex ++ fp).Perm (g1 ++ (ex ++ fr)) := by
      refine (List.Perm.append_left ex p1).trans ?_
      rw [<- List.append_assoc, <- List.append_assoc]
      exact List.Perm.append_right fr List.perm_append_comm
     exact (List.Perm.cons a p2).trans List.perm_middle.symm
  | @lck a ob kvs kss _ hf h hk l =>
   cases ek : (kss.map (·.2))[i]? with
   | none => rw [show (S.dct true kss).kids = kss.map (·.2) from rfl, ek] at e; cases e
   | some w =>
    rw [show (S.dct true kss).kids = kss.map (·.2) from rfl, ek] at e
    obtain ⟨x, f1, f2, e1, o1, l2, pm⟩ := l.take ek
    obtain ⟨u, g1, g2, e2, o2, o3, pm2⟩ := Own.takeP p o1 e
    have hi := (List.getElem?_eq_some_iff.mp ek).1
    obtain ⟨fr, l3, pm3⟩ := l2.put (i := i) (v := x) (by rw [List.getElem?_set_self hi]) o3
    rw [List.set_set, <- dv_] at l3
    refine ⟨u, g1, fr, by rw [a2_ h e1]; exact e2, o2, ?_, ?_⟩
    ·rw [S.put_cons, show (S.dct true kss).kids = kss.map (·.2) from rfl, ek]
     exact .lck hf h (by rw [hk]; exact (du_ _ kss i).symm) l3
    ·exact (pm.trans (List.Perm.append_right f2 pm2)).trans (by rw [List.append_assoc]; exact List.Perm.append_left g1 pm3.symm)
  | @tp a ob vs xs _ hf h hk l =>
   cases ek : xs[i]? with
   | none => rw [show (S.tup xs).kids = xs from rfl, ek] at e; cases e
   | some w =>
    rw [show (S.tup xs).kids = xs from rfl, ek] at e
    obtain ⟨x, f1, f2, e1, o1, l2, pm⟩ := l.take ek
    obtain ⟨u, g1, g2, e2, o2, o3, pm2⟩ := Own.takeP p o1 e
    have hi := (List.getElem?_eq_some_iff.mp ek).1
    obtain ⟨fr, l3, pm3⟩ := l2.put (i := i) (v := x) (by rw [List.getElem?_set_self hi]) o3
    rw [List.set_set] at l3
    refine ⟨u, g1, fr, by rw [a2_ h e1]; exact e2, o2, ?_, ?_⟩
    ·rw [S.put_cons, show (S.tup xs).kids = xs from rfl, ek]
     exact .tp hf h hk l3
    ·exact (pm.trans (List.Perm.append_right f2 pm2)).trans (by rw [List.append_assoc]; exact List.Perm.append_left g1 pm3.symm)
theorem Own.putP : ∀ (p : List Nat) {v u : V} {s t : S} {fp fq : List Addr}, Own K F H v s fp -> s.get p = some (.con u) -> Own K F H u t fq →
  ∃ fr, Own K F H v (s.put p t) fr /\ fr.Perm (fq ++ fp)
 | [], v, u, s, t, fp, fq, o, e, q => by
  rw [S.get_nil] at e
  have e := Option.some.inj e
  obtain ⟨rfl, rfl⟩ := o.con_inv e
  exact ⟨fq, by rw [S.put_nil]; exact q, by simp⟩
 | i :: p, v, u, s, t, fp, fq, o, e, q => by
  rw [S.get_cons] at e
  cases o with
  | dat d => simp [S.kids] at e
  | con => simp [S.kids] at e
  | ext => simp [S.kids] at e
  | @node a ob _ ex fp h hd l =>
   cases ek : s.kids[i]? with
   | none => rw [ek] at e; cases e
   | some w =>
    rw [ek] at e
    obtain ⟨x, f1, f2, e1, o1, l2, pm⟩ := l.take ek
    obtain ⟨g, o2, pm2⟩ := Own.putP p o1 e q
    have hi := (List.getElem?_eq_some_iff.mp ek).1
    obtain ⟨fr, l3, pm3⟩ := l2.put (i := i) (v := x) (by rw [List.getElem?_set_self hi]) o2
    rw [List.set_set] at l3
    refine ⟨a :: (ex ++ fr), ?_, ?_⟩
    ·rw [S.put_cons, ek]
     exact .node h (hd.setKid i _) (by rw [S.kids_setKid]; exact l3)
    ·have p1 : fr.Perm (fq ++ fp) := pm3.trans ((List.Perm.append_right f2 pm2).trans (by rw [List.append_assoc]; exact List.Perm.append_left fq pm.symm))
     have p2 : (ex ++ fr).Perm (fq ++ (ex ++ fp)) := by
      refine (List.Perm.append_left ex p1).trans ?_
      rw [<- List.append_assoc, <- List.append_assoc]
      exact List.Perm.append_right fp List.perm_append_comm
     exact (List.Perm.cons a p2).trans List.perm_middle.symm
  | @lck a ob kvs kss _ hf h hk l =>
   cases ek : (kss.map (·.2))[i]? with
   | none => rw [show (S.dct true kss).kids = kss.map (·.2) from rfl, ek] at e; cases e
   | some w =>
    rw [show (S.dct true kss).kids = kss.map (·.2) from rfl, ek] at e
    obtain ⟨x, f1, f2, e1, o1, l2, pm⟩ := l.take ek
    obtain ⟨g, o2, pm2⟩ := Own.putP p o1 e q
    have hi := (List.getElem?_eq_some_iff.mp ek).1
    obtain ⟨fr, l3, pm3⟩ := l2.put (i := i) (v := x) (by rw [List.getElem?_set_self hi]) o2
    rw [List.set_set, <- dv_] at l3
    refine ⟨fr, ?_, ?_⟩
    ·rw [S.put_cons, show (S.dct true kss).kids = kss.map (·.2) from rfl, ek]
     exact .lck hf h (by rw [hk]; exact (du_ _ kss i).symm) l3
    ·exact pm3.trans ((List.Perm.append_right f2 pm2).trans (by rw [List.append_assoc]; exact List.Perm.append_left fq pm.symm))
  | @tp a ob vs xs _ hf h hk l =>
   cases ek : xs[i]? with
   | none => rw [show (S.tup xs).kids = xs from rfl, ek] at e; cases e
   | some w =>
    rw [show (S.tup xs).kids = xs from rfl, ek] at e
    obtain ⟨x, f1, f2, e1, o1, l2, pm⟩ := l.take ek
    obtain ⟨g, o2, pm2⟩ := Own.putP p o1 e q
    have hi := (List.getElem?_eq_some_iff.mp ek).1
    obtain ⟨fr, l3, pm3⟩ := l2.put (i := i) (v := x) (by rw [List.getElem?_set_self hi]) o2
    rw [List.set_set] at l3
    refine ⟨fr, ?_, ?_⟩
    ·rw [S.put_cons, show (S.tup xs).kids = xs from rfl, ek]
     exact .tp hf h hk l3
    ·exact pm3.trans ((List.Perm.append_right f2 pm2).trans (by rw [List.append_assoc]; exact List.Perm.append_left fq pm.symm))
theorem Own.follow_keep (kf : ∀ b o, F b = some o -> H' b = some o) : ∀ (p : List Nat) {v : V} {s t : S} {fp : List Addr}, Own K F H v s fp -> s.get p = some t -> (∀ a ∈ fp, ∀ o, H a = some o -> H' a = some o) -> cY_ H' v p = cY_ H v p
 | [], v, _, _, _, _, _, _ => by rw [bH_, bH_]
 | i :: p, v, s, t, fp, o, e, k => by
  rw [S.get_cons] at e
  cases o with
  | dat d => simp [S.kids] at e
  | con => simp [S.kids] at e
  | ext => simp [S.kids] at e
  | @node a ob _ ex fp h hd l =>
   cases ek : s.kids[i]? with
   | none => rw [ek] at e; cases e
   | some w =>
    rw [ek] at e
    obtain ⟨x, f1, f2, e1, o1, l2, pm⟩ := l.take ek
    rw [a2_ h e1, a2_ (k a List.mem_cons_self _ h) e1]
    exact Own.follow_keep kf p o1 e fun b m => k b (List.mem_cons_of_mem _ (List.mem_append_right _ (pm.mem_iff.mpr (List.mem_append_left _ m))))
  | @lck a ob kvs kss _ hf h hk l =>
   cases ek : (kss.map (·.2))[i]? with
   | none => rw [show (S.dct true kss).kids = kss.map (·.2) from rfl, ek] at e; cases e
   | some w =>
    rw [show (S.dct true kss).kids = kss.map (·.2) from rfl, ek] at e
    obtain ⟨x, f1, f2, e1, o1, l2, pm⟩ := l.take ek
    rw [a2_ h e1, a2_ (kf a _ hf) e1]
    exact Own.follow_keep kf p o1 e fun b m => k b (pm.mem_iff.mpr (List.mem_append_left _ m))
  | @tp a ob vs xs _ hf h hk l =>
   cases ek : xs[i]? with
   | none => rw [show (S.tup xs).kids = xs from rfl, ek] at e; cases e
   | some w =>
    rw [show (S.tup xs).kids = xs from rfl, ek] at e
    obtain ⟨x, f1, f2, e1, o1, l2, pm⟩ := l.take ek
    rw [a2_ h e1, a2_ (kf a _ hf) e1]
    exact Own.follow_keep kf p o1 e fun b m => k b (pm.mem_iff.mpr (List.mem_append_left _ m))
end Mv
namespace Mv
open PySem PySem.Spec PyProof.Rows L2
variable {K : PySem.W.Frag} {F F' H H' : Hp} {v u : V} {vs : List V} {s t : S} {ss : List S} {fp fq : List Addr}
inductive Sl where
 | no
 | own (s : S)
 | bor (p : List Nat)
abbrev En := List Sl
abbrev Ro := List (Option V)
def slS : Option V -> Sl -> S
 | _, .own s => s
 | v, _ => .con (v.getD .non)
def bU_ (ρ : Ro) : List V := ρ.map fun v => v.getD .non
def a8_ : Ro -> En -> List S
 | v :: ρ, e :: E => slS v e :: a8_ ρ E
 | _, _ => []
def aZ_ (E : En) : List Nat -> Option S
 | i :: p => match E[i]? with
  | some (Sl.own s) => s.get p
  | _ => none
 | [] => none
def bA_ (E : En) (p : List Nat) (t : S) : En :=
 match p with
 | i :: p => match E[i]? with
  | some (Sl.own s) => E.set i (.own (s.put p t))
  | _ => E
 | [] => E
def a3_ (p q : List Nat) : Bool := p.isPrefixOf q && p.length != q.length
def hN_ (p : List Nat) : Sl -> Sl
 | .bor q => if a3_ p q then .no else .bor q
 | e => e
def bV_ (E : En) (p : List Nat) : En := E.map (hN_ p)
def aO_ (H : Hp) (ρ : Ro) : List Nat -> Option V
 | i :: p => match ρ[i]? with
  | some (some v) => cY_ H v p
  | _ => none
 | [] => none
theorem cc_ : ∀ {ρ : Ro} {E : En} {i : Nat} {s : S}, E.length = ρ.length -> E[i]? = some (Sl.own s) -> (a8_ ρ E)[i]? = some s
 | [], [], _, _, _, h => by simp at h
 | _ :: _, [], _, _, l, _ => by simp at l
 | [], _ :: _, _, _, l, _ => by simp at l
 | v :: ρ, e :: E, 0, s, l, h => by
  simp only [List.getElem?_cons_zero, Option.some.injEq] at h
  subst h; rfl
 | v :: ρ, e :: E, i + 1, s, l, h => by
  simp only [a8_, List.getElem?_cons_succ]
  exact cc_ (by simpa using l) (by simpa using h)
theorem fc_ : ∀ {ρ : Ro} {E : En} {i : Nat} {s : S}, E.length = ρ.length -> a8_ ρ (E.set i (.own s)) = (a8_ ρ E).set i s
 | [], [], _, _, _ => by simp [a8_]
 | _ :: _, [], _, _, l => by simp at l
 | [], _ :: _, _, _, l => by simp at l
 | v :: ρ, e :: E, 0, s, l => rfl
 | v :: ρ, e :: E, i + 1, s, l => by
  simp only [a8_, List.set_cons_succ]
  rw [fc_ (by simpa using l)]
structure Core (K : PySem.W.Frag) (F H : Hp) (ρ : Ro) (E : En) (fp : List Addr) : Prop where
 len : E.length = ρ.length
 own : ∃ fq, OwnL K F H (bU_ ρ) (a8_ ρ E) fq /\ fp.Perm fq
 set : ∀ (i : Nat) (s : S), E[i]? = some (Sl.own s) -> ∃ v, ρ[i]? = some (some v)
variable {ρ : Ro} {E : En}
theorem Core.frame (c : Core K F H ρ E fp) (kF : ∀ b o, F b = some o -> F' b = some o) (sub : ∀ b o, F' b = some o -> H' b = some o) (k : ∀ a ∈ fp, ∀ o, H a = some o -> H' a = some o) : Core K F' H' ρ E fp :=
 ⟨c.len, let ⟨f, o, q⟩ := c.own; ⟨f, o.frame kF sub fun a m => k a (q.mem_iff.mpr m), q⟩, c.set⟩
theorem Core.there (c : Core K F H ρ E fp) : ∀ a ∈ fp, ∃ o, H a = some o := fun a m => let ⟨f, o, q⟩ := c.own; o.there a (q.mem_iff.mp m)
theorem ip_ (E : En) (p : List Nat) (t : S) : (bA_ E p t).length = E.length := by
 unfold bA_
 split
 ·split <;> simp
 ·rfl
theorem bl_ {p : List Nat} (h : aZ_ E p = some t) : ∃ i q s, p = i :: q /\ E[i]? = some (Sl.own s) /\ s.get q = some t := by
 cases p with
 | nil => cases h
 | cons i q =>
  unfold aZ_ at h
  cases e : E[i]? with
  | none => simp only [e] at h; cases h
  | some sl => cases sl with
   | own s => simp only [e] at h; exact ⟨i, q, s, rfl, e, h⟩
   | no => simp only [e] at h; cases h
   | bor r => simp only [e] at h; cases h
theorem Core.take {p : List Nat} (c : Core K F H ρ E fp) (h : aZ_ E p = some t) :
  ∃ u fp1 fp2, aO_ H ρ p = some u /\ Own K F H u t fp1 /\ Core K F H ρ (bA_ E p (.con u)) fp2 /\ fp.Perm (fp1 ++ fp2) := by
 obtain ⟨i, q, s, rfl, ei, hq⟩ := bl_ h
 obtain ⟨f, o, pm⟩ := c.own
 obtain ⟨x, f1, f2, e1, o1, l2, pm1⟩ := o.take (cc_ c.len ei)
 obtain ⟨u, g1, g2, e2, o2, o3, pm2⟩ := Own.takeP q o1 hq
 obtain ⟨y, ey⟩ := c.set i s ei
 have hx : x = y := by
  unfold bU_ at e1
  rw [List.getElem?_map, ey] at e1
  simpa using e1.symm
 subst hx
 have hi : i < (a8_ ρ E).length := (List.getElem?_eq_some_iff.mp (cc_ c.len ei)).1
 obtain ⟨fr, l3, pm3⟩ := l2.put (i := i) (v := x) (by rw [List.getElem?_set_self hi]) o3
 rw [List.set_set] at l3
 refine ⟨u, g1, fr, by simp only [aO_, ey]; exact e2, o2, ⟨by rw [ip_]; exact c.len, ⟨fr, ?_, List.Perm.refl _⟩, fun j w hj => ?_⟩, ?_⟩
 ·simp only [bA_, ei]
  rw [fc_ c.len]
  exact l3
 ·simp only [bA_, ei] at hj
  by_cases ij : i = j
  ·subst ij; exact ⟨x, ey⟩
  ·rw [List.getElem?_set_ne ij] at hj
   exact c.set j w hj
 ·exact pm.trans ((pm1.trans (List.Perm.append_right f2 pm2)).trans (by rw [List.append_assoc]; exact List.Perm.append_left g1 pm3.symm))
theorem Core.put {p : List Nat} (c : Core K F H ρ E fp) (h : aZ_ E p = some (.con u)) (q : Own K F H u t fq) : Core K F H ρ (bA_ E p t) (fq ++ fp) := by
 obtain ⟨i, r, s, rfl, ei, hq⟩ := bl_ h
 obtain ⟨f, o, pm⟩ := c.own
 obtain ⟨x, f1, f2, e1, o1, l2, pm1⟩ := o.take (cc_ c.len ei)
 obtain ⟨g, o2, pm2⟩ := Own.putP r o1 hq q
 have hi : i < (a8_ ρ E).length := (List.getElem?_eq_some_iff.mp (cc_ c.len ei)).1
 obtain ⟨fr, l3, pm3⟩ := l2.put (i := i) (v := x) (by rw [List.getElem?_set_self hi]) o2
 rw [List.set_set] at l3
 refine ⟨by rw [ip_]; exact c.len, ⟨fr, ?_, ?_⟩, fun j w hj => ?_⟩
 ·simp only [bA_, ei]
  rw [fc_ c.len]
  exact l3
 ·refine (List.Perm.append_left fq (pm.trans pm1)).trans ?_
  rw [<- List.append_assoc]
  exact (List.Perm.append_right f2 pm2.symm).trans pm3.symm
 ·simp only [bA_, ei] at hj
  by_cases ij : i = j
  ·subst ij; exact c.set i s ei
  ·rw [List.getElem?_set_ne ij] at hj
   exact c.set j w hj
theorem Core.follow_keep {p : List Nat} (c : Core K F H ρ E fp) (kf : ∀ b o, F b = some o -> H' b = some o) (h : aZ_ E p = some t) (k : ∀ a ∈ fp, ∀ o, H a = some o -> H' a = some o) : aO_ H' ρ p = aO_ H ρ p := by
 obtain ⟨i, q, s, rfl, ei, hq⟩ := bl_ h
 obtain ⟨f, o, pm⟩ := c.own
 obtain ⟨x, f1, f2, e1, o1, l2, pm1⟩ := o.take (cc_ c.len ei)
 obtain ⟨y, ey⟩ := c.set i s ei
 have hx : x = y := by
  unfold bU_ at e1
  rw [List.getElem?_map, ey] at e1
  simpa using e1.symm
 subst hx
 simp only [aO_, ey]
 exact o1.follow_keep kf q hq fun a m => k a (pm.mem_iff.mpr (pm1.mem_iff.mpr (List.mem_append_left _ m)))
theorem c9_ {p : List Nat} (h : aZ_ E p = some s) : aZ_ (bA_ E p t) p = some t := by
 obtain ⟨i, q, w, rfl, ei, hq⟩ := bl_ h
 have hi : i < E.length := (List.getElem?_eq_some_iff.mp ei).1
 simp only [bA_, ei, aZ_, List.getElem?_set_self hi]
 exact S.get_put q w t s hq
theorem gX_ {p : List Nat} {a b : S} : bA_ (bA_ E p a) p b = bA_ E p b := by
 cases p with
 | nil => rfl
 | cons i q =>
  cases e : E[i]? with
  | none => simp only [bA_, e]
  | some sl => cases sl with
   | own s =>
    have hi : i < E.length := (List.getElem?_eq_some_iff.mp e).1
    simp only [bA_, e, List.getElem?_set_self hi, List.set_set, S.put_put]
   | no => simp only [bA_, e]
   | bor r => simp only [bA_, e]
theorem bI_ {p q : List Nat} (h : b2_ p q = true) : aZ_ (bA_ E p t) q = aZ_ E q := by
 cases p with
 | nil => simp [b2_] at h
 | cons i p => cases q with
  | nil => simp [b2_] at h
  | cons j q =>
   simp only [bA_]
   split
   ·next s hs =>
    have hi : i < E.length := (List.getElem?_eq_some_iff.mp hs).1
    by_cases ij : i = j
    ·subst ij
     simp only [b2_, bne_self_eq_false, Bool.false_or] at h
     simp only [aZ_, List.getElem?_set_self hi, hs]
     exact S.get_put_apart p q s t h
    ·simp only [aZ_, List.getElem?_set_ne ij]
   ·rfl
theorem jJ_ {p q : List Nat} {a b : S} (h : b2_ p q = true) : bA_ (bA_ E p a) q b = bA_ (bA_ E q b) p a := by
 cases p with
 | nil => simp [b2_] at h
 | cons i p => cases q with
  | nil => simp [b2_] at h
  | cons j q =>
   by_cases ij : i = j
   ·subst ij
    simp only [b2_, bne_self_eq_false, Bool.false_or] at h
    cases e : E[i]? with
    | none => simp only [bA_, e]
    | some sl => cases sl with
     | own s =>
      have hi : i < E.length := (List.getElem?_eq_some_iff.mp e).1
      simp only [bA_, e, List.getElem?_set_self hi, List.set_set, S.put_comm p q s a b h]
     | no => simp only [bA_, e]
     | bor r => simp only [bA_, e]
   ·have ji : j ≠ i := fun z => ij z.symm
    cases e : E[i]? with
    | none => cases e2 : E[j]? with
     | none => simp only [bA_, e, e2]
     | some sl => cases sl <;> simp only [bA_, e, e2, List.getElem?_set_ne ij, List.getElem?_set_ne ji]
    | some sl => cases sl with
     | own s => cases e2 : E[j]? with
      | none => simp only [bA_, e, e2, List.getElem?_set_ne ij, List.getElem?_set_ne ji]
      | some sl2 => cases sl2 <;> simp only [bA_, e, e2, List.getElem?_set_ne ij, List.getElem?_set_ne ji] <;> rw [List.set_comm _ _ ij]
     | no => cases e2 : E[j]? with
      | none => simp only [bA_, e, e2]
      | some sl2 => cases sl2 <;> simp only [bA_, e, e2, List.getElem?_set_ne ij, List.getElem?_set_ne ji]
     | bor r => cases e2 : E[j]? with
      | none => simp only [bA_, e, e2]
      | some sl2 => cases sl2 <;> simp only [bA_, e, e2, List.getElem?_set_ne ij, List.getElem?_set_ne ji]
theorem gY_ (p q : List Nat) : aZ_ (bV_ E p) q = aZ_ E q := by
 cases q with
 | nil => rfl
 | cons i q =>
  simp only [aZ_, bV_, List.getElem?_map]
  cases e : E[i]? with
  | none => rfl
  | some sl => cases sl with
   | no => rfl
   | own s => rfl
   | bor r =>
    simp only [Option.map_some, hN_]
    split <;> first | rfl | (split at * <;> simp_all)
theorem fO_ (p : List Nat) : ∀ (ρ : Ro) (E : En), a8_ ρ (bV_ E p) = a8_ ρ E
 | [], _ => by simp [a8_]
 | _ :: _, [] => rfl
 | v :: ρ, e :: E => by
  have ih := fO_ p ρ E
  unfold bV_ at ih
  simp only [bV_, List.map_cons, a8_, ih]
  congr 1
  cases e with
  | no => rfl
  | own s => rfl
  | bor r => simp only [hN_]; split <;> rfl
theorem Core.kill (c : Core K F H ρ E fp) (p : List Nat) : Core K F H ρ (bV_ E p) fp := by
 refine ⟨by unfold bV_; rw [List.length_map]; exact c.len, by rw [fO_]; exact c.own, fun i s h => ?_⟩
 unfold bV_ at h
 rw [List.getElem?_map] at h
 cases e : E[i]? with
 | none => rw [e] at h; cases h
 | some sl =>
  rw [e] at h
  cases sl with
  | no => cases h
  | own w => cases h; exact c.set i _ e
  | bor r =>
   simp only [Option.map_some, hN_, Option.some.injEq] at h
   split at h <;> cases h
variable {F1 F2 H1 H2 : Hp} {fr fp' fp1 fp2 : List Addr} {E' : En}
theorem e3_ : ∀ (p q : List Nat), a3_ p q = false -> p = q ∨ b2_ p q = true ∨ a3_ q p = true
 | [], [], _ => .inl rfl
 | [], j :: q, h => by simp [a3_] at h
 | i :: p, [], _ => .inr (.inr (by simp [a3_]))
 | i :: p, j :: q, h => by
  by_cases ij : i = j
  ·subst ij
   have h' : a3_ p q = false := by simpa [a3_] using h
   rcases e3_ p q h' with e | e | e
   ·exact .inl (by rw [e])
   ·exact .inr (.inl (by simp [b2_, e]))
   ·exact .inr (.inr (by simpa [a3_] using e))
  ·exact .inr (.inl (by simp [b2_, ij]))
theorem S.get_put_above : ∀ (q p : List Nat) (s t u : S), a3_ q p = true -> s.get p = some u -> ((s.put p t).get q).isSome = true
 | [], p, s, t, u, _, _ => by rw [S.get_nil]; rfl
 | j :: q, [], s, t, u, h, _ => by simp [a3_] at h
 | j :: q, i :: p, s, t, u, h, hg => by
  rw [S.get_cons] at hg
  cases e : s.kids[i]? with
  | none => rw [e] at hg; cases hg
  | some w =>
   rw [e] at hg
   have hi := (List.getElem?_eq_some_iff.mp e).1
   have ij : j = i := by
    simp only [a3_, List.isPrefixOf, Bool.and_eq_true, beq_iff_eq] at h
    exact h.1.1
   subst ij
   have h' : a3_ q p = true := by simpa [a3_] using h
   rw [S.put_cons, S.get_cons]
   simp only [e, S.kids_setKid, List.getElem?_set_self hi]
   exact S.get_put_above q p w t u h' hg
theorem en_ {u : S} {q p : List Nat} (q0 : q ≠ []) (h : a3_ q p = true) (hg : aZ_ E p = some u) : (aZ_ (bA_ E p t) q).isSome = true := by
 obtain ⟨i, r, s, rfl, ei, hr⟩ := bl_ hg
 cases q with
 | nil => exact absurd rfl q0
 | cons j q =>
  have ij : j = i := by
   simp only [a3_, List.isPrefixOf, Bool.and_eq_true, beq_iff_eq] at h
   exact h.1.1
  subst ij
  have h' : a3_ q r = true := by simpa [a3_] using h
  have hi : j < E.length := (List.getElem?_eq_some_iff.mp ei).1
  simp only [bA_, ei, aZ_, List.getElem?_set_self hi]
  exact S.get_put_above q r s t u h' hr
structure Rep (K : PySem.W.Frag) (F H : Hp) (ρ : Ro) (E : En) (fp : List Addr) : Prop where
 core : Core K F H ρ E fp
 sub : ∀ a o, F a = some o -> H a = some o
 nd : fp.Nodup
 off : ∀ a ∈ fp, F a = none
 bor : ∀ (i : Nat) (p : List Nat), E[i]? = some (Sl.bor p) -> ∃ v, ρ[i]? = some (some v) /\ aO_ H ρ p = some v /\ (aZ_ E p).isSome = true
structure Grow (F H : Hp) (fp : List Addr) (F' H' : Hp) (fp' : List Addr) : Prop where
 f : ∀ a o, F a = some o -> F' a = some o
 sub : ∀ a o, F' a = some o -> H' a = some o
 keep : ∀ a o, H a = some o -> a ∉ fp -> H' a = some o
 new : ∀ a ∈ fp', a ∈ fp ∨ H a = none
 off : ∀ a, H a ≠ none -> a ∉ fp -> F a = none -> F' a = none
theorem Grow.refl (sub : ∀ a o, F a = some o -> H a = some o) (fp : List Addr) : Grow F H fp F H fp := ⟨fun _ _ h => h, sub, fun _ _ h _ => h, fun _ m => .inl m, fun _ _ _ h => h⟩
theorem Grow.trans (g : Grow F H fp F1 H1 fp1) (h : Grow F1 H1 fp1 F2 H2 fp2) : Grow F H fp F2 H2 fp2 := by
 have out : ∀ a, H a ≠ none -> a ∉ fp -> a ∉ fp1 := fun a h0 n m => (g.new a m).elim n h0
 refine ⟨fun a o e => h.f a o (g.f a o e), h.sub, fun a o e n => h.keep a o (g.keep a o e n) (out a (by rw [e]; exact fun z => nomatch z) n), fun a m => ?_, fun a h0 n e => ?_⟩
 ·rcases h.new a m with q | q
  ·exact g.new a q
  ·by_cases n : a ∈ fp
   ·exact .inl n
   ·refine .inr ?_
    cases e : H a with
    | none => rfl
    | some o => rw [g.keep a o e n] at q; cases q
 ·obtain ⟨o, eo⟩ := Option.ne_none_iff_exists'.mp h0
  exact h.off a (by rw [g.keep a o eo n]; exact fun z => nomatch z) (out a h0 n) (g.off a h0 n e)
theorem Grow.wide (g : Grow F H fp F' H' fp') (h1 : ∀ a ∈ fp, a ∈ fq) (h2 : ∀ a ∈ fr, a ∈ fq ∨ H a = none) : Grow F H fq F' H' fr :=
 ⟨g.f, g.sub, fun a o e n => g.keep a o e fun m => n (h1 a m), h2, fun a h0 n e => g.off a h0 (fun m => n (h1 a m)) e⟩
theorem Grow.less (g : Grow F H fp F' H' fp') (h2 : ∀ a ∈ fr, a ∈ fp') : Grow F H fp F' H' fr := ⟨g.f, g.sub, g.keep, fun a m => g.new a (h2 a m), g.off⟩
theorem Grow.alloc (sub : ∀ a o, F a = some o -> H a = some o) {p : Addr} {o : HO} (hp : H p = none) : Grow F H [] F (upd H p o) [p] := by
 refine ⟨fun _ _ h => h, fun a u e => ?_, fun a u e _ => ?_, fun a m => .inr (by rw [List.mem_singleton.mp m]; exact hp), fun _ _ _ h => h⟩
 ·rw [upd_ne (ne_of_none (sub a u e) hp)]; exact sub a u e
 ·rw [upd_ne (ne_of_none e hp)]; exact e
theorem Grow.share (sub : ∀ a o, F a = some o -> H a = some o) {p : Addr} {o : HO} (hp : H p = none) : Grow F H [] (upd F p o) (upd H p o) [] := by
 have hf : F p = none := by
  cases e : F p with
  | none => rfl
  | some u => rw [sub p u e] at hp; cases hp
 refine ⟨fun a u e => ?_, fun a u e => ?_, fun a u e _ => ?_, (fun _ m => nomatch m), fun a h0 _ e => ?_⟩
 ·rw [upd_ne (ne_of_none e hf)]; exact e
 ·by_cases ap : a = p
  ·subst ap; rw [upd_same] at e ⊢; exact e
  ·rw [upd_ne ap] at e ⊢; exact sub a u e
 ·rw [upd_ne (ne_of_none e hp)]; exact e
 ·rw [upd_ne (fun z => h0 (by rw [z]; exact hp))]; exact e
theorem Rep.there (r : Rep K F H ρ E fp) : ∀ a ∈ fp, ∃ o, H a = some o := r.core.there
theorem Rep.grow (r : Rep K F H ρ E fp) (g : Grow F H [] F' H' fr) : Rep K F' H' ρ E fp := by
 have k : ∀ a ∈ fp, ∀ o, H a = some o -> H' a = some o := fun a _ o e => g.keep a o e (fun m => nomatch m)
 refine ⟨r.core.frame g.f g.sub k, g.sub, r.nd, fun a m => ?_, fun i p h => ?_⟩
 ·obtain ⟨o, e⟩ := r.there a m
  exact g.off a (by rw [e]; exact fun z => nomatch z) (fun m => nomatch m) (r.off a m)
 ·obtain ⟨v, h1, h2, h3⟩ := r.bor i p h
  obtain ⟨t, ht⟩ := Option.isSome_iff_exists.mp h3
  exact ⟨v, h1, by rw [r.core.follow_keep (fun b o e => g.sub b o (g.f b o e)) ht k]; exact h2, h3⟩
theorem Own.grow (o : Own K F H v s fq) (g : Grow F H fp F' H' fp') (d : ∀ a ∈ fq, a ∉ fp) : Own K F' H' v s fq := o.frame g.f g.sub fun a m u e => g.keep a u e (d a m)
theorem Rep.focus2 {p : List Nat} (r : Rep K F H ρ E fp) (h : aZ_ E p = some t) :
  ∃ u fp1 fp2, aO_ H ρ p = some u /\ Own K F H u t fp1 /\ fp.Perm (fp1 ++ fp2) ∧
   ∀ F' H' t' fq X Y, Grow F H (X ++ fp1) F' H' (Y ++ fq) -> (∀ a ∈ X, a ∉ fp) -> Own K F' H' u t' fq -> (Y ++ fq).Nodup -> (∀ a ∈ fq, F' a = none) →
    Rep K F' H' ρ (bV_ (bA_ E p t') p) (fq ++ fp2) /\ (Y ++ (fq ++ fp2)).Nodup /\ Grow F H (X ++ fp) F' H' (Y ++ (fq ++ fp2)) := by
 obtain ⟨u, fp1, fp2, h1, h2, c, pm⟩ := r.core.take h
 have nd : (fp1 ++ fp2).Nodup := pm.nodup_iff.mp r.nd
 have in1 : ∀ a ∈ fp1, a ∈ fp := fun a m => pm.mem_iff.mpr (List.mem_append_left _ m)
 have in2 : ∀ a ∈ fp2, a ∈ fp := fun a m => pm.mem_iff.mpr (List.mem_append_right _ m)
 refine ⟨u, fp1, fp2, h1, h2, pm, fun F' H' t' fq X Y g dX o n off => ?_⟩
 have dj : ∀ a ∈ fp2, a ∉ X ++ fp1 := fun a m2 m1 => by
  rcases List.mem_append.mp m1 with m | m
  ·exact dX a m (in2 a m2)
  ·exact (List.nodup_append.mp nd).2.2 a m a m2 rfl
 have k : ∀ a ∈ fp2, ∀ o, H a = some o -> H' a = some o := fun a m o e => g.keep a o e (dj a m)
 have c1 : Core K F' H' ρ (bA_ E p (.con u)) fp2 := c.frame g.f g.sub k
 have c2 : Core K F' H' ρ (bA_ E p t') (fq ++ fp2) := by
  have := c1.put (c9_ h) o
  rw [gX_] at this
  exact this
 have there2 : ∀ a ∈ fp2, ∃ o, H a = some o := fun a m => r.there a (in2 a m)
 have notnew : ∀ a ∈ fp2, a ∉ Y ++ fq := fun a m m2 => by
  obtain ⟨o, eo⟩ := there2 a m
  rcases g.new a m2 with z | z
  ·exact dj a m z
  ·rw [eo] at z; cases z
 have ndq : (fq ++ fp2).Nodup := List.nodup_append.mpr ⟨(List.nodup_append.mp n).2.1, (List.nodup_append.mp nd).2.1, fun a m b m2 e => by
  subst e; exact notnew a m2 (List.mem_append_right _ m)⟩
 refine ⟨⟨c2.kill p, g.sub, ndq, fun a m => ?_, fun i q hb => ?_⟩, ?_, ?_⟩
 ·rcases List.mem_append.mp m with m | m
  ·exact off a m
  ·obtain ⟨o, eo⟩ := there2 a m
   exact g.off a (by rw [eo]; exact fun z => nomatch z) (dj a m) (r.off a (in2 a m))
 ·-- what is borrowed
  have hb' : E[i]? = some (Sl.bor q) /\ a3_ p q = false := by
   unfold bV_ at hb
   rw [List.getElem?_map] at hb
   cases e : (bA_ E p t')[i]? with
   | none => rw [e] at hb; cases hb
   | some sl =>
    rw [e] at hb
    cases sl with
    | no => cases hb
    | own w => cases hb
    | bor w =>
     simp only [Option.map_some, hN_, Option.some.injEq] at hb
     have hw : a3_ p w = false /\ w = q := by
      cases hh : a3_ p w with
      | true => rw [hh] at hb; simp at hb
      | false => rw [hh] at hb; simp at hb; exact ⟨rfl, hb⟩
     obtain ⟨hw1, rfl⟩ := hw
     refine ⟨?_, hw1⟩
     obtain ⟨j, r', s', rfl, ej, _⟩ := bl_ h
     simp only [bA_, ej] at e
     by_cases ij : j = i
     ·subst ij
      have hj := (List.getElem?_eq_some_iff.mp ej).1
      rw [List.getElem?_set_self hj] at e
      cases e
     ·rw [List.getElem?_set_ne ij] at e
      exact e
  obtain ⟨hb', hw⟩ := hb'
  obtain ⟨v, e1, e2, e3⟩ := r.bor i q hb'
  obtain ⟨w, ew⟩ := Option.isSome_iff_exists.mp e3
  refine ⟨v, e1, ?_, ?_⟩
  ·have : ∃ w', aZ_ (bA_ E p (.con u)) q = some w' := by
    rcases e3_ p q hw with e | e | e
    ·subst e; exact ⟨_, c9_ h⟩
    ·exact ⟨w, by rw [bI_ e]; exact ew⟩
    ·have q0 : q ≠ [] := fun z => by rw [z] at ew; cases ew
     exact Option.isSome_iff_exists.mp (en_ q0 e h)
   obtain ⟨w', ew'⟩ := this
   rw [c.follow_keep (fun b o e => g.sub b o (g.f b o e)) ew' k]; exact e2
  ·rw [gY_]
   rcases e3_ p q hw with e | e | e
   ·subst e; rw [c9_ h]; rfl
   ·rw [bI_ e]; exact e3
   ·have q0 : q ≠ [] := fun z => by rw [z] at ew; cases ew
    exact en_ q0 e h
 ·exact List.nodup_append.mpr ⟨(List.nodup_append.mp n).1, ndq, fun a m b m2 e => by
   subst e
   rcases List.mem_append.mp m2 with m2 | m2
   ·exact (List.nodup_append.mp n).2.2 a m a m2 rfl
   ·exact notnew a m2 (List.mem_append_left _ m)⟩
 ·refine g.wide (fun a m => ?_) fun a m => ?_
  ·rcases List.mem_append.mp m with m | m
   ·exact List.mem_append_left _ m
   ·exact List.mem_append_right _ (in1 a m)
  ·rcases List.mem_append.mp m with m | m
   ·rcases g.new a (List.mem_append_left _ m) with z | z
    ·exact .inl (List.mem_append.mpr ((List.mem_append.mp z).imp id (in1 a)))
    ·exact .inr z
   ·rcases List.mem_append.mp m with m | m
    ·rcases g.new a (List.mem_append_right _ m) with z | z
     ·exact .inl (List.mem_append.mpr ((List.mem_append.mp z).imp id (in1 a)))
     ·exact .inr z
    ·exact .inl (List.mem_append_right _ (in2 a m))
end Mv
namespace Mv
open PySem PySem.Spec PyProof.Rows L2
variable {K : PySem.W.Frag} {F F' F1 F2 H H' H1 H2 : Hp} {v u x y : V} {vs : List V} {s t : S} {ss : List S} {fp fq fr fp' fp1 fp2 f1 f2 : List Addr} {ρ as : Ro} {E E' : En} {n : Nat}
mutual
def S.toD : S -> Option PyData
 | .dat d => some d
 | .lst xs => (S.toDs xs).map .list
 | _ => none
def S.toDs : List S -> Option (List PyData)
 | [] => some []
 | s :: ss => match S.toD s, S.toDs ss with
  | some d, some ds => some (d :: ds)
  | _, _ => none
end
mutual
theorem Own.dp (sub : ∀ a o, F a = some o -> H a = some o) : ∀ (s : S) {v : V} {fp : List Addr} {d : PyData}, Own K F H v s fp -> s.toD = some d -> Dq K H v d
 | .dat d, v, fp, d', o, e => by
  simp only [S.toD, Option.some.injEq] at e
  subst e
  exact Dq.mono sub (o.dat_inv rfl).1
 | .lst xs, v, fp, d', o, e => by
  simp only [S.toD, Option.map_eq_some_iff] at e
  obtain ⟨ds, e, rfl⟩ := e
  cases o with
  | @node a ob _ ex fq h hd l =>
   cases ob with
   | lst vs => exact .lst (.inl (.inl h)) (Own.dps sub xs l e)
   | frz o u => cases u <;> exact hd.elim
   | _ => exact hd.elim
 | .con _, _, _, _, _, e => by simp [S.toD] at e
 | .ext _, _, _, _, _, e => by simp [S.toD] at e
 | .tup _, _, _, _, _, e => by simp [S.toD] at e
 | .dct _ _, _, _, _, _, e => by simp [S.toD] at e
 | .ins _ _, _, _, _, _, e => by simp [S.toD] at e
theorem Own.dps (sub : ∀ a o, F a = some o -> H a = some o) : ∀ (ss : List S) {vs : List V} {fp : List Addr} {ds : List PyData}, OwnL K F H vs ss fp -> S.toDs ss = some ds -> DqAll K H vs ds
 | [], vs, fp, ds, o, e => by
  simp only [S.toDs, Option.some.injEq] at e
  subst e
  cases o
  exact .nil
 | s :: ss, vs, fp, ds, o, e => by
  cases o with
  | cons a l =>
   simp only [S.toDs] at e
   split at e
   ·next d ds' e1 e2 =>
    cases e
    exact .cons (Own.dp sub s a e1) (Own.dps sub ss l e2)
   ·cases e
end
inductive Rs where
 | val (s : S)
 | pl (p : List Nat)
def RsAt (K : PySem.W.Frag) (F H : Hp) (ρ : Ro) (E : En) (v : V) : Rs -> List Addr -> Prop
 | .val s, fr => Own K F H v s fr
 | .pl p, fr => fr = [] /\ aO_ H ρ p = some v /\ (aZ_ E p).isSome = true
def Rs.full (E : En) : Rs -> Option PyData
 | .val s => s.toD
 | .pl p => (aZ_ E p).bind S.toD
def Rs.at (E : En) : Rs -> Option S
 | .val s => some s
 | .pl p => aZ_ E p
theorem Rs.full_at {r : Rs} : r.full E = (r.at E).bind S.toD := by cases r <;> rfl
theorem Grow.seq0 (g : Grow F H [] F1 H1 f1) (h : Grow F1 H1 [] F2 H2 f2) : Grow F H [] F2 H2 (f1 ++ f2) := by
 have g' := g.less (fr := []) (fun _ m => nomatch m)
 have gh := g'.trans h
 refine ⟨gh.f, gh.sub, gh.keep, fun a m => ?_, gh.off⟩
 rcases List.mem_append.mp m with m | m
 ·exact g.new a m
 ·exact gh.new a m
theorem Grow.drop (g : Grow F H [] F1 H1 f1) : Grow F H [] F1 H1 [] := g.less fun _ m => nomatch m
theorem RsAt.grow {r : Rs} (R : Rep K F H ρ E fp) (a : RsAt K F H ρ E v r fr) (g : Grow F H [] F' H' f1) : RsAt K F' H' ρ E v r fr := by
 cases r with
 | val s => exact Own.grow (show Own K F H v s fr from a) g (fun _ _ m => nomatch m)
 | pl p =>
  obtain ⟨a1, a2, a3⟩ := a
  obtain ⟨t, ht⟩ := Option.isSome_iff_exists.mp a3
  exact ⟨a1, by rw [R.core.follow_keep (fun b o e => g.sub b o (g.f b o e)) ht fun a _ o e => g.keep a o e (fun m => nomatch m)]; exact a2, a3⟩
theorem RsAt.own {r : Rs} (R : Rep K F H ρ E fp) (a : RsAt K F H ρ E v r fr) (h : r.at E = some s) : ∃ fq, Own K F H v s fq := by
 cases r with
 | val t =>
  cases h
  exact ⟨fr, a⟩
 | pl p =>
  obtain ⟨a1, a2, a3⟩ := a
  obtain ⟨u, f1, f2, e1, o, _⟩ := R.core.take (show aZ_ E p = some s from h)
  rw [a2] at e1
  cases e1
  exact ⟨f1, o⟩
theorem RsAt.dp {r : Rs} {d : PyData} (R : Rep K F H ρ E fp) (a : RsAt K F H ρ E v r fr) (h : r.full E = some d) : Dq K H v d := by
 rw [Rs.full_at] at h
 obtain ⟨s, hs, hd⟩ := Option.bind_eq_some_iff.mp h
 obtain ⟨fq, o⟩ := a.own R hs
 exact Own.dp R.sub s o hd
def EvP (K : PySem.W.Frag) (n : Nat) (as : Ro) (te : TE) (d : En -> Option Rs) : Prop :=
 ∀ {F H : Hp} {σ : L2.St} {E : En} {fp : List Addr}, σ.length = n -> Rep K F H (σ ++ as) E fp -> ∀ {r : Rs}, d E = some r -> ∀ {Q : VK},
  (∀ v F' H' fr, Grow F H [] F' H' fr -> RsAt K F' H' (σ ++ as) E v r fr -> fr.Nodup -> (∀ a ∈ fr, F' a = none) -> Q v H') -> te σ H Q
def EvT (K : PySem.W.Frag) (n : Nat) (as : Ro) (tt : TT) (d : En -> Option Bool) : Prop :=
 ∀ {F H : Hp} {σ : L2.St} {E : En} {fp : List Addr}, σ.length = n -> Rep K F H (σ ++ as) E fp -> ∀ {b : Bool}, d E = some b -> ∀ {Q : Bool -> Hp -> Prop},
  (∀ F' H', Grow F H [] F' H' [] -> Q b H') -> tt σ H Q
inductive RsAll (K : PySem.W.Frag) (F H : Hp) (ρ : Ro) (E : En) : List V -> List Rs -> List Addr -> Prop
 | nil : RsAll K F H ρ E [] [] []
 | cons {v : V} {vs : List V} {r : Rs} {rs : List Rs} {f g : List Addr} : RsAt K F H ρ E v r f -> RsAll K F H ρ E vs rs g -> RsAll K F H ρ E (v :: vs) (r :: rs) (f ++ g)
def EvA (K : PySem.W.Frag) (n : Nat) (as : Ro) (ta : TA) (d : En -> Option (List Rs)) : Prop :=
 ∀ {F H : Hp} {σ : L2.St} {E : En} {fp : List Addr}, σ.length = n -> Rep K F H (σ ++ as) E fp -> ∀ {rs : List Rs}, d E = some rs -> ∀ {Q : List V -> Hp -> Prop},
  (∀ vs F' H' fr, Grow F H [] F' H' fr -> RsAll K F' H' (σ ++ as) E vs rs fr -> fr.Nodup -> (∀ a ∈ fr, F' a = none) -> Q vs H') -> ta σ H Q
theorem Own.fresh (o : RsAt K F H ρ E v r fr) (g : Grow F H [] F1 H1 f1) (z : ∀ a ∈ fr, ∃ o, H a = some o) : ∀ a ∈ fr, ∀ b ∈ f1, a ≠ b := fun a m b m1 e => by
 subst e
 obtain ⟨o, eo⟩ := z a m
 rcases g.new a m1 with q | q
 ·cases q
 ·rw [eo] at q; cases q
theorem RsAt.there {r : Rs} (a : RsAt K F H ρ E v r fr) : ∀ b ∈ fr, ∃ o, H b = some o := by
 cases r with
 | val s => exact Own.there (show Own K F H v s fr from a)
 | pl p =>
  obtain ⟨a1, _⟩ := a
  subst a1
  exact fun _ m => nomatch m
theorem aG_ (n1 : f1.Nodup) (n2 : f2.Nodup) (d : ∀ a ∈ f1, ∀ b ∈ f2, a ≠ b) : (f1 ++ f2).Nodup := List.nodup_append.mpr ⟨n1, n2, d⟩
def mU_ : PyData -> Bool
 | .none => true | .bool _ => true | .int _ => true | .str _ => true
 | _ => false
def scV : PyData -> V
 | .bool b => .bl b | .int i => .int i | .str x => .str x
 | _ => .non
theorem fd_ {d : PyData} (h : mU_ d = true) : Dq K F (scV d) d := by
 cases d with
 | none => exact .non
 | bool b => exact .bl b
 | int i => exact .int i
 | str x => exact .str x
 | _ => cases h
def ab_ (i : Nat) (E : En) : Option Rs := match E[i]? with
 | some (.own (.dat d)) => some (.val (.dat d))
 | some (.own (.con v)) => some (.val (.con v))
 | some (.own s) => some (.pl [i])
 | some (.bor p) => some (.pl p)
 | _ => none
def dC (d : PyData) (_ : En) : Option Rs := some (.val (.dat d))
def qG_ (v : V) (_ : En) : Option Rs := some (.val (.con v))
def dOp (f : PyData -> PyData -> Option PyData) (da db : En -> Option Rs) (E : En) : Option Rs := match da E, db E with
 | some a, some b => match a.full E, b.full E with
  | some a, some b => (f a b).map fun c => .val (.dat c)
  | _, _ => none
 | _, _ => none
def aj_ (d : En -> Option Rs) (E : En) : Option Bool := match d E with
 | some (.val (.dat (.bool b))) => some b
 | _ => none
def hH_ (dt du : En -> Option Bool) (E : En) : Option Bool := match dt E with
 | some true => du E
 | o => o
def dOr (dt du : En -> Option Bool) (E : En) : Option Bool := match dt E with
 | some false => du E
 | o => o
def hO_ (dt : En -> Option Bool) (E : En) : Option Bool := (dt E).map (!·)
def dM_ (dt : En -> Option Bool) (da db : En -> Option Rs) (E : En) : Option Rs := match dt E with
 | some true => da E
 | some false => db E
 | none => none
def ai_ (_ : En) : Option (List Rs) := some []
def aa_ (da : En -> Option Rs) (dr : En -> Option (List Rs)) (E : En) : Option (List Rs) := match da E, dr E with
 | some a, some r => some (a :: r)
 | _, _ => none
section
variable {te ta tb : TE} {d da db : En -> Option Rs}
theorem bB_ {i : Nat} (hi : i < n) : EvP K n as (tVar i) (ab_ i) := by
 intro F H σ E fp L R r e Q q
 unfold ab_ at e
 have main : ∀ v, (σ ++ as)[i]? = some (some v) -> σ[i]? = some (some v) := fun v h => by rwa [List.getElem?_append_left (by omega)] at h
 cases he : E[i]? with
 | none => rw [he] at e; cases e
 | some sl =>
  rw [he] at e
  cases sl with
  | no => cases e
  | bor p =>
   cases e
   obtain ⟨v, h1, h2, h3⟩ := R.bor i p he
   exact ⟨v, main v h1, q v F H [] (.refl R.sub []) ⟨rfl, h2, h3⟩ List.nodup_nil (fun _ m => nomatch m)⟩
  | own s =>
   obtain ⟨v, h1⟩ := R.core.set i s he
   have g : aZ_ E [i] = some s := by simp only [aZ_, he, S.get_nil]
   obtain ⟨u, g1, g2, e1, o, c, _⟩ := R.core.take g
   have eu : u = v := by simp only [aO_, h1, bH_] at e1; exact (Option.some.inj e1).symm
   subst eu
   have pl : some (Rs.pl [i]) = some r -> Q u H := fun e' => by
    have e2 := Option.some.inj e'
    subst e2
    exact q u F H [] (.refl R.sub []) ⟨rfl, e1, by rw [g]; rfl⟩ List.nodup_nil (fun _ m => nomatch m)
   refine ⟨u, main u h1, ?_⟩
   cases s with
   | dat d =>
    cases e
    exact q u F H [] (.refl R.sub []) (.dat (o.dat_inv rfl).1) List.nodup_nil (fun _ m => nomatch m)
   | con w =>
    cases e
    obtain ⟨rfl, _⟩ := o.con_inv rfl
    exact q u F H [] (.refl R.sub []) .con List.nodup_nil (fun _ m => nomatch m)
   | lst _ => exact pl e
   | dct _ _ => exact pl e
   | ins _ _ => exact pl e
   | ext _ => exact pl e
   | tup _ => exact pl e
theorem p_c {d : PyData} (h : mU_ d = true := by rfl) : EvP K n as (tC (scV d)) (dC d) := by
 intro F H σ E fp L R r e Q q
 cases e
 exact q _ F H [] (.refl R.sub []) (.dat (fd_ h)) List.nodup_nil (fun _ m => nomatch m)
theorem p0_ : EvP K n as (tC v) (qG_ v) := by
 intro F H σ E fp L R r e Q q
 cases e
 exact q _ F H [] (.refl R.sub []) .con List.nodup_nil (fun _ m => nomatch m)
def Rv2 (K : PySem.W.Frag) (r : R2) (f : PyData -> PyData -> Option PyData) : Prop :=
 ∀ {H : Hp} {x y : V} {a b c : PyData}, Dq K H x a -> Dq K H y b -> f a b = some c -> ∀ {Q : VK}, (mU_ c = true -> Q (scV c) H) -> r x y H Q
theorem bm_ {r : R2} {f : PyData -> PyData -> Option PyData} (hr : Rv2 K r f) (ha : EvP K n as ta da) (hb : EvP K n as tb db) :
  EvP K n as (tOp r ta tb) (dOp f da db) := by
 intro F H σ E fp L R r' e Q q
 unfold dOp at e
 split at e
 ·next a b ea eb =>
  split at e
  ·next a' b' ea' eb' =>
   obtain ⟨c, ec, rfl⟩ := Option.map_eq_some_iff.mp e
   refine ha L R ea fun x F1 H1 f1 g1 r1 n1 o1 => hb L (R.grow g1) eb fun y F2 H2 f2 g2 r2 n2 o2 => ?_
   have R2 := (R.grow g1).grow g2
   refine hr ((r1.grow (R.grow g1) g2).dp R2 ea') (r2.dp R2 eb') ec fun hc => ?_
   exact q _ F2 H2 [] ((g1.seq0 g2).drop) (.dat (fd_ hc)) List.nodup_nil (fun _ m => nomatch m)
  ·cases e
 ·cases e
theorem aN_ (h : EvP K n as te d) : EvT K n as (tTest te) (aj_ d) := by
 intro F H σ E fp L R b e Q q
 unfold aj_ at e
 split at e
 ·next c ed =>
  cases e
  refine h L R ed fun v F1 H1 f1 g1 r1 n1 o1 => ?_
  have := (Own.dat_inv (show Own K F1 H1 v _ f1 from r1) rfl).1
  cases this
  exact ⟨b, rfl, q F1 H1 g1.drop⟩
 ·cases e
theorem mb_ (h : EvP K n as te d) : EvT K n as (tB te) (aj_ d) := aN_ h
variable {tt uu : TT} {dt du : En -> Option Bool}
theorem lh_ (ht : EvT K n as tt dt) (hu : EvT K n as uu du) : EvT K n as (tAnd tt uu) (hH_ dt du) := by
 intro F H σ E fp L R b e Q q
 unfold hH_ at e
 cases h : dt E with
 | none => rw [h] at e; cases e
 | some c =>
  rw [h] at e
  refine ht L R h fun F1 H1 g1 => ?_
  cases c with
  | true => exact iteT (hu L (R.grow g1) e fun F2 H2 g2 => q F2 H2 (g1.seq0 g2))
  | false =>
   cases e
   exact iteF (q F1 H1 g1)
theorem li_ (ht : EvT K n as tt dt) (hu : EvT K n as uu du) : EvT K n as (tOr tt uu) (dOr dt du) := by
 intro F H σ E fp L R b e Q q
 unfold dOr at e
 cases h : dt E with
 | none => rw [h] at e; cases e
 | some c =>
  rw [h] at e
  refine ht L R h fun F1 H1 g1 => ?_
  cases c with
  | false => exact iteF (hu L (R.grow g1) e fun F2 H2 g2 => q F2 H2 (g1.seq0 g2))
  | true =>
   cases e
   exact iteT (q F1 H1 g1)
theorem lj_ (ht : EvT K n as tt dt) : EvT K n as (tNot tt) (hO_ dt) := by
 intro F H σ E fp L R b e Q q
 obtain ⟨c, h, rfl⟩ := Option.map_eq_some_iff.mp e
 exact ht L R h fun F1 H1 g1 => q F1 H1 g1
theorem i5_ (ht : EvT K n as tt dt) (ha : EvP K n as ta da) (hb : EvP K n as tb db) : EvP K n as (tIf tt ta tb) (dM_ dt da db) := by
 intro F H σ E fp L R r e Q q
 unfold dM_ at e
 cases h : dt E with
 | none => rw [h] at e; cases e
 | some c =>
  rw [h] at e
  refine ht L R h fun F1 H1 g1 => ?_
  cases c with
  | true => exact iteT (ha L (R.grow g1) e fun v F2 H2 f2 g2 a2 n2 o2 => q v F2 H2 f2 (g1.seq0 g2) a2 n2 o2)
  | false => exact iteF (hb L (R.grow g1) e fun v F2 H2 f2 g2 a2 n2 o2 => q v F2 H2 f2 (g1.seq0 g2) a2 n2 o2)
theorem ar_ : EvA K n as tNil ai_ := by
 intro F H σ E fp L R r e Q q
 cases e
 exact q [] F H [] (.refl R.sub []) .nil List.nodup_nil (fun _ m => nomatch m)
variable {tr : TA} {dr : En -> Option (List Rs)}
theorem ac_ (ha : EvP K n as ta da) (hr : EvA K n as tr dr) : EvA K n as (tCons ta tr) (aa_ da dr) := by
 intro F H σ E fp L R r e Q q
 unfold aa_ at e
 split at e
 ·next a r ea er =>
  cases e
  refine ha L R ea fun x F1 H1 f1 g1 r1 n1 o1 => hr L (R.grow g1) er fun xs F2 H2 f2 g2 r2 n2 o2 => ?_
  refine q _ F2 H2 (f1 ++ f2) (g1.seq0 g2) (.cons (r1.grow (R.grow g1) g2) r2) (aG_ n1 n2 (Own.fresh r1 g2 r1.there)) fun a m => ?_
  rcases List.mem_append.mp m with m | m
  ·obtain ⟨o, eo⟩ := r1.there a m
   exact g2.off a (by rw [eo]; exact fun z => nomatch z) (fun z => nomatch z) (o1 a m)
  ·exact o2 a m
 ·cases e
end
variable {te ta tb tc : TE} {d da db dc : En -> Option Rs} {tr : TA} {dr : En -> Option (List Rs)}
theorem DqAll.nth : ∀ {vs : List V} {ds : List PyData} {i : Nat} {d : PyData}, DqAll K F vs ds -> ds[i]? = some d -> ∃ v, vs[i]? = some v /\ Dq K F v d
 | _, _, _, _, .nil, e => by simp at e
 | _, _, 0, d, .cons h _, e => by
  simp only [List.getElem?_cons_zero, Option.some.injEq] at e
  subst e
  exact ⟨_, rfl, h⟩
 | _, _, i + 1, d, .cons _ t, e => by
  obtain ⟨v, h1, h2⟩ := DqAll.nth (i := i) t (by simpa using e)
  exact ⟨v, by simpa using h1, h2⟩
theorem DqAll.len : ∀ {vs : List V} {ds : List PyData}, DqAll K F vs ds -> vs.length = ds.length
 | _, _, .nil => rfl
 | _, _, .cons _ t => by simp only [List.length_cons, DqAll.len t]
theorem Dq.list_inv {ds : List PyData} (h : Dq K F v (.list ds)) : ∃ a xs, v = .ref a /\ SqL K F a xs /\ DqAll K F xs ds := by
 cases h with
 | lst a b => exact ⟨_, _, rfl, a, b⟩
theorem Dq.tuple_inv {ds : List PyData} (h : Dq K F v (.tuple ds)) : ∃ a xs, v = .ref a /\ SqT K F a xs /\ DqAll K F xs ds := by
 cases h with
 | tup a b => exact ⟨_, _, rfl, a.sq, b⟩
theorem Own.lst_inv (o : Own K F H v s fp) (e : s = .lst ss) : ∃ a vs fq, v = .ref a /\ H a = some (.lst vs) /\ OwnL K F H vs ss fq /\ fp = a :: fq := by
 cases o with
 | dat _ => cases e
 | con => cases e
 | ext => cases e
 | @node a ob _ ex fq h hd l =>
  subst e
  cases ob with
  | lst vs =>
   have : ex = [] := hd
   subst this
   exact ⟨a, vs, fq, rfl, h, l, rfl⟩
  | frz o u => cases u <;> exact hd.elim
  | _ => exact hd.elim
 | lck => cases e
 | tp => cases e
theorem oi_ {n : Nat} {i : Int} {j : Nat} (h : ixN n i = some j) : j < n := (ixN_seq h).2.1
def Rs.kid (r : Rs) (j : Nat) (s : S) : Option Rs := match s, r with
 | .dat d, _ => some (.val (.dat d))
 | _, .pl p => some (.pl (p ++ [j]))
 | _, _ => none
theorem gZ_ {p : List Nat} {a : Addr} {o : HO} {j : Nat} {w : V} (h : aO_ H ρ p = some (.ref a)) (e : H a = some o) (k : (i4_ o)[j]? = some w) : aO_ H ρ (p ++ [j]) = some w := by
 have go : ∀ (p : List Nat) (v : V), cY_ H v p = some (.ref a) -> cY_ H v (p ++ [j]) = some w := by
  intro p
  induction p with
  | nil =>
   intro v h
   rw [bH_] at h
   cases h
   rw [List.nil_append, a2_ e k, bH_]
  | cons i p ih =>
   intro v h
   cases v with
   | ref b =>
    rw [List.cons_append]
    simp only [cY_] at h
    split at h
    ·next ob hb =>
     split at h
     ·next x hx => rw [a2_ hb hx]; exact ih _ h
     ·cases h
    ·cases h
   | _ => cases h
 cases p with
 | nil => cases h
 | cons i p =>
  rw [List.cons_append]
  unfold aO_ at h ⊢
  dsimp only at h ⊢
  split at h
  ·exact go p _ h
  ·cases h
theorem S.get_snoc {j : Nat} {k : S} : ∀ (p : List Nat) {s t : S}, s.get p = some t -> t.kids[j]? = some k -> s.get (p ++ [j]) = some k
 | [], s, t, h, e => by
  rw [S.get_nil] at h
  cases h
  rw [List.nil_append, S.get_cons, e]
  exact S.get_nil k
 | i :: p, s, t, h, e => by
  rw [S.get_cons] at h
  rw [List.cons_append, S.get_cons]
  split at h
  ·exact S.get_snoc p h e
  ·cases h
theorem jK_ {p : List Nat} {j : Nat} {k : S} (h : aZ_ E p = some t) (e : t.kids[j]? = some k) : aZ_ E (p ++ [j]) = some k := by
 obtain ⟨i, q, s, rfl, ei, hq⟩ := bl_ h
 simp only [List.cons_append, aZ_, ei]
 exact S.get_snoc q hq e
theorem RsAt.kid {r r' : Rs} {a : Addr} {o : HO} {j : Nat} {w : V} {f : List Addr} (R : Rep K F H ρ E fp) (h : RsAt K F H ρ E (.ref a) r fr) (ea : r.at E = some t) (ho : H a = some o) (hk : (i4_ o)[j]? = some w) (hs : t.kids[j]? = some s) (ow : Own K F H w s f) (e : r.kid j s = some r') :
  RsAt K F H ρ E w r' [] := by
 cases s with
 | dat d =>
  cases r <;> (cases e; exact .dat (ow.dat_inv rfl).1)
 | _ => cases r with
  | val _ => cases e
  | pl p =>
   cases e
   obtain ⟨_, h2, h3⟩ := h
   exact ⟨rfl, gZ_ h2 ho hk, by rw [jK_ ea hs]; rfl⟩
theorem OwnL.nth : ∀ {vs : List V} {ss : List S} {fp : List Addr} {i : Nat} {s : S}, OwnL K F H vs ss fp -> ss[i]? = some s -> ∃ v f, vs[i]? = some v /\ Own K F H v s f
 | _, _, _, _, _, .nil, e => by simp at e
 | _, _, _, 0, s, .cons h _, e => by
  simp only [List.getElem?_cons_zero, Option.some.injEq] at e
  subst e
  exact ⟨_, _, rfl, h⟩
 | _, _, _, i + 1, s, .cons _ t, e => by
  obtain ⟨v, f, h1, h2⟩ := OwnL.nth (i := i) t (by simpa using e)
  exact ⟨v, f, by simpa using h1, h2⟩
def aC_ (da db : En -> Option Rs) (E : En) : Option Rs := match da E, db E with
 | some r, some (.val (.dat (.int i))) => match r.at E with
  | some (.lst ss) => match ixN ss.length i with
   | some j => match ss[j]? with
    | some s => r.kid j s
    | none => none
   | none => none
  | some (.dat (.list ds)) => match ixN ds.length i with
   | some j => (ds[j]?).map fun d => .val (.dat d)
   | none => none
  | _ => none
 | _, _ => none
theorem bt_ (ha : EvP K n as ta da) (hb : EvP K n as tb db) : EvP K n as (tOp (rIxL K) ta tb) (aC_ da db) := by
 intro F H σ E fp L R r' e Q q
 unfold aC_ at e
 split at e
 ·next r i ea eb =>
  refine ha L R ea fun x F1 H1 f1 g1 r1 n1 o1 => hb L (R.grow g1) eb fun y F2 H2 f2 g2 r2 n2 o2 => ?_
  have R2 := (R.grow g1).grow g2
  have r1' := r1.grow (R.grow g1) g2
  have gg := (g1.seq0 g2).drop
  cases (Own.dat_inv (show Own K F2 H2 y _ f2 from r2) rfl).1
  split at e
  ·next ss es =>
   split at e
   ·next j ej =>
    split at e
    ·next s hs =>
     obtain ⟨fq, o⟩ := r1'.own R2 es
     obtain ⟨a, vs, fq', rfl, hH, l, _⟩ := o.lst_inv rfl
     obtain ⟨w, f, hw, ow⟩ := l.nth hs
     refine ⟨a, vs, i, w, rfl, rfl, .inl (.inl hH), by unfold atI; rw [l.length, ej]; exact hw, ?_⟩
     exact q w F2 H2 [] gg (r1'.kid R2 es hH hw hs ow e) List.nodup_nil (fun _ m => nomatch m)
    ·cases e
   ·cases e
  ·next ds es =>
   split at e
   ·next j ej =>
    obtain ⟨d, hd, rfl⟩ := Option.map_eq_some_iff.mp e
    obtain ⟨fq, o⟩ := r1'.own R2 es
    obtain ⟨a, xs, rfl, hq, da⟩ := Mv.Dq.list_inv (o.dat_inv rfl).1
    obtain ⟨w, hw, dw⟩ := Mv.DqAll.nth da hd
    refine ⟨a, xs, i, w, rfl, rfl, SqL.mono R2.sub hq, by unfold atI; rw [Mv.DqAll.len da, ej]; exact hw, ?_⟩
    exact q w F2 H2 [] gg (.dat dw) List.nodup_nil (fun _ m => nomatch m)
   ·cases e
  ·cases e
 ·cases e
def oj_ (da db : En -> Option Rs) (E : En) : Option Rs := match da E, db E with
 | some r, some (.val (.dat (.int i))) => match r.at E with
  | some (.dat (.tuple ds)) => match ixN ds.length i with
   | some j => (ds[j]?).map fun d => .val (.dat d)
   | none => none
  | _ => none
 | _, _ => none
def b4_ (da db : En -> Option Rs) (E : En) : Option Rs := match da E with
 | some (.val (.dat (.bool true))) => db E
 | some (.val (.dat (.bool false))) => some (.val (.dat (.bool false)))
 | _ => none
def ok_ (da db : En -> Option Rs) (E : En) : Option Rs := match da E with
 | some (.val (.dat (.bool false))) => db E
 | some (.val (.dat (.bool true))) => some (.val (.dat (.bool true)))
 | _ => none
def fe_ (da : En -> Option Rs) (E : En) : Option Rs := match da E with
 | some (.val (.dat (.bool b))) => some (.val (.dat (.bool (!b))))
 | _ => none
theorem fP_ (ha : EvP K n as ta da) (hb : EvP K n as tb db) : EvP K n as (tAndV ta tb) (b4_ da db) := by
 intro F H σ E fp L R r e Q q
 unfold b4_ at e
 split at e
 ·next ea =>
  refine ha L R ea fun x F1 H1 f1 g1 r1 n1 o1 => ?_
  cases (Own.dat_inv (show Own K F1 H1 x _ f1 from r1) rfl).1
  exact ⟨true, rfl, iteT (hb L (R.grow g1) e fun v F2 H2 f2 g2 a2 n2 o2 => q v F2 H2 f2 (g1.drop.seq0 g2) a2 n2 o2)⟩
 ·next ea =>
  cases e
  refine ha L R ea fun x F1 H1 f1 g1 r1 n1 o1 => ?_
  cases (Own.dat_inv (show Own K F1 H1 x _ f1 from r1) rfl).1
  exact ⟨false, rfl, iteF (q _ F1 H1 [] g1.drop (.dat (.bl false)) List.nodup_nil (fun _ m => nomatch m))⟩
 ·cases e
theorem p1_ (ha : EvP K n as ta da) (hb : EvP K n as tb db) : EvP K n as (tOrV ta tb) (ok_ da db) := by
 intro F H σ E fp L R r e Q q
 unfold ok_ at e
 split at e
 ·next ea =>
  refine ha L R ea fun x F1 H1 f1 g1 r1 n1 o1 => ?_
  cases (Own.dat_inv (show Own K F1 H1 x _ f1 from r1) rfl).1
  exact ⟨false, rfl, iteF (hb L (R.grow g1) e fun v F2 H2 f2 g2 a2 n2 o2 => q v F2 H2 f2 (g1.drop.seq0 g2) a2 n2 o2)⟩
 ·next ea =>
  cases e
  refine ha L R ea fun x F1 H1 f1 g1 r1 n1 o1 => ?_
  cases (Own.dat_inv (show Own K F1 H1 x _ f1 from r1) rfl).1
  exact ⟨true, rfl, iteT (q _ F1 H1 [] g1.drop (.dat (.bl true)) List.nodup_nil (fun _ m => nomatch m))⟩
 ·cases e
theorem jL_ (ha : EvP K n as ta da) : EvP K n as (tNotV ta) (fe_ da) := by
 intro F H σ E fp L R r e Q q
 unfold fe_ at e
 split at e
 ·next b ea =>
  cases e
  refine ha L R ea fun x F1 H1 f1 g1 r1 n1 o1 => ?_
  cases (Own.dat_inv (show Own K F1 H1 x _ f1 from r1) rfl).1
  exact ⟨b, rfl, q _ F1 H1 [] g1.drop (.dat (.bl _)) List.nodup_nil (fun _ m => nomatch m)⟩
 ·cases e
def cw_ (f g : PyData -> PyData -> Option PyData) (da db dc : En -> Option Rs) (E : En) : Option Rs := match da E, db E, dc E with
 | some a, some b, some c => match a.full E, b.full E, c.full E with
  | some a, some b, some c => match f a b, g b c with
   | some (.bool k), some (.bool l) => some (.val (.dat (.bool (k && l))))
   | _, _ => none
  | _, _, _ => none
 | _, _, _ => none
theorem hP_ {r r' : R2} {f g : PyData -> PyData -> Option PyData} (hr : Rv2 K r f) (hr' : Rv2 K r' g) (ha : EvP K n as ta da) (hb : EvP K n as tb db) (hc : EvP K n as tc dc) : EvP K n as (tChain r r' ta tb tc) (cw_ f g da db dc) := by
 intro F H σ E fp L R r0 e Q q
 unfold cw_ at e
 split at e
 ·next a b c ea eb ec =>
  split at e
  ·next a' b' c' ea' eb' ec' =>
   split at e
   ·next k l ek el =>
    cases e
    refine ha L R ea fun x F1 H1 f1 g1 r1 n1 o1 => hb L (R.grow g1) eb fun y F2 H2 f2 g2 r2 n2 o2 => ?_
    have R2 := (R.grow g1).grow g2
    refine hr ((r1.grow (R.grow g1) g2).dp R2 ea') (r2.dp R2 eb') ek fun _ => ?_
    refine ⟨k, rfl, ?_⟩
    cases k with
    | true =>
     refine iteT (hc L R2 ec fun z F3 H3 f3 g3 r3 n3 o3 => ?_)
     have R3 := R2.grow g3
     refine hr' ((r2.grow R2 g3).dp R3 eb') (r3.dp R3 ec') el fun _ => ?_
     exact q _ F3 H3 [] ((g1.seq0 g2).drop.seq0 g3).drop (.dat (.bl _)) List.nodup_nil (fun _ m => nomatch m)
    | false => exact iteF (q _ F2 H2 [] (g1.seq0 g2).drop (.dat (.bl false)) List.nodup_nil (fun _ m => nomatch m))
   ·cases e
  ·cases e
 ·cases e
end Mv
namespace Mv
open PySem PySem.Spec PyProof.Rows L2
variable {K : PySem.W.Frag} {F F' F1 F2 H H' H1 H2 : Hp} {v u x y : V} {vs : List V} {s t : S} {ss : List S} {fp fq fr fp' fp1 fp2 f1 f2 : List Addr} {ρ as : Ro} {E E' : En} {n : Nat}
variable {W : Value -> Option Addr -> L2.St -> Hp -> Prop} {te ta tb tc : TE} {d da db dc : En -> Option Rs} {tr : TA} {dr : En -> Option (List Rs)} {tt : TT} {dt : En -> Option Bool}
def EvE (K : PySem.W.Frag) (n : Nat) (as : Ro) (te : TE) (d : En -> Option (S × En)) : Prop :=
 ∀ {F H : Hp} {σ : L2.St} {E : En} {fp : List Addr}, σ.length = n -> Rep K F H (σ ++ as) E fp -> ∀ {s : S} {E' : En}, d E = some (s, E') -> ∀ {Q : VK},
  (∀ v F' H' fr fp', Grow F H fp F' H' (fr ++ fp') -> Rep K F' H' (σ ++ as) E' fp' -> Own K F' H' v s fr -> (fr ++ fp').Nodup -> (∀ a ∈ fr, F' a = none) -> Q v H') -> te σ H Q
def hI_ (K : PySem.W.Frag) (n : Nat) (as : Ro) (tt : TT) (d : En -> Option (Bool × En)) : Prop :=
 ∀ {F H : Hp} {σ : L2.St} {E : En} {fp : List Addr}, σ.length = n -> Rep K F H (σ ++ as) E fp -> ∀ {b : Bool} {E' : En}, d E = some (b, E') -> ∀ {Q : Bool -> Hp -> Prop},
  (∀ F' H' fp', Grow F H fp F' H' fp' -> Rep K F' H' (σ ++ as) E' fp' -> Q b H') -> tt σ H Q
abbrev WXm := Value -> Option Addr -> L2.St -> Hp -> Prop
inductive Out where
 | nx (E : En)
 | rt (s : S) (E : En)
 | bk (E : En)
 | ct (E : En)
 | ex (c : Nat) (E : En)
def pK_ (K : PySem.W.Frag) (c : Nat) (C : Addr) (dd : Option Addr) (F : Hp) : Prop := (c < 1000 /\ clsOf K c C /\ dd = none) ∨ (1000 <= c /\ clsOf K 22 C /\ ∃ d, dd = some d /\ F d = some (.xd [("place", .int ((c - 1000 : Nat) : Int))]))
def Out.go (K : PySem.W.Frag) (n : Nat) (as : Ro) (W : WXm) (F H : Hp) (fp : List Addr) (D : Ends) : Out -> Prop
 | .nx E' => ∀ (σ' : L2.St) F' H' fp', σ'.length = n -> Grow F H fp F' H' fp' -> Rep K F' H' (σ' ++ as) E' fp' -> D.nx σ' H'
 | .bk E' => ∀ (σ' : L2.St) F' H' fp', σ'.length = n -> Grow F H fp F' H' fp' -> Rep K F' H' (σ' ++ as) E' fp' -> D.bk σ' H'
 | .ct E' => ∀ (σ' : L2.St) F' H' fp', σ'.length = n -> Grow F H fp F' H' fp' -> Rep K F' H' (σ' ++ as) E' fp' -> D.ct σ' H'
 | .ex c E' => ∀ (C : Addr) (dX : Option Addr) (σ' : L2.St) F' H' fp', pK_ K c C dX F' -> σ'.length = n -> Grow F H fp F' H' fp' -> Rep K F' H' (σ' ++ as) E' fp' -> W (.ref C) dX σ' H'
 | .rt s E' => ∀ v (σ' : L2.St) F' H' fr fp', σ'.length = n -> Grow F H fp F' H' (fr ++ fp') -> Rep K F' H' (σ' ++ as) E' fp' -> Own K F' H' v s fr -> (fr ++ fp').Nodup -> (∀ a ∈ fr, F' a = none) -> D.rt v H'
theorem Out.go.grow {o : Out} {D : Ends} (h : o.go K n as W F H fp D) (g : Grow F H fp F1 H1 fp1) : o.go K n as W F1 H1 fp1 D := by
 cases o with
 | rt s E' => exact fun v σ' F' H' fr fp' L g' R o nd of => h v σ' F' H' fr fp' L (g.trans g') R o nd of
 | ex c E' => exact fun C dX σ' F' H' fp' hC L g' R => h C dX σ' F' H' fp' hC L (g.trans g') R
 | _ => exact fun σ' F' H' fp' L g' R => h σ' F' H' fp' L (g.trans g') R
def EvS (K : PySem.W.Frag) (n : Nat) (as : Ro) (W : WXm) (ts : TS) (d : En -> Option Out) : Prop :=
 ∀ {F H : Hp} {σ : L2.St} {E : En} {fp : List Addr}, σ.length = n -> Rep K F H (σ ++ as) E fp -> ∀ {o : Out}, d E = some o -> ∀ {D : Ends}, o.go K n as W F H fp D -> ts D σ H
theorem Rep.apart_new (R : Rep K F H ρ E fp) (g : Grow F H [] F' H' fr) (nd : fr.Nodup) : (fr ++ fp).Nodup :=
 aG_ nd R.nd fun a m b m2 e => by
  subst e
  obtain ⟨o, eo⟩ := R.there a m2
  rcases g.new a m with q | q
  ·cases q
  ·rw [eo] at q; cases q
theorem Grow.ours (g : Grow F H [] F' H' fr) (fp : List Addr) : Grow F H fp F' H' (fr ++ fp) :=
 g.wide (fun _ m => nomatch m) fun a m => by
  rcases List.mem_append.mp m with m | m
  ·exact .inr ((g.new a m).elim (fun z => nomatch z) id)
  ·exact .inl m
def ae_ (d : En -> Option Rs) (E : En) : Option (S × En) := match d E with
 | some (.val s) => some (s, E)
 | _ => none
theorem aq_ (h : EvP K n as te d) : EvE K n as te (ae_ d) := by
 intro F H σ E fp L R s E' e Q q
 unfold ae_ at e
 split at e
 ·next t ed =>
  cases e
  exact h L R ed fun v F1 H1 fr g a nd of => q v F1 H1 fr fp (g.ours fp) (R.grow g) a (R.apart_new g nd) of
 ·cases e
def ao_ (d : En -> Option Bool) (E : En) : Option (Bool × En) := (d E).map (·, E)
theorem aP_ (h : EvT K n as tt dt) : hI_ K n as tt (ao_ dt) := by
 intro F H σ E fp L R b E' e Q q
 obtain ⟨c, ec, e2⟩ := Option.map_eq_some_iff.mp e
 cases e2
 exact h L R ec fun F1 H1 g => q F1 H1 fp ((g.ours fp).less fun a m => List.mem_append_right _ m) (R.grow g)
variable {de df : En -> Option (S × En)} {dte dtf : En -> Option (Bool × En)} {uu : TT}
def bb_ (d : En -> Option (S × En)) (E : En) : Option (Bool × En) := match d E with
 | some (.dat (.bool b), E') => some (b, E')
 | _ => none
theorem iq_ (h : EvE K n as te de) : hI_ K n as (tTest te) (bb_ de) := by
 intro F H σ E fp L R b E' e Q q
 unfold bb_ at e
 split at e
 ·next c E2 ed =>
  cases e
  refine h L R ed fun v F1 H1 fr fp1 g R1 o nd of => ?_
  cases (o.dat_inv rfl).1
  exact ⟨b, rfl, q F1 H1 fp1 (g.less fun a m => List.mem_append_right _ m) R1⟩
 ·cases e
theorem lk_ (h : EvE K n as te de) : hI_ K n as (tB te) (bb_ de) := iq_ h
def gc_ (dt du : En -> Option (Bool × En)) (E : En) : Option (Bool × En) := match dt E with
 | some (true, E') => du E'
 | o => o
theorem mV_ (ht : hI_ K n as tt dte) (hu : hI_ K n as uu dtf) : hI_ K n as (tAnd tt uu) (gc_ dte dtf) := by
 intro F H σ E fp L R b E' e Q q
 unfold gc_ at e
 cases h : dte E with
 | none => rw [h] at e; cases e
 | some c =>
  obtain ⟨c, E1⟩ := c
  rw [h] at e
  refine ht L R h fun F1 H1 fp1 g1 R1 => ?_
  cases c with
  | true => exact iteT (hu L R1 e fun F2 H2 fp2 g2 R2 => q F2 H2 fp2 (g1.trans g2) R2)
  | false =>
   cases e
   exact iteF (q F1 H1 fp1 g1 R1)
def eOr (dt du : En -> Option (Bool × En)) (E : En) : Option (Bool × En) := match dt E with
 | some (false, E') => du E'
 | o => o
theorem p2_ (ht : hI_ K n as tt dte) (hu : hI_ K n as uu dtf) : hI_ K n as (tOr tt uu) (eOr dte dtf) := by
 intro F H σ E fp L R b E' e Q q
 unfold eOr at e
 cases h : dte E with
 | none => rw [h] at e; cases e
 | some c =>
  obtain ⟨c, E1⟩ := c
  rw [h] at e
  refine ht L R h fun F1 H1 fp1 g1 R1 => ?_
  cases c with
  | false => exact iteF (hu L R1 e fun F2 H2 fp2 g2 R2 => q F2 H2 fp2 (g1.trans g2) R2)
  | true =>
   cases e
   exact iteT (q F1 H1 fp1 g1 R1)
def dG_ (dt : En -> Option (Bool × En)) (E : En) : Option (Bool × En) := (dt E).map fun p => (!p.1, p.2)
theorem gd_ (ht : hI_ K n as tt dte) : hI_ K n as (tNot tt) (dG_ dte) := by
 intro F H σ E fp L R b E' e Q q
 obtain ⟨c, h, e2⟩ := Option.map_eq_some_iff.mp e
 obtain ⟨c, E1⟩ := c
 cases e2
 exact ht L R h fun F1 H1 fp1 g1 R1 => q F1 H1 fp1 g1 R1
def aW_ (i : Nat) : Sl -> Sl
 | .bor q => if q.head? = some i then .no else .bor q
 | e => e
def ak_ (E : En) (i : Nat) (e : Sl) : En := (E.map (aW_ i)).set i e
theorem cx_ {i : Nat} (E : En) (j : Nat) : (∀ s, (E.map (aW_ i))[j]? = some (Sl.own s) ↔ E[j]? = some (Sl.own s)) := by
 intro s
 rw [List.getElem?_map]
 cases h : E[j]? with
 | none => simp
 | some sl => cases sl with
  | no => simp [aW_]
  | own t => simp [aW_]
  | bor q =>
   simp only [Option.map_some, aW_]
   split <;> simp
theorem bO_ (i : Nat) : ∀ (ρ : Ro) (E : En), a8_ ρ (E.map (aW_ i)) = a8_ ρ E
 | [], _ => by simp [a8_]
 | _ :: _, [] => rfl
 | v :: ρ, e :: E => by
  simp only [List.map_cons, a8_, bO_ i ρ E]
  congr 1
  cases e with
  | no => rfl
  | own s => rfl
  | bor r => simp only [aW_]; split <;> rfl
theorem OwnL.replace : ∀ {vs : List V} {ss : List S} {fp : List Addr} {i : Nat} {v : V} {s : S} {fr : List Addr}, OwnL K F H vs ss fp -> i < ss.length -> Own K F H v s fr →
  ∃ fq f1 f2, OwnL K F H (vs.set i v) (ss.set i s) fq /\ fq.Perm (fr ++ f2) /\ fp.Perm (f1 ++ f2)
 | _, _, _, i, _, _, _, .nil, h, _ => by simp at h
 | _, _, _, 0, v, s, fr, .cons (fp := fpa) (fq := fpb) _ t, _, o => ⟨fr ++ fpb, fpa, fpb, .cons o t, List.Perm.refl _, List.Perm.refl _⟩
 | _, _, _, i + 1, v, s, fr, .cons (fp := fpa) h t, l, o => by
  obtain ⟨fq, f1, f2, a, b, c⟩ := OwnL.replace (i := i) t (by simpa using l) o
  refine ⟨fpa ++ fq, f1, fpa ++ f2, .cons h a, ?_, ?_⟩
  ·refine (List.Perm.append_left fpa b).trans ?_
   rw [<- List.append_assoc, <- List.append_assoc]
   exact List.Perm.append_right _ List.perm_append_comm
  ·refine (List.Perm.append_left fpa c).trans ?_
   rw [<- List.append_assoc, <- List.append_assoc]
   exact List.Perm.append_right _ List.perm_append_comm
theorem da_ : ∀ {ρ : Ro} {E : En}, E.length = ρ.length -> (a8_ ρ E).length = ρ.length
 | [], [], _ => rfl
 | [], _ :: _, h => by simp at h
 | _ :: _, [], h => by simp at h
 | _ :: ρ, _ :: E, h => by simp only [a8_, List.length_cons, da_ (ρ := ρ) (E := E) (by simpa using h)]
theorem dw_ : ∀ {ρ : Ro} {E : En} {i : Nat} {v : Option V} {e : Sl}, E.length = ρ.length -> a8_ (ρ.set i v) (E.set i e) = (a8_ ρ E).set i (slS v e)
 | [], [], _, _, _, _ => by simp [a8_]
 | [], _ :: _, _, _, _, h => by simp at h
 | _ :: _, [], _, _, _, h => by simp at h
 | _ :: ρ, _ :: E, 0, _, _, _ => rfl
 | _ :: ρ, _ :: E, i + 1, v, e, h => by simp only [a8_, List.set_cons_succ, dw_ (ρ := ρ) (E := E) (by simpa using h)]
theorem dN_ {i : Nat} {w : Option V} {q : List Nat} (h : q.head? ≠ some i) : aO_ H (ρ.set i w) q = aO_ H ρ q := by
 cases q with
 | nil => rfl
 | cons j q =>
  have : i ≠ j := fun e => h (by rw [e]; rfl)
  simp only [aO_, List.getElem?_set_ne this]
theorem ge_ {i : Nat} {e : Sl} {q : List Nat} (h : q.head? ≠ some i) : aZ_ (ak_ E i e) q = aZ_ E q := by
 cases q with
 | nil => rfl
 | cons j q =>
  have ij : i ≠ j := fun e => h (by rw [e]; rfl)
  unfold ak_
  simp only [aZ_, List.getElem?_set_ne ij]
  cases hE : E[j]? with
  | none => simp [List.getElem?_map, hE]
  | some sl => cases sl with
   | no => simp [List.getElem?_map, hE, aW_]
   | own s => simp [List.getElem?_map, hE, aW_]
   | bor r =>
    by_cases hr : r.head? = some i
    ·simp [List.getElem?_map, hE, aW_, hr]
    ·simp [List.getElem?_map, hE, aW_, hr]
def qR_ (K : PySem.W.Frag) (F H : Hp) (ρ : Ro) (E : En) (i : Nat) (v : V) : Sl -> List Addr -> Prop
 | .own s, fr => Own K F H v s fr
 | .bor p, fr => fr = [] /\ p.head? ≠ some i /\ aO_ H ρ p = some v /\ (aZ_ E p).isSome = true
 | .no, fr => fr = []
theorem Rep.setSlot {i : Nat} {e : Sl} (R : Rep K F H ρ E fp) (hi : i < ρ.length) (o : qR_ K F H ρ E i v e fr) (nd : (fr ++ fp).Nodup) (of : ∀ a ∈ fr, F a = none) :
  ∃ fq, Rep K F H (ρ.set i (some v)) (ak_ E i e) fq /\ ∀ a ∈ fq, a ∈ fr ++ fp := by
 obtain ⟨f, l, pm⟩ := R.core.own
 have hl : i < (a8_ ρ E).length := by rw [da_ R.core.len]; exact hi
 have oo : Own K F H v (slS (some v) e) fr := by
  cases e with
  | own s => exact o
  | bor p => rw [show fr = [] from o.1]; exact .con
  | no => rw [show fr = [] from o]; exact .con
 obtain ⟨fq, g1, g2, l2, p1, p2⟩ := l.replace hl oo
 have sub : ∀ a ∈ fq, a ∈ fr ++ fp := fun a m => by
  rcases List.mem_append.mp (p1.mem_iff.mp m) with m | m
  ·exact List.mem_append_left _ m
  ·exact List.mem_append_right _ (pm.mem_iff.mpr (p2.mem_iff.mpr (List.mem_append_right _ m)))
 have ndq : fq.Nodup := by
  refine p1.nodup_iff.mpr ?_
  have n1 : (fr ++ (g1 ++ g2)).Nodup := ((List.Perm.append_left fr (pm.trans p2)).nodup_iff).mp nd
  refine List.nodup_append.mpr ⟨(List.nodup_append.mp n1).1, (List.nodup_append.mp (List.nodup_append.mp n1).2.1).2.1, fun a m b m2 => (List.nodup_append.mp n1).2.2 a m b (List.mem_append_right _ m2)⟩
 have hE : i < E.length := by rw [R.core.len]; exact hi
 refine ⟨fq, ⟨⟨by unfold ak_; rw [List.length_set, List.length_map, List.length_set]; exact R.core.len, ⟨fq, ?_, List.Perm.refl _⟩, fun j w hj => ?_⟩, R.sub, ndq, fun a m => ?_, fun j p hb => ?_⟩, sub⟩
 ·unfold ak_
  rw [dw_ (by rw [List.length_map]; exact R.core.len), bO_]
  have : bU_ (ρ.set i (some v)) = (bU_ ρ).set i v := by unfold bU_; rw [List.map_set]; rfl
  rw [this]
  exact l2
 ·by_cases ij : i = j
  ·subst ij; exact ⟨v, by rw [List.getElem?_set_self hi]⟩
  ·unfold ak_ at hj
   rw [List.getElem?_set_ne ij] at hj
   rw [List.getElem?_set_ne ij]
   exact R.core.set j w ((cx_ E j w).mp hj)
 ·rcases List.mem_append.mp (sub a m) with m | m
  ·exact of a m
  ·exact R.off a m
 ·by_cases ij : i = j
  ·subst ij
   unfold ak_ at hb
   rw [List.getElem?_set_self (by rw [List.length_map]; exact hE)] at hb
   cases hb
   obtain ⟨_, h1, h2, h3⟩ := o
   exact ⟨v, by rw [List.getElem?_set_self hi], by rw [dN_ h1]; exact h2, by rw [ge_ h1]; exact h3⟩
  ·unfold ak_ at hb
   rw [List.getElem?_set_ne ij, List.getElem?_map] at hb
   cases hE2 : E[j]? with
   | none => rw [hE2] at hb; cases hb
   | some sl =>
    rw [hE2] at hb
    cases sl with
    | no => cases hb
    | own w => cases hb
    | bor q =>
     simp only [Option.map_some, aW_, Option.some.injEq] at hb
     by_cases hq : q.head? = some i
     ·rw [if_pos hq] at hb; cases hb
     ·rw [if_neg hq] at hb
      cases hb
      obtain ⟨w, e1, e2, e3⟩ := R.bor j _ hE2
      exact ⟨w, by rw [List.getElem?_set_ne ij]; exact e1, by rw [dN_ hq]; exact e2, by rw [ge_ hq]; exact e3⟩
variable {t1 t2 : TS} {d1 d2 : En -> Option Out} {i : Nat}
def aE_ (d1 d2 : En -> Option Out) (E : En) : Option Out := match d1 E with
 | some (.nx E1) => d2 E1
 | o => o
theorem aw_ (h1 : EvS K n as W t1 d1) (h2 : EvS K n as W t2 d2) : EvS K n as W (tSeq t1 t2) (aE_ d1 d2) := by
 intro F H σ E fp L R o e D g
 unfold aE_ at e
 cases h : d1 E with
 | none => rw [h] at e; cases e
 | some o1 =>
  rw [h] at e
  refine h1 L R h ?_
  cases o1 with
  | nx E1 => exact fun σ' F' H' fp' L' g' R' => h2 L' R' e (g.grow g')
  | rt s E1 => cases e; exact g
  | bk E1 => cases e; exact g
  | ct E1 => cases e; exact g
  | ex c E1 => cases e; exact g
def aH_ (E : En) : Option Out := some (.nx E)
theorem a6_ : EvS K n as W tNext aH_ := by
 intro F H σ E fp L R o e D g
 cases e
 exact g σ F H fp L (.refl R.sub fp) R
def ir_ (_ : En) : Option Out := none
theorem mW_ : EvS K n as W tNever ir_ := by
 intro F H σ E fp L R o e D g
 cases e
def cd_ (i : Nat) (d : En -> Option (S × En)) (E : En) : Option Out := match d E with
 | some (s, E') => some (.nx (ak_ E' i (.own s)))
 | none => none
theorem bC_ {σ : L2.St} {w : Option V} (h : i < σ.length) : (σ.set i w) ++ as = (σ ++ as).set i w := by
 rw [List.set_append_left _ _ h]
theorem c4_ (hi : i < n) (h : EvE K n as te de) : EvS K n as W (tAsg te (gName i)) (cd_ i de) := by
 intro F H σ E fp L R o e D g
 unfold cd_ at e
 split at e
 ·next s E' ed =>
  cases e
  refine h L R ed fun v F1 H1 fr fp1 g1 R1 ow nd of => ?_
  have hl : i < (σ ++ as).length := by rw [List.length_append]; omega
  obtain ⟨fq, R2, sb⟩ := R1.setSlot (e := .own s) hl ow nd of
  exact g (σ.set i (some v)) F1 H1 fq (by rw [List.length_set]; exact L) (g1.less sb) (by rw [bC_ (by omega)]; exact R2)
 ·cases e
def ap_ (i : Nat) (d : En -> Option Rs) (E : En) : Option Out := match d E with
 | some (.val s) => some (.nx (ak_ E i (.own s)))
 | some (.pl p) => if p.head? = some i then none else some (.nx (ak_ E i (.bor p)))
 | none => none
theorem aR_ (hi : i < n) (h : EvP K n as te d) : EvS K n as W (tAsg te (gName i)) (ap_ i d) := by
 intro F H σ E fp L R o e D g
 unfold ap_ at e
 have hl : i < (σ ++ as).length := by rw [List.length_append]; omega
 split at e
 ·next s ed =>
  cases e
  refine h L R ed fun v F1 H1 fr g1 a nd of => ?_
  obtain ⟨fq, R2, sb⟩ := (R.grow g1).setSlot (e := .own s) hl a (R.apart_new g1 nd) of
  exact g (σ.set i (some v)) F1 H1 fq (by rw [List.length_set]; exact L) ((g1.ours fp).less sb) (by rw [bC_ (by omega)]; exact R2)
 ·next p ed =>
  split at e
  ·cases e
  ·next hp =>
   cases e
   refine h L R ed fun v F1 H1 fr g1 a nd of => ?_
   obtain ⟨a1, a2, a3⟩ := a
   subst a1
   obtain ⟨fq, R2, sb⟩ := (R.grow g1).setSlot (e := .bor p) (fr := []) hl ⟨rfl, hp, a2, a3⟩ (R.apart_new g1 nd) (fun _ m => nomatch m)
   exact g (σ.set i (some v)) F1 H1 fq (by rw [List.length_set]; exact L) ((g1.ours fp).less sb) (by rw [bC_ (by omega)]; exact R2)
 ·cases e
def aY_ (d : En -> Option (S × En)) (E : En) : Option Out := match d E with
 | some (s, E') => some (.rt s E')
 | none => none
theorem a4_ (h : EvE K n as te de) : EvS K n as W (tRet te) (aY_ de) := by
 intro F H σ E fp L R o e D g
 unfold aY_ at e
 split at e
 ·next s E' ed =>
  cases e
  exact h L R ed fun v F1 H1 fr fp1 g1 R1 ow nd of => g v σ F1 H1 fr fp1 L g1 R1 ow nd of
 ·cases e
def cr_ (d : En -> Option (S × En)) (E : En) : Option Out := match d E with
 | some (_, E') => some (.nx E')
 | none => none
theorem fQ_ (h : EvE K n as te de) : EvS K n as W (tDrop te) (cr_ de) := by
 intro F H σ E fp L R o e D g
 unfold cr_ at e
 split at e
 ·next s E' ed =>
  cases e
  exact h L R ed fun v F1 H1 fr fp1 g1 R1 ow nd of => g σ F1 H1 fp1 L (g1.less fun a m => List.mem_append_right _ m) R1
 ·cases e
def dIf (dt : En -> Option (Bool × En)) (d1 d2 : En -> Option Out) (E : En) : Option Out := match dt E with
 | some (true, E') => d1 E'
 | some (false, E') => d2 E'
 | none => none
theorem d5_ (ht : hI_ K n as tt dte) (h1 : EvS K n as W t1 d1) (h2 : EvS K n as W t2 d2) : EvS K n as W (tIfS tt t1 t2) (dIf dte d1 d2) := by
 intro F H σ E fp L R o e D g
 unfold dIf at e
 split at e
 ·next E' et => exact ht L R et fun F1 H1 fp1 g1 R1 => iteT (h1 L R1 e (g.grow g1))
 ·next E' et => exact ht L R et fun F1 H1 fp1 g1 R1 => iteF (h2 L R1 e (g.grow g1))
 ·cases e
end Mv
namespace Mv
open PySem PySem.Spec PyProof.Rows L2
variable {K : PySem.W.Frag} {F F' F1 F2 H H' H1 H2 : Hp} {v u x y : V} {vs ws : List V} {s t : S} {ss tts : List S} {fp fq fr fp' fp1 fp2 f1 f2 : List Addr} {ρ as : Ro} {E E' : En} {n : Nat}
variable {te ta tb tc : TE} {d da db dc : En -> Option Rs} {tr : TA} {dr : En -> Option (List Rs)} {tt : TT} {dt : En -> Option Bool}
def dO_ (K : PySem.W.Frag) (m : Nat) (g : List S -> Option (S × List S)) : Sp := fun vs H Q _ => vs.length = m /\ ∃ F ss fp s ss', (∀ a o, F a = some o -> H a = some o) /\ OwnL K F H vs ss fp /\ fp.Nodup /\ (∀ a ∈ fp, F a = none) /\ g ss = some (s, ss') ∧
 ∀ v F' H' fr fp', Grow F H fp F' H' (fr ++ fp') -> OwnL K F' H' vs ss' fp' -> Own K F' H' v s fr -> (fr ++ fp').Nodup -> (∀ a ∈ fr ++ fp', F' a = none) -> Q v H'
def mX_ (n j : Nat) : S -> Sl
 | .dat d => .own (.dat d)
 | .con v => .own (.con v)
 | _ => .bor [n + j]
def db_ (n : Nat) : Nat -> List S -> En
 | _, [] => []
 | j, s :: ss => mX_ n j s :: db_ n (j + 1) ss
def entry (n : Nat) (ss : List S) : En := db_ n 0 ss ++ List.replicate (n - ss.length) .no ++ ss.map Sl.own
def cD_ : En -> Option (List S)
 | [] => some []
 | .own s :: E => (cD_ E).map (s :: ·)
 | _ :: _ => none
def fnG (n : Nat) (d : En -> Option Out) (ss : List S) : Option (S × List S) := match d (entry n ss) with
 | some (.rt s E) => (cD_ (E.drop n)).map (s, ·)
 | some (.nx E) => (cD_ (E.drop n)).map (.dat .none, ·)
 | _ => none
theorem OwnL.split : ∀ {vs ws : List V} {ss tts : List S} {fp : List Addr}, vs.length = ss.length -> OwnL K F H (vs ++ ws) (ss ++ tts) fp -> ∃ f1 f2, fp = f1 ++ f2 /\ OwnL K F H vs ss f1 /\ OwnL K F H ws tts f2
 | [], ws, [], tts, fp, _, o => ⟨[], fp, rfl, .nil, o⟩
 | [], _, _ :: _, _, _, h, _ => by simp at h
 | _ :: _, _, [], _, _, h, _ => by simp at h
 | v :: vs, ws, s :: ss, tts, fp, h, o => by
  rw [List.cons_append, List.cons_append] at o
  cases o with
  | @cons _ _ _ _ fa fb a l =>
   obtain ⟨f1, f2, rfl, l1, l2⟩ := OwnL.split (by simpa using h) l
   exact ⟨fa ++ f1, f2, by rw [List.append_assoc], .cons a l1, l2⟩
theorem bn_ (n : Nat) : ∀ (j : Nat) (ss : List S), (db_ n j ss).length = ss.length
 | _, [] => rfl
 | j, s :: ss => by simp only [db_, List.length_cons, bn_ n (j + 1) ss]
theorem fR_ (n : Nat) : ∀ (j : Nat) (ss : List S) (i : Nat), (db_ n j ss)[i]? = (ss[i]?).map (mX_ n (j + i))
 | _, [], _ => by simp [db_]
 | j, s :: ss, 0 => by simp [db_]
 | j, s :: ss, i + 1 => by
  simp only [db_, List.getElem?_cons_succ, fR_ n (j + 1) ss i]
  rw [show j + 1 + i = j + (i + 1) by omega]
theorem bW_ : ∀ {ρ ρ2 : Ro} {E E2 : En}, E.length = ρ.length -> a8_ (ρ ++ ρ2) (E ++ E2) = a8_ ρ E ++ a8_ ρ2 E2
 | [], _, [], _, _ => rfl
 | [], _, _ :: _, _, h => by simp at h
 | _ :: _, _, [], _, h => by simp at h
 | v :: ρ, ρ2, e :: E, E2, h => by simp only [List.cons_append, a8_, bW_ (ρ := ρ) (E := E) (by simpa using h)]
theorem ff_ : ∀ {vs : List V} {ss : List S}, vs.length = ss.length -> a8_ (vs.map some) (ss.map Sl.own) = ss
 | [], [], _ => rfl
 | [], _ :: _, h => by simp at h
 | _ :: _, [], h => by simp at h
 | v :: vs, s :: ss, h => by simp only [List.map_cons, a8_, slS, ff_ (vs := vs) (ss := ss) (by simpa using h)]
theorem is_ : ∀ (k : Nat), OwnL K F H (bU_ (List.replicate k none)) (a8_ (List.replicate k none) (List.replicate k .no)) []
 | 0 => .nil
 | k + 1 => by
  simp only [List.replicate_succ, bU_, List.map_cons, a8_, slS]
  exact .cons (fp := []) .con (is_ k)
theorem g0_ (n : Nat) : ∀ {vs : List V} {ss : List S} {fp : List Addr} (j : Nat), OwnL K F H vs ss fp -> OwnL K F H (bU_ (vs.map some)) (a8_ (vs.map some) (db_ n j ss)) []
 | _, _, _, _, .nil => .nil
 | v :: vs, s :: ss, _, j, .cons a l => by
  simp only [List.map_cons, db_, a8_, bU_]
  refine .cons (fp := []) ?_ (g0_ n (j + 1) l)
  cases s with
  | dat d => exact .dat (a.dat_inv rfl).1
  | con w =>
   obtain ⟨rfl, _⟩ := a.con_inv rfl
   exact .con
  | _ => exact .con
theorem ce_ (ρ ρ2 : Ro) : bU_ (ρ ++ ρ2) = bU_ ρ ++ bU_ ρ2 := by unfold bU_; exact List.map_append
theorem eo_ (vs : List V) : bU_ (vs.map some) = vs := by
 unfold bU_
 rw [List.map_map]
 exact List.map_id _
theorem b5_ (N : List Str) (vs : List V) : start N vs = vs.map some ++ List.replicate (N.length - vs.length) none := rfl
theorem Rep.entry {N : List Str} (sub : ∀ a o, F a = some o -> H a = some o) (l : OwnL K F H vs ss fp) (nd : fp.Nodup) (of : ∀ a ∈ fp, F a = none) (hn : vs.length <= N.length) :
  Rep K F H (start N vs ++ vs.map some) (Mv.entry N.length ss) fp := by
 have len := l.length
 have hL : (db_ N.length 0 ss ++ List.replicate (N.length - ss.length) Sl.no).length = (vs.map some ++ List.replicate (N.length - vs.length) (none : Option V)).length := by
  rw [List.length_append, List.length_append, bn_, List.length_replicate, List.length_map, List.length_replicate, len]
 have hall : (Mv.entry N.length ss).length = (start N vs ++ vs.map some).length := by
  unfold Mv.entry
  rw [List.length_append, hL, b5_, List.length_append (as := _ ++ _), List.length_map, List.length_map, len]
 have own : OwnL K F H (bU_ (start N vs ++ vs.map some)) (a8_ (start N vs ++ vs.map some) (Mv.entry N.length ss)) fp := by
  unfold Mv.entry
  rw [<- len] at hL ⊢
  rw [b5_, bW_ hL, bW_ (by rw [bn_, List.length_map, len]), ce_, ce_, ff_ len, eo_ vs]
  have h1 := g0_ N.length 0 l
  rw [eo_] at h1
  have h2 := is_ (K := K) (F := F) (H := H) (N.length - vs.length)
  have := (h1.append h2).append l
  simpa using this
 have hp : ∀ (i : Nat) (e : Sl), (Mv.entry N.length ss)[i]? = some e -> (∃ s, ss[i]? = some s /\ e = mX_ N.length i s /\ i < ss.length) ∨ (e = .no) ∨ (∃ j s, i = N.length + j /\ ss[j]? = some s /\ e = .own s) := by
  intro i e h
  unfold Mv.entry at h
  by_cases h1 : i < ss.length
  ·rw [List.append_assoc, List.getElem?_append_left (by rw [bn_]; exact h1), fR_] at h
   obtain ⟨s, hs, rfl⟩ := Option.map_eq_some_iff.mp h
   exact .inl ⟨s, hs, by rw [Nat.zero_add], h1⟩
  ·by_cases h2 : i < N.length
   ·rw [List.getElem?_append_left (by rw [List.length_append, bn_, List.length_replicate]; omega), List.getElem?_append_right (by rw [bn_]; omega), List.getElem?_replicate] at h
    split at h
    ·cases h; exact .inr (.inl rfl)
    ·cases h
   ·rw [List.getElem?_append_right (by rw [List.length_append, bn_, List.length_replicate]; omega), List.length_append, bn_, List.length_replicate] at h
    rw [List.getElem?_map] at h
    obtain ⟨s, hs, rfl⟩ := Option.map_eq_some_iff.mp h
    exact .inr (.inr ⟨_, s, by omega, hs, rfl⟩)
 have argv : ∀ (j : Nat) (w : V), vs[j]? = some w -> (start N vs ++ vs.map some)[N.length + j]? = some (some w) := by
  intro j w h
  rw [b5_, List.getElem?_append_right (by rw [List.length_append, List.length_map, List.length_replicate]; omega), List.length_append, List.length_map, List.length_replicate, List.getElem?_map]
  rw [show N.length + j - (vs.length + (N.length - vs.length)) = j by omega, h]; rfl
 have parv : ∀ (i : Nat) (w : V), vs[i]? = some w -> (start N vs ++ vs.map some)[i]? = some (some w) := by
  intro i w h
  have hi := (List.getElem?_eq_some_iff.mp h).1
  rw [b5_, List.append_assoc, List.getElem?_append_left (by rw [List.length_map]; exact hi), List.getElem?_map, h]; rfl
 refine ⟨⟨hall, ⟨fp, own, List.Perm.refl _⟩, fun i s h => ?_⟩, sub, nd, of, fun i p h => ?_⟩
 ·rcases hp i _ h with ⟨t, ht, _, hi⟩ | e | ⟨j, t, rfl, ht, _⟩
  ·exact ⟨vs[i], parv i _ (List.getElem?_eq_getElem (by rw [len]; exact hi))⟩
  ·cases e
  ·have hj := (List.getElem?_eq_some_iff.mp ht).1
   exact ⟨vs[j], argv j _ (List.getElem?_eq_getElem (by rw [len]; exact hj))⟩
 ·rcases hp i _ h with ⟨t, ht, e, hi⟩ | e | ⟨j, t, rfl, ht, e⟩
  ·have hv : vs[i]? = some vs[i] := List.getElem?_eq_getElem (by rw [len]; exact hi)
   have hq : p = [N.length + i] := by
    cases t <;> first | cases e; rfl | cases e
   subst hq
   have g : (Mv.entry N.length ss)[N.length + i]? = some (Sl.own t) := by
    unfold Mv.entry
    rw [List.getElem?_append_right (by rw [List.length_append, bn_, List.length_replicate]; omega), List.length_append, bn_, List.length_replicate, List.getElem?_map]
    rw [show N.length + i - (ss.length + (N.length - ss.length)) = i by omega, ht]; rfl
   exact ⟨vs[i], parv i _ hv, by simp only [aO_, argv i _ hv, bH_], by simp only [aZ_, g, S.get_nil]; rfl⟩
  ·cases e
  ·cases e
theorem it_ : ∀ {E : En} {ss : List S}, cD_ E = some ss -> E = ss.map Sl.own
 | [], ss, h => by cases h; rfl
 | .own s :: E, ss, h => by
  simp only [cD_] at h
  obtain ⟨r, hr, rfl⟩ := Option.map_eq_some_iff.mp h
  rw [List.map_cons, <- it_ hr]
 | .no :: E, ss, h => by cases h
 | .bor p :: E, ss, h => by cases h
theorem Rep.args {σ : L2.St} (R : Rep K F H (σ ++ vs.map some) E fp) (L : σ.length = n) (h : cD_ (E.drop n) = some ss) : ∃ fq, OwnL K F H vs ss fq /\ fq.Nodup /\ ∀ a ∈ fq, a ∈ fp := by
 obtain ⟨f, l, pm⟩ := R.core.own
 have e := it_ h
 have hlen : E.length = n + vs.length := by rw [R.core.len, List.length_append, L, List.length_map]
 have hE : E = E.take n ++ ss.map Sl.own := by rw [<- e, List.take_append_drop]
 have hl2 : vs.length = ss.length := by
  have := congrArg List.length e
  rw [List.length_drop, List.length_map] at this
  omega
 have ht : (E.take n).length = σ.length := by rw [List.length_take]; omega
 rw [hE, bW_ ht, ce_, ff_ hl2, eo_] at l
 obtain ⟨g1, g2, rfl, l1, l2⟩ := l.split (by rw [da_ ht]; unfold bU_; rw [List.length_map])
 refine ⟨g2, l2, ?_, fun a m => pm.mem_iff.mpr (List.mem_append_right _ m)⟩
 exact (List.nodup_append.mp (pm.nodup_iff.mp R.nd)).2.1
section
variable {P : Program} {w : World} {mg : Str -> Option Value} {base : Heap}
theorem cR_ {x qual : Str} {st : Stmt} {f : Addr} {fd : FuncData} {N ps : List Str} {k : Nat} {dd : En -> Option Out} (Fn : Fun K x qual st f fd) (Sc : FnScope N ps (defScope st))
  (body : ∀ (cdv : Value) (A : Around) (outer : List Env) (s : Shared) (H : Hp) (E : XK) (as : Ro), Room k (A.deeper (envOfC qual (defScope st) s.heap.objs.size f cdv)) →
   ∃ t, PSs (cxOf CX0 P w K mg base N qual (defScope st) f cdv A outer s H E).nox (defBody st) t /\ ∀ W, EvS K N.length as W t dd) :
  FnOk P w K mg base CX0 (k + 1) f fd ps (dO_ K ps.length (fnG N.length dd)) := by
 have hps : ps.length <= N.length := by have := congrArg List.length Sc.pre; rw [List.length_take] at this; omega
 refine Fn.ok Sc (fun vs H Q E h => h.1) (fun cdv A outer s H vs Q E hr h => ?_)
 obtain ⟨hl, F, ss, fp, r, ss', sub, l, nd, of, hg, q⟩ := h
 obtain ⟨t, h1, h2⟩ := body cdv A outer s H E (vs.map some) hr
 refine ⟨t, h1, ?_⟩
 have R := Rep.entry (N := N) sub l nd of (by omega)
 have L : (start N vs).length = N.length := by rw [b5_, List.length_append, List.length_map, List.length_replicate]; omega
 unfold fnG at hg
 split at hg
 ·next r' E' hd =>
  obtain ⟨s2, e1, e2⟩ := Option.map_eq_some_iff.mp hg
  cases e2
  refine h2 (fun _ _ _ _ => True) L R hd fun v σ' F' H' fr fp' L' g R' ow nd' of' => ?_
  obtain ⟨fq, l2, n2, sb⟩ := R'.args L' e1
  have nd2 : (fr ++ fq).Nodup := aG_ (List.nodup_append.mp nd').1 n2 fun a m b m2 => (List.nodup_append.mp nd').2.2 a m b (sb b m2)
  refine q v F' H' fr fq (g.less fun a m => ?_) l2 ow nd2 fun a m => ?_
  ·rcases List.mem_append.mp m with m | m
   ·exact List.mem_append_left _ m
   ·exact List.mem_append_right _ (sb a m)
  ·rcases List.mem_append.mp m with m | m
   ·exact of' a m
   ·exact R'.off a (sb a m)
 ·next E' hd =>
  obtain ⟨s2, e1, e2⟩ := Option.map_eq_some_iff.mp hg
  cases e2
  refine h2 (fun _ _ _ _ => True) L R hd fun σ' F' H' fp' L' g R' => ?_
  obtain ⟨fq, l2, n2, sb⟩ := R'.args L' e1
  exact q .non F' H' [] fq (g.less fun a m => sb a (by simpa using m)) l2 (.dat .non) (by simpa using n2) fun a m => R'.off a (sb a (by simpa using m))
 ·cases hg
end
def bj_ (p : List Nat) : List Rs -> Bool
 | [] => true
 | .pl q :: rs => b2_ p q && bj_ p rs
 | .val _ :: rs => bj_ p rs
def bf_ : List Rs -> Bool
 | [] => true
 | .pl p :: rs => bj_ p rs && bf_ rs
 | .val _ :: rs => bf_ rs
def hQ_ (E : En) : List Rs -> Option (List S)
 | [] => some []
 | r :: rs => match r.at E, hQ_ E rs with
  | some s, some ss => some (s :: ss)
  | _, _ => none
def aF_ (E : En) : List Rs -> List S -> En
 | .pl p :: rs, s :: ss => aF_ (bA_ E p s) rs ss
 | .val _ :: rs, _ :: ss => aF_ E rs ss
 | _, _ => E
def bK_ (E : En) : List Rs -> En
 | .pl p :: rs => bK_ (bV_ E p) rs
 | .val _ :: rs => bK_ E rs
 | [] => E
theorem gf_ {p : List Nat} : ∀ {rs : List Rs}, bj_ p rs = true -> hQ_ (bA_ E p t) rs = hQ_ E rs
 | [], _ => rfl
 | .pl q :: rs, h => by
  simp only [bj_, Bool.and_eq_true] at h
  simp only [hQ_, Rs.at, bI_ h.1, gf_ h.2]
 | .val _ :: rs, h => by
  simp only [bj_] at h
  simp only [hQ_, Rs.at, gf_ h]
theorem dP_ {p : List Nat} : ∀ {rs : List Rs} {ss : List S} {E : En}, bj_ p rs = true -> bA_ (aF_ E rs ss) p t = aF_ (bA_ E p t) rs ss
 | [], _, _, _ => by simp [aF_]
 | .pl q :: rs, [], _, _ => by simp [aF_]
 | .val _ :: rs, [], _, _ => by simp [aF_]
 | .pl q :: rs, s :: ss, E, h => by
  simp only [bj_, Bool.and_eq_true] at h
  simp only [aF_]
  rw [dP_ h.2, jJ_ (by rw [em_]; exact h.1)]
 | .val _ :: rs, s :: ss, E, h => by
  simp only [bj_] at h
  simp only [aF_]
  exact dP_ h
theorem dQ_ {p : List Nat} : ∀ {rs : List Rs} {ss : List S} {E : En}, bj_ p rs = true -> aZ_ (aF_ E rs ss) p = aZ_ E p
 | [], _, _, _ => by simp [aF_]
 | .pl q :: rs, [], _, _ => by simp [aF_]
 | .val _ :: rs, [], _, _ => by simp [aF_]
 | .pl q :: rs, s :: ss, E, h => by
  simp only [bj_, Bool.and_eq_true] at h
  simp only [aF_]
  rw [dQ_ h.2, bI_ (by rw [em_]; exact h.1)]
 | .val _ :: rs, s :: ss, E, h => by
  simp only [bj_] at h
  simp only [aF_]
  exact dQ_ h
theorem hR_ {p q : List Nat} (hp : aZ_ E p = some s) (hq : (aZ_ E q).isSome = true) (w : a3_ p q = false) : (aZ_ (bA_ E p t) q).isSome = true := by
 rcases e3_ p q w with e | e | e
 ·subst e; rw [c9_ hp]; rfl
 ·rw [bI_ e]; exact hq
 ·have q0 : q ≠ [] := fun z => by rw [z] at hq; cases hq
  exact en_ q0 e hp
theorem RsAll.env {rs : List Rs} (a : RsAll K F H ρ E vs rs fr) (k : ∀ q, Rs.pl q ∈ rs -> (aZ_ E' q).isSome = true) : RsAll K F H ρ E' vs rs fr := by
 induction a with
 | nil => exact .nil
 | @cons v vs r rs f g h t ih =>
  refine .cons ?_ (ih fun q m => k q (List.mem_cons_of_mem _ m))
  cases r with
  | val s => exact h
  | pl p => exact ⟨h.1, h.2.1, k p List.mem_cons_self⟩
theorem bX_ {p q : List Nat} : ∀ {rs : List Rs}, bj_ p rs = true -> Rs.pl q ∈ rs -> b2_ p q = true
 | .pl r :: rs, h, m => by
  simp only [bj_, Bool.and_eq_true] at h
  rcases List.mem_cons.mp m with e | m
  ·cases e; exact h.1
  ·exact bX_ h.2 m
 | .val _ :: rs, h, m => by
  simp only [bj_] at h
  rcases List.mem_cons.mp m with e | m
  ·cases e
  ·exact bX_ h m
theorem RsAll.places {rs : List Rs} (a : RsAll K F H ρ E vs rs fr) : ∀ q, Rs.pl q ∈ rs -> (aZ_ E q).isSome = true := by
 induction a with
 | nil => exact fun _ m => nomatch m
 | @cons v vs r rs f g h t ih =>
  intro q m
  rcases List.mem_cons.mp m with e | m
  ·subst e; exact h.2.2
  ·exact ih q m
theorem fg_ : ∀ {rs : List Rs} {vs : List V} {fr : List Addr} {E : En} {fp : List Addr} {ss : List S}, RsAll K F H ρ E vs rs fr -> Core K F H ρ E fp -> bf_ rs = true -> hQ_ E rs = some ss →
  ∃ fa fh E1, OwnL K F H vs ss fa /\ Core K F H ρ E1 fh /\ (fr ++ fp).Perm (fa ++ fh) /\ (∀ q, (aZ_ E q).isSome = true -> (∀ p, Rs.pl p ∈ rs -> a3_ p q = false) -> (aZ_ E1 q).isSome = true) ∧
   ∀ F' H' ss' fa', Core K F' H' ρ E1 fh -> OwnL K F' H' vs ss' fa' -> ∃ fz fd, Core K F' H' ρ (aF_ E rs ss') (fz ++ fh) /\ fa'.Perm (fz ++ fd)
 | _, _, _, E, fp, _, .nil, c, _, e => by
  cases e
  refine ⟨[], fp, E, .nil, c, by simp, fun q h _ => h, fun F' H' ss' fa' c' l => ?_⟩
  cases l
  exact ⟨[], [], by simpa [aF_] using c', by simp⟩
 | r :: rs, v :: vs, _, E, fp, ss0, .cons (f := f) (g := g) a l, c, ok, e => by
  simp only [hQ_] at e
  split at e
  ·next s ss es ess =>
   cases e
   cases r with
   | val s' =>
    cases es
    simp only [bf_] at ok
    obtain ⟨fa, fh, E1, o1, c1, pm, keep, close⟩ := fg_ l c ok ess
    refine ⟨f ++ fa, fh, E1, .cons a o1, c1, ?_, fun q h k => keep q h fun p m => k p (List.mem_cons_of_mem _ m), fun F' H' ss' fa' c' l' => ?_⟩
    ·rw [List.append_assoc, List.append_assoc]
     exact List.Perm.append_left f pm
    ·cases l' with
     | @cons _ _ s2 ss2 k1 k2 a2 l2 =>
      obtain ⟨fz, fd, c2, p2⟩ := close F' H' ss2 k2 c' l2
      refine ⟨fz, k1 ++ fd, by simpa only [aF_] using c2, ?_⟩
      refine (List.Perm.append_left k1 p2).trans ?_
      rw [<- List.append_assoc, <- List.append_assoc]
      exact List.Perm.append_right fd List.perm_append_comm
   | pl p =>
    simp only [bf_, Bool.and_eq_true] at ok
    obtain ⟨a1, a2, a3⟩ := a
    subst a1
    obtain ⟨u, fp1, fp2, e1, o, c1, pm1⟩ := c.take (show aZ_ E p = some s from es)
    rw [a2] at e1
    cases e1
    have l' : RsAll K F H ρ (bA_ E p (.con v)) vs rs g := l.env fun q m => by
     rw [bI_ (bX_ ok.1 m)]
     exact l.places q m
    obtain ⟨fa, fh, E1, o1, c2, pm, keep, close⟩ := fg_ l' c1 ok.2 (by rw [gf_ ok.1]; exact ess)
    refine ⟨fp1 ++ fa, fh, E1, .cons o o1, c2, ?_, fun q h k => keep q (hR_ es h (k p List.mem_cons_self)) fun p m => k p (List.mem_cons_of_mem _ m), fun F' H' ss' fa' c' l2 => ?_⟩
    ·-- [] ++ g ++ fp ~ fp1 ++ fa ++ fh
     rw [List.nil_append, List.append_assoc]
     refine (List.Perm.append_left g pm1).trans ?_
     rw [<- List.append_assoc]
     refine (List.Perm.append_right fp2 List.perm_append_comm).trans ?_
     rw [List.append_assoc]
     exact List.Perm.append_left fp1 pm
    ·cases l2 with
     | @cons _ _ s2 ss2 k1 k2 b2 l2 =>
      obtain ⟨fz, fd, c3, p2⟩ := close F' H' ss2 k2 c' l2
      have hole : aZ_ (aF_ (bA_ E p (.con v)) rs ss2) p = some (.con v) := by
       rw [dQ_ ok.1, c9_ es]
      have c4 := c3.put hole b2
      rw [dP_ ok.1, gX_] at c4
      refine ⟨k1 ++ fz, fd, by rw [List.append_assoc]; simpa only [aF_] using c4, ?_⟩
      rw [List.append_assoc]
      exact List.Perm.append_left k1 p2
  ·cases e
theorem cy_ : ∀ {rs : List Rs} {E : En}, Core K F H ρ E fp -> Core K F H ρ (bK_ E rs) fp
 | [], _, c => c
 | .pl p :: rs, _, c => cy_ (rs := rs) (c.kill p)
 | .val _ :: rs, _, c => cy_ (rs := rs) c
theorem cS_ : ∀ {rs : List Rs} {E : En} (q : List Nat), aZ_ (bK_ E rs) q = aZ_ E q
 | [], _, _ => rfl
 | .pl p :: rs, E, q => by simp only [bK_]; rw [cS_ q, gY_]
 | .val _ :: rs, E, q => by simp only [bK_]; exact cS_ q
theorem cT_ : ∀ {rs : List Rs} {E : En} {i : Nat} {q : List Nat}, (bK_ E rs)[i]? = some (Sl.bor q) -> E[i]? = some (Sl.bor q) /\ ∀ p, Rs.pl p ∈ rs -> a3_ p q = false
 | [], _, _, _, h => ⟨h, fun _ m => nomatch m⟩
 | .val _ :: rs, E, i, q, h => by
  obtain ⟨h1, h2⟩ := cT_ (rs := rs) h
  exact ⟨h1, fun p m => (List.mem_cons.mp m).elim (fun e => nomatch e) (h2 p)⟩
 | .pl p :: rs, E, i, q, h => by
  obtain ⟨h1, h2⟩ := cT_ (rs := rs) h
  unfold bV_ at h1
  rw [List.getElem?_map] at h1
  cases e : E[i]? with
  | none => rw [e] at h1; cases h1
  | some sl =>
   rw [e] at h1
   cases sl with
   | no => cases h1
   | own w => cases h1
   | bor r =>
    simp only [Option.map_some, hN_, Option.some.injEq] at h1
    cases hw : a3_ p r with
    | true => rw [hw] at h1; simp at h1
    | false =>
     rw [hw] at h1
     simp only [Bool.false_eq_true, if_false, Sl.bor.injEq] at h1
     subst h1
     exact ⟨rfl, fun p' m => (List.mem_cons.mp m).elim (fun e => by cases e; exact hw) (h2 p')⟩
theorem dx_ : ∀ {rs : List Rs} {ss : List S} {E : En} {i : Nat} {q : List Nat}, (aF_ E rs ss)[i]? = some (Sl.bor q) -> E[i]? = some (Sl.bor q)
 | [], _, _, _, _, h => by simpa [aF_] using h
 | .pl _ :: _, [], _, _, _, h => by simpa [aF_] using h
 | .val _ :: _, [], _, _, _, h => by simpa [aF_] using h
 | .val _ :: rs, s :: ss, E, i, q, h => dx_ (rs := rs) (ss := ss) (by simpa only [aF_] using h)
 | .pl p :: rs, s :: ss, E, i, q, h => by
  have h1 := dx_ (rs := rs) (ss := ss) (by simpa only [aF_] using h)
  cases p with
  | nil => exact h1
  | cons j p =>
   simp only [bA_] at h1
   cases e : E[j]? with
   | none => rw [e] at h1; exact h1
   | some sl =>
    rw [e] at h1
    cases sl with
    | own w =>
     dsimp only at h1
     by_cases ij : j = i
     ·subst ij
      have hj := (List.getElem?_eq_some_iff.mp e).1
      rw [List.getElem?_set_self hj] at h1
      cases h1
     ·rwa [List.getElem?_set_ne ij] at h1
    | no => exact h1
    | bor r => exact h1
def ag_ (g : List S -> Option (S × List S)) (dr : En -> Option (List Rs)) (E : En) : Option (S × En) := match dr E with
 | some rs => if bf_ rs = true then match hQ_ E rs with
   | some ss => match g ss with
    | some (s, ss') => some (s, bK_ (aF_ E rs ss') rs)
    | none => none
   | none => none
  else none
 | none => none
theorem gg_ : ∀ {rs : List Rs} {ss : List S}, hQ_ E rs = some ss -> ss.length = rs.length
 | [], ss, h => by cases h; rfl
 | r :: rs, ss, h => by
  simp only [hQ_] at h
  split at h
  ·next s ss' e1 e2 => cases h; simp only [List.length_cons, gg_ e2]
  ·cases h
theorem aD_ {m : Nat} {g : List S -> Option (S × List S)} {EX : XK} (hr : EvA K n as tr dr) (hm : ∀ E rs, dr E = some rs -> rs.length = m) : EvE K n as (tCall (dO_ K m g) [] EX tr) (ag_ g dr) := by
 intro F H σ E fp L R s E' e Q q
 unfold ag_ at e
 split at e
 ·next rs ers =>
  split at e
  ·next ok =>
   split at e
   ·next ss ess =>
    split at e
    ·next s' ss' eg =>
     cases e
     refine hr L R ers fun vs F1 H1 fr g1 a nd of => ?_
     have R1 := R.grow g1
     obtain ⟨fa, fh, E1, l, c1, pm, keep, close⟩ := fg_ a R1.core ok ess
     have ndall : (fa ++ fh).Nodup := pm.nodup_iff.mp (R.apart_new g1 nd)
     have memA : ∀ b ∈ fa, b ∈ fr ++ fp := fun b m => pm.mem_iff.mpr (List.mem_append_left _ m)
     have memH : ∀ b ∈ fh, b ∈ fr ++ fp := fun b m => pm.mem_iff.mpr (List.mem_append_right _ m)
     have offAll : ∀ b ∈ fr ++ fp, F1 b = none := fun b m => (List.mem_append.mp m).elim (of b) (R1.off b)
     have dj : ∀ b ∈ fh, b ∉ fa := fun b m1 m2 => (List.nodup_append.mp ndall).2.2 b m2 b m1 rfl
     refine ⟨by rw [List.append_nil, l.length, gg_ ess, hm E rs ers], F1, ss, fa, s, ss', g1.sub, by rw [List.append_nil]; exact l, (List.nodup_append.mp ndall).1, fun b m => offAll b (memA b m), eg, fun v F2 H2 fr2 fa2 g2 l2 ow nd2 of2 => ?_⟩
     rw [List.append_nil] at l2
     have keepH : ∀ b ∈ fh, ∀ o, H1 b = some o -> H2 b = some o := fun b m o e => g2.keep b o e (dj b m)
     have c2 := c1.frame g2.f g2.sub keepH
     obtain ⟨fz, fd, c3, pz⟩ := close F2 H2 ss' fa2 c2 l2
     have subz : ∀ b ∈ fz, b ∈ fa2 := fun b m => pz.mem_iff.mpr (List.mem_append_left _ m)
     have thereH : ∀ b ∈ fh, ∃ o, H1 b = some o := c1.there
     have notnew : ∀ b ∈ fh, b ∉ fr2 ++ fa2 := fun b m m2 => by
      obtain ⟨o, eo⟩ := thereH b m
      rcases g2.new b m2 with z | z
      ·exact dj b m z
      ·rw [eo] at z; cases z
     have ndz : (fz ++ fh).Nodup := by
      have n1 := (List.nodup_append.mp nd2).2.1
      exact aG_ (List.nodup_append.mp (pz.nodup_iff.mp n1)).1 (List.nodup_append.mp ndall).2.1 fun b m c mc e => by
       subst e
       exact notnew b mc (List.mem_append_right _ (subz b m))
     have R2 : Rep K F2 H2 (σ ++ as) (bK_ (aF_ E rs ss') rs) (fz ++ fh) := by
      refine ⟨cy_ c3, g2.sub, ndz, fun b m => ?_, fun i p hb => ?_⟩
      ·rcases List.mem_append.mp m with m | m
       ·exact of2 b (List.mem_append_right _ (subz b m))
       ·obtain ⟨o, eo⟩ := thereH b m
        exact g2.off b (by rw [eo]; exact fun z => nomatch z) (dj b m) (offAll b (memH b m))
      ·obtain ⟨hb1, hb2⟩ := cT_ hb
       have hb3 := dx_ hb1
       obtain ⟨w, k1, k2, k3⟩ := R1.bor i p hb3
       have k4 := keep p k3 hb2
       obtain ⟨t4, ht4⟩ := Option.isSome_iff_exists.mp k4
       refine ⟨w, k1, by rw [c1.follow_keep (fun b o e => g2.sub b o (g2.f b o e)) ht4 keepH]; exact k2, ?_⟩
       rw [cS_]
       have go : ∀ (rs : List Rs) (ss : List S) (E : En), (aZ_ E p).isSome = true -> (∀ q, Rs.pl q ∈ rs -> (aZ_ E q).isSome = true) -> bf_ rs = true -> (∀ q, Rs.pl q ∈ rs -> a3_ q p = false) -> (aZ_ (aF_ E rs ss) p).isSome = true := by
        intro rs
        induction rs with
        | nil => intro ss E h _ _ _; simpa [aF_] using h
        | cons r rs ih =>
         intro ss E h hp ok hw
         cases ss with
         | nil => cases r <;> simpa [aF_] using h
         | cons s ss =>
          cases r with
          | val _ =>
           simp only [aF_]
           exact ih ss E h (fun q m => hp q (List.mem_cons_of_mem _ m)) (by simpa only [bf_] using ok) fun q m => hw q (List.mem_cons_of_mem _ m)
          | pl q0 =>
           simp only [bf_, Bool.and_eq_true] at ok
           simp only [aF_]
           obtain ⟨t0, ht0⟩ := Option.isSome_iff_exists.mp (hp q0 List.mem_cons_self)
           exact ih ss (bA_ E q0 s) (hR_ ht0 h (hw q0 List.mem_cons_self)) (fun q m => by rw [bI_ (bX_ ok.1 m)]; exact hp q (List.mem_cons_of_mem _ m)) ok.2 fun q m => hw q (List.mem_cons_of_mem _ m)
       exact go rs ss' E k3 a.places ok hb2
     have gg : Grow F H fp F2 H2 (fr2 ++ (fz ++ fh)) := by
      have g1' : Grow F H fp F1 H1 (fa ++ fh) := (g1.ours fp).less fun b m => pm.mem_iff.mpr m
      refine g1'.trans (g2.wide (fun b m => List.mem_append_left _ m) fun b m => ?_)
      rcases List.mem_append.mp m with m | m
      ·exact (g2.new b (List.mem_append_left _ m)).imp (fun z => List.mem_append_left _ z) id
      ·rcases List.mem_append.mp m with m | m
       ·exact (g2.new b (List.mem_append_right _ (subz b m))).imp (fun z => List.mem_append_left _ z) id
       ·exact .inl (List.mem_append_right _ m)
     refine q v F2 H2 fr2 (fz ++ fh) gg R2 ow ?_ fun b m => of2 b (List.mem_append_left _ m)
     refine aG_ (List.nodup_append.mp nd2).1 ndz fun b m c mc e => ?_
     subst e
     rcases List.mem_append.mp mc with mc | mc
     ·exact (List.nodup_append.mp nd2).2.2 b m b (subz b mc) rfl
     ·exact notnew b mc (List.mem_append_left _ m)
    ·cases e
   ·cases e
  ·cases e
 ·cases e
variable {de df : En -> Option (S × En)}
def dR_ : PyData -> PyData -> Option PyData | .int i, .int j => some (.int (i + j)) | _, _ => none
def e4_ : PyData -> PyData -> Option PyData | .int i, .int j => some (.int (i - j)) | _, _ => none
def fh_ : PyData -> PyData -> Option PyData | .int i, .int j => if (-(2 ^ 64) < i /\ i < 2 ^ 64) ∨ (-(2 ^ 64) < j /\ j < 2 ^ 64) then some (.int (i * j)) else none | _, _ => none
def mc_ : PyData -> PyData -> Option PyData | .int i, .int j => if 0 < j /\ j < 1073741824 then some (.int (i / j)) else none | _, _ => none
def fG_ : PyData -> PyData -> Option PyData | .int i, .int j => if 0 < j then some (.int (i % j)) else none | _, _ => none
def fLt : PyData -> PyData -> Option PyData | .int i, .int j => some (.bool (decide (i < j))) | _, _ => none
def fLe : PyData -> PyData -> Option PyData | .int i, .int j => some (.bool (decide (i <= j))) | _, _ => none
def fGt : PyData -> PyData -> Option PyData | .int i, .int j => some (.bool (decide (j < i))) | _, _ => none
theorem g1_ {g : Int -> Int -> PyData} (h : ∀ i j, mU_ (g i j) = true) {f : PyData -> PyData -> Option PyData} (hf : ∀ a b c, f a b = some c -> ∃ i j, a = .int i /\ b = .int j /\ c = g i j) {gv : Int -> Int -> V} (hg : ∀ i j, gv i j = scV (g i j)) : Rv2 K (rI0 gv) f := by
 intro H x y a b c ha hb e Q q
 obtain ⟨i, j, rfl, rfl, rfl⟩ := hf a b c e
 cases ha; cases hb
 exact ⟨i, j, rfl, rfl, by rw [hg]; exact q (h i j)⟩
theorem d6_ : Rv2 K (rI0 fun i j => .int (i + j)) dR_ := g1_ (g := fun i j => .int (i + j)) (fun _ _ => rfl) (fun a b c e => by unfold dR_ at e; split at e <;> cases e; exact ⟨_, _, rfl, rfl, rfl⟩) fun _ _ => rfl
theorem g2_ : Rv2 K (rI0 fun i j => .int (i - j)) e4_ := g1_ (g := fun i j => .int (i - j)) (fun _ _ => rfl) (fun a b c e => by unfold e4_ at e; split at e <;> cases e; exact ⟨_, _, rfl, rfl, rfl⟩) fun _ _ => rfl
theorem ll_ : Rv2 K (rI0 fun i j => .bl (decide (i < j))) fLt := g1_ (g := fun i j => .bool (decide (i < j))) (fun _ _ => rfl) (fun a b c e => by unfold fLt at e; split at e <;> cases e; exact ⟨_, _, rfl, rfl, rfl⟩) fun _ _ => rfl
theorem i6_ : Rv2 K (rI0 fun i j => .bl (decide (i <= j))) fLe := g1_ (g := fun i j => .bool (decide (i <= j))) (fun _ _ => rfl) (fun a b c e => by unfold fLe at e; split at e <;> cases e; exact ⟨_, _, rfl, rfl, rfl⟩) fun _ _ => rfl
theorem g3_ : Rv2 K (rI0 fun i j => .bl (decide (j < i))) fGt := g1_ (g := fun i j => .bool (decide (j < i))) (fun _ _ => rfl) (fun a b c e => by unfold fGt at e; split at e <;> cases e; exact ⟨_, _, rfl, rfl, rfl⟩) fun _ _ => rfl
theorem iu_ : Rv2 K (rI CMul fun i j => .int (i * j)) fh_ := by
 intro H x y a b c ha hb e Q q
 unfold fh_ at e
 split at e
 ·next i j =>
  split at e
  ·next h =>
   cases e
   cases ha; cases hb
   exact ⟨i, j, rfl, rfl, h, q rfl⟩
  ·cases e
 ·cases e
theorem ol_ : Rv2 K (rI CDiv fun i j => .int (i / j)) mc_ := by
 intro H x y a b c ha hb e Q q
 unfold mc_ at e
 split at e
 ·next i j =>
  split at e
  ·next h =>
   cases e
   cases ha; cases hb
   exact ⟨i, j, rfl, rfl, h, q rfl⟩
  ·cases e
 ·cases e
theorem iv_ : Rv2 K (rI (fun _ j => 0 < j) fun i j => .int (i % j)) fG_ := by
 intro H x y a b c ha hb e Q q
 unfold fG_ at e
 split at e
 ·next i j =>
  split at e
  ·next h =>
   cases e
   cases ha; cases hb
   exact ⟨i, j, rfl, rfl, h, q rfl⟩
  ·cases e
 ·cases e
def bP_ : PyData -> PyData -> Option PyData
 | .none, .none => some (.bool true)
 | .none, .int _ => some (.bool false) | .int _, .none => some (.bool false)
 | .none, .bool _ => some (.bool false) | .bool _, .none => some (.bool false)
 | .none, .str _ => some (.bool false) | .str _, .none => some (.bool false)
 | .int i, .int j => some (.bool (decide (i = j)))
 | .bool i, .bool j => some (.bool (decide (i = j)))
 | .str i, .str j => some (.bool (decide (i = j)))
 | _, _ => none
def dD_ (a b : PyData) : Option PyData := match bP_ a b with
 | some (.bool k) => some (.bool (!k))
 | _ => none
theorem md_ {a b c : PyData} {x y : V} (ha : Dq K H x a) (hb : Dq K H y b) (e : bP_ a b = some c) : scal x y = true /\ c = .bool (decide (x = y)) := by
 unfold bP_ at e
 split at e <;> cases e <;> cases ha <;> cases hb <;> first | (exact ⟨rfl, rfl⟩) | (refine ⟨rfl, ?_⟩; simp)
theorem dS_ : Rv2 K rEq bP_ := by
 intro H x y a b c ha hb e Q q
 obtain ⟨h1, rfl⟩ := md_ ha hb e
 exact ⟨h1, q rfl⟩
theorem gh_ : Rv2 K rNe dD_ := by
 intro H x y a b c ha hb e Q q
 unfold dD_ at e
 split at e
 ·next k ek =>
  cases e
  obtain ⟨h1, h2⟩ := md_ ha hb ek
  cases h2
  exact ⟨h1, q rfl⟩
 ·cases e
def e5_ (a b : PyData) : Option PyData := if SeqAt.shaped a = true /\ SeqAt.shaped b = true then some (.bool (PyData.eqv a b)) else none
def k9_ (a b : PyData) : Option PyData := if SeqAt.shaped a = true /\ SeqAt.shaped b = true then some (.bool (!PyData.eqv a b)) else none
theorem iw_ : Rv2 K (rEqD K) e5_ := by
 intro H x y a b c ha hb e Q q
 unfold e5_ at e
 split at e
 ·next h => cases e; exact ⟨a, b, ha.dp, hb.dp, h.1, h.2, q rfl⟩
 ·cases e
theorem me_ : Rv2 K (rNeD K) k9_ := by
 intro H x y a b c ha hb e Q q
 unfold k9_ at e
 split at e
 ·next h => cases e; exact ⟨a, b, ha.dp, hb.dp, h.1, h.2, q rfl⟩
 ·cases e
def isNone : PyData -> Bool | .none => true | _ => false
def fS_ (a b : PyData) : Option PyData := if isNone b then some (.bool (isNone a)) else none
def fI_ (a b : PyData) : Option PyData := if isNone b then some (.bool (!isNone a)) else none
theorem jM_ {a : PyData} (ha : Dq K H x a) : decide (x = .non) = isNone a := by
 cases ha <;> simp [isNone]
theorem g4_ : Rv2 K (fun x y H Q => y = V.non /\ Q (.bl (decide (x = .non))) H) fS_ := by
 intro H x y a b c ha hb e Q q
 unfold fS_ at e
 split at e
 ·next h =>
  cases e
  cases b <;> first | (cases hb; exact ⟨rfl, by rw [jM_ ha]; exact q rfl⟩) | cases h
 ·cases e
theorem jN_ : Rv2 K (fun x y H Q => y = V.non /\ Q (.bl (!decide (x = .non))) H) fI_ := by
 intro H x y a b c ha hb e Q q
 unfold fI_ at e
 split at e
 ·next h =>
  cases e
  cases b <;> first | (cases hb; exact ⟨rfl, by rw [jM_ ha]; exact q rfl⟩) | cases h
 ·cases e
def la_ (d : En -> Option Rs) (E : En) : Option Rs := match d E with
 | some (.val (.dat (.int i))) => some (.val (.dat (.int (-i))))
 | _ => none
theorem om_ (h : EvP K n as te d) : EvP K n as (tUn (rU fun i => .int (-i)) te) (la_ d) := by
 intro F H σ E fp L R r e Q q
 unfold la_ at e
 split at e
 ·next i ed =>
  cases e
  refine h L R ed fun v F1 H1 f1 g1 r1 n1 o1 => ?_
  cases (Own.dat_inv (show Own K F1 H1 v _ f1 from r1) rfl).1
  exact ⟨i, rfl, q _ F1 H1 [] g1.drop (.dat (.int _)) List.nodup_nil (fun _ m => nomatch m)⟩
 ·cases e
theorem on_ (nd : (fr ++ fp).Nodup) : ∀ a ∈ fr, a ∉ fp := fun a m m2 => (List.nodup_append.mp nd).2.2 a m a m2 rfl
def eOp (f : PyData -> PyData -> Option PyData) (da db : En -> Option (S × En)) (E : En) : Option (S × En) := match da E with
 | some (a, E1) => match db E1 with
  | some (b, E2) => match a.toD, b.toD with
   | some a, some b => (f a b).map fun c => (.dat c, E2)
   | _, _ => none
  | none => none
 | none => none
theorem mY_ {r : R2} {f : PyData -> PyData -> Option PyData} (hr : Rv2 K r f) (ha : EvE K n as ta de) (hb : EvE K n as tb df) : EvE K n as (tOp r ta tb) (eOp f de df) := by
 intro F H σ E fp L R s E' e Q q
 unfold eOp at e
 split at e
 ·next a E1 ea =>
  split at e
  ·next b E2 eb =>
   split at e
   ·next a' b' ea' eb' =>
    obtain ⟨c, ec, e2⟩ := Option.map_eq_some_iff.mp e
    cases e2
    refine ha L R ea fun x F1 H1 fr1 fp1 g1 R1 o1 nd1 of1 => hb L R1 eb fun y F2 H2 fr2 fp2 g2 R2 o2 nd2 of2 => ?_
    have o1' := o1.grow g2 (on_ nd1)
    refine hr (Own.dp R2.sub a o1' ea') (Own.dp R2.sub b o2 eb') ec fun hc => ?_
    have g12 : Grow F H fp F2 H2 fp2 := (g1.less (fun a m => List.mem_append_right _ m)).trans (g2.less fun a m => List.mem_append_right _ m)
    exact q _ F2 H2 [] fp2 g12 R2 (.dat (fd_ hc)) R2.nd (fun _ m => nomatch m)
   ·cases e
  ·cases e
 ·cases e
def cf_ (da db : En -> Option (S × En)) (E : En) : Option (S × En) := match da E with
 | some (.dat (.bool true), E') => db E'
 | some (.dat (.bool false), E') => some (.dat (.bool false), E')
 | _ => none
def oo_ (da db : En -> Option (S × En)) (E : En) : Option (S × En) := match da E with
 | some (.dat (.bool false), E') => db E'
 | some (.dat (.bool true), E') => some (.dat (.bool true), E')
 | _ => none
theorem g5_ (ha : EvE K n as ta de) (hb : EvE K n as tb df) : EvE K n as (tAndV ta tb) (cf_ de df) := by
 intro F H σ E fp L R s E' e Q q
 unfold cf_ at e
 split at e
 ·next E1 ea =>
  refine ha L R ea fun x F1 H1 fr1 fp1 g1 R1 o1 nd1 of1 => ?_
  cases (o1.dat_inv rfl).1
  have g1' := g1.less (fr := fp1) fun a m => List.mem_append_right _ m
  exact ⟨true, rfl, iteT (hb L R1 e fun y F2 H2 fr2 fp2 g2 R2 o2 nd2 of2 => q y F2 H2 fr2 fp2 (g1'.trans g2) R2 o2 nd2 of2)⟩
 ·next E1 ea =>
  cases e
  refine ha L R ea fun x F1 H1 fr1 fp1 g1 R1 o1 nd1 of1 => ?_
  cases (o1.dat_inv rfl).1
  exact ⟨false, rfl, iteF (q _ F1 H1 [] fp1 (g1.less fun a m => List.mem_append_right _ m) R1 (.dat (.bl false)) R1.nd (fun _ m => nomatch m))⟩
 ·cases e
theorem p3_ (ha : EvE K n as ta de) (hb : EvE K n as tb df) : EvE K n as (tOrV ta tb) (oo_ de df) := by
 intro F H σ E fp L R s E' e Q q
 unfold oo_ at e
 split at e
 ·next E1 ea =>
  refine ha L R ea fun x F1 H1 fr1 fp1 g1 R1 o1 nd1 of1 => ?_
  cases (o1.dat_inv rfl).1
  have g1' := g1.less (fr := fp1) fun a m => List.mem_append_right _ m
  exact ⟨false, rfl, iteF (hb L R1 e fun y F2 H2 fr2 fp2 g2 R2 o2 nd2 of2 => q y F2 H2 fr2 fp2 (g1'.trans g2) R2 o2 nd2 of2)⟩
 ·next E1 ea =>
  cases e
  refine ha L R ea fun x F1 H1 fr1 fp1 g1 R1 o1 nd1 of1 => ?_
  cases (o1.dat_inv rfl).1
  exact ⟨true, rfl, iteT (q _ F1 H1 [] fp1 (g1.less fun a m => List.mem_append_right _ m) R1 (.dat (.bl true)) R1.nd (fun _ m => nomatch m))⟩
 ·cases e
inductive Ty where
 | non | bool | int | str | list | tuple | dict
 deriving DecidableEq
def Ty.name : Ty -> String
 | .non => "NoneType" | .bool => "bool" | .int => "int" | .str => "str" | .list => "list" | .tuple => "tuple" | .dict => "dict"
def Ty.sub : Ty -> Ty -> Bool
 | .bool, .int => true
 | a, b => decide (a = b)
theorem Ty.kit : ∀ a b : Ty, kitB a.name b.name = some (a.sub b) := by
 intro a b
 cases a <;> cases b <;> decide +kernel
def mf_ : S -> Option Ty
 | .dat .none => some .non | .dat (.bool _) => some .bool | .dat (.int _) => some .int | .dat (.str _) => some .str
 | .dat (.list _) => some .list | .dat (.tuple _) => some .tuple
 | .lst _ => some .list | .dct false _ => some .dict
 | _ => none
theorem op_ (sub : ∀ a o, F a = some o -> H a = some o) (o : Own K F H v s fp) {T : Ty} (h : mf_ s = some T) : TyX K H v (.type T.name) := by
 cases s with
 | dat d =>
  have dp := (o.dat_inv rfl).1
  cases d with
  | none => cases h; cases dp; exact .base .non
  | bool b => cases h; cases dp; exact .base (.bl b)
  | int i => cases h; cases dp; exact .base (.int i)
  | str x => cases h; cases dp; exact .base (.str x)
  | list ds =>
   cases h
   obtain ⟨a, xs, rfl, hq, _⟩ := Mv.Dq.list_inv dp
   rcases hq with (hq | ⟨ob, hq⟩) | ⟨ob, its, k, hk, hc, _⟩
   ·exact .base (.lst (sub _ _ hq))
   ·exact .base (.frz (sub _ _ hq))
   ·exact .kList hk hc
  | tuple ds =>
   cases h
   obtain ⟨a, xs, rfl, hq, _⟩ := Mv.Dq.tuple_inv dp
   rcases hq with (hq | ⟨ob, hq⟩) | ⟨ob, its, k, hk, hc, _⟩
   ·exact .base (.tup (sub _ _ hq))
   ·exact .fTuple (sub _ _ hq)
   ·exact .kTuple hk hc
  | dict kvs => cases h
 | con w => cases h
 | ext w => cases h
 | tup w => cases h
 | lst xs =>
  cases h
  obtain ⟨a, vs, fq, rfl, hH, _⟩ := o.lst_inv rfl
  exact .base (.lst hH)
 | dct l kvs =>
  cases l with
  | true => cases h
  | false =>
   cases h
   cases o with
   | @node a ob _ ex fq hh hd _ =>
    cases ob with
    | dK k => exact .base (.dK hh)
    | frz o u => cases u <;> exact hd.elim
    | _ => exact hd.elim
 | ins C fs => cases h
def cp_ (T : Ty) (d : En -> Option Rs) (E : En) : Option Rs := match d E with
 | some r => match (r.at E).bind mf_ with
  | some U => some (.val (.dat (.bool (U.sub T))))
  | none => none
 | none => none
theorem dT_ {T : Ty} (h : EvP K n as te d) : EvP K n as (tCB (rIsi K) (tCons te (tCons (tC (.ty T.name)) tNil))) (cp_ T d) := by
 intro F H σ E fp L R r e Q q
 unfold cp_ at e
 split at e
 ·next r1 ed =>
  split at e
  ·next U eU =>
   cases e
   obtain ⟨s, hs, hT⟩ := Option.bind_eq_some_iff.mp eU
   refine h L R ed fun v F1 H1 f1 g1 a1 n1 o1 => ?_
   obtain ⟨fq, ow⟩ := a1.own (R.grow g1) hs
   exact ⟨v, .ty T.name, .type U.name, .type T.name, U.sub T, rfl, .ty T.name, op_ g1.sub ow hT, kit_ty (Ty.kit U T), q _ F1 H1 [] g1.drop (.dat (.bl _)) List.nodup_nil (fun _ m => nomatch m)⟩
  ·cases e
 ·cases e
def qH_ : S -> Option Nat
 | .lst ss => some ss.length
 | .dat (.list ds) => some ds.length
 | .dat (.tuple ds) => some ds.length
 | _ => none
def bp_ (d : En -> Option Rs) (E : En) : Option Rs := match d E with
 | some r => ((r.at E).bind qH_).map fun k => .val (.dat (.int (k : Nat)))
 | none => none
theorem oq_ (sub : ∀ a o, F a = some o -> H a = some o) (o : Own K F H v s fp) {k : Nat} (h : qH_ s = some k) : ∃ a xs, v = .ref a /\ (SqL K H a xs ∨ SqT K H a xs) /\ xs.length = k := by
 cases s with
 | lst ss =>
  cases h
  obtain ⟨a, vs, fq, rfl, hH, l, _⟩ := o.lst_inv rfl
  exact ⟨a, vs, rfl, .inl (.inl (.inl hH)), l.length⟩
 | dat d => cases d with
  | list ds =>
   cases h
   obtain ⟨a, xs, rfl, hq, da⟩ := Mv.Dq.list_inv (o.dat_inv rfl).1
   exact ⟨a, xs, rfl, .inl (SqL.mono sub hq), Mv.DqAll.len da⟩
  | tuple ds =>
   cases h
   obtain ⟨a, xs, rfl, hq, da⟩ := Mv.Dq.tuple_inv (o.dat_inv rfl).1
   exact ⟨a, xs, rfl, .inr (SqT.mono sub hq), Mv.DqAll.len da⟩
  | _ => cases h
 | con w => cases h
 | ext w => cases h
 | tup w => cases h
 | dct l kvs => cases h
 | ins C fs => cases h
theorem dU_ (h : EvP K n as te d) : EvP K n as (tCB (fun xs H Q => ∃ p ys, xs = [.ref p] /\ (SqL K H p ys ∨ SqT K H p ys) /\ Q (.int ys.length) H) (tCons te tNil)) (bp_ d) := by
 intro F H σ E fp L R r e Q q
 unfold bp_ at e
 split at e
 ·next r1 ed =>
  obtain ⟨k, hk, rfl⟩ := Option.map_eq_some_iff.mp e
  obtain ⟨s, hs, hl⟩ := Option.bind_eq_some_iff.mp hk
  refine h L R ed fun v F1 H1 f1 g1 a1 n1 o1 => ?_
  obtain ⟨fq, ow⟩ := a1.own (R.grow g1) hs
  obtain ⟨a, xs, rfl, hq, hx⟩ := oq_ g1.sub ow hl
  exact ⟨a, xs, rfl, hq, by rw [hx]; exact q _ F1 H1 [] g1.drop (.dat (.int _)) List.nodup_nil (fun _ m => nomatch m)⟩
 ·cases e
def RvC (K : PySem.W.Frag) (r : List V -> Hp -> VK -> Prop) (f : List PyData -> Option PyData) : Prop :=
 ∀ {H : Hp} {vs : List V} {ds : List PyData} {c : PyData}, DqAll K H vs ds -> f ds = some c -> ∀ {Q : VK}, (mU_ c = true -> Q (scV c) H) -> r vs H Q
def jO_ (E : En) : List Rs -> Option (List PyData)
 | [] => some []
 | r :: rs => match r.full E, jO_ E rs with
  | some d, some ds => some (d :: ds)
  | _, _ => none
theorem RsAll.dps {rs : List Rs} {ds : List PyData} (R : Rep K F H ρ E fp) (a : RsAll K F H ρ E vs rs fr) (h : jO_ E rs = some ds) : DqAll K H vs ds := by
 induction a generalizing ds with
 | nil => cases h; exact .nil
 | @cons v vs r rs f g a t ih =>
  simp only [jO_] at h
  split at h
  ·next d ds' e1 e2 => cases h; exact .cons (a.dp R e1) (ih e2)
  ·cases h
def dCB (f : List PyData -> Option PyData) (dr : En -> Option (List Rs)) (E : En) : Option Rs := match dr E with
 | some rs => match jO_ E rs with
  | some ds => (f ds).map fun c => .val (.dat c)
  | none => none
 | none => none
theorem hS_ {r : List V -> Hp -> VK -> Prop} {f : List PyData -> Option PyData} (hr : RvC K r f) (h : EvA K n as tr dr) : EvP K n as (tCB r tr) (dCB f dr) := by
 intro F H σ E fp L R r1 e Q q
 unfold dCB at e
 split at e
 ·next rs er =>
  split at e
  ·next ds eds =>
   obtain ⟨c, ec, rfl⟩ := Option.map_eq_some_iff.mp e
   refine h L R er fun vs F1 H1 f1 g1 a1 n1 o1 => hr (a1.dps (R.grow g1) eds) ec fun hc => ?_
   exact q _ F1 H1 [] g1.drop (.dat (fd_ hc)) List.nodup_nil (fun _ m => nomatch m)
  ·cases e
 ·cases e
def jv_ (f : List PyData -> Option PyData) (d : En -> Option (S × En)) (E : En) : Option (S × En) := match d E with
 | some (s, E') => match s.toD with
  | some a => (f [a]).map fun c => (.dat c, E')
  | none => none
 | none => none
theorem or_ {r : List V -> Hp -> VK -> Prop} {f : List PyData -> Option PyData} (hr : RvC K r f) (h : EvE K n as te de) : EvE K n as (tCB r (tCons te tNil)) (jv_ f de) := by
 intro F H σ E fp L R s E' e Q q
 unfold jv_ at e
 split at e
 ·next s1 E1 ed =>
  split at e
  ·next a ea =>
   obtain ⟨c, ec, e2⟩ := Option.map_eq_some_iff.mp e
   cases e2
   refine h L R ed fun v F1 H1 fr fp1 g1 R1 o1 nd1 of1 => hr (.cons (Own.dp R1.sub s1 o1 ea) .nil) ec fun hc => ?_
   exact q _ F1 H1 [] fp1 (g1.less fun a m => List.mem_append_right _ m) R1 (.dat (fd_ hc)) R1.nd (fun _ m => nomatch m)
  ·cases e
 ·cases e
def bq_ : List PyData -> Option (List Bool)
 | [] => some []
 | .bool b :: ds => (bq_ ds).map (b :: ·)
 | _ => none
theorem g6_ : ∀ {ds : List PyData} {xs : List V} {ns : List Bool}, DqAll K H xs ds -> bq_ ds = some ns -> xs = ns.map V.bl
 | [], _, _, .nil, e => by cases e; rfl
 | .bool i :: ds, _, _, .cons (.bl _) t, e => by
  simp only [bq_] at e
  obtain ⟨r, hr, rfl⟩ := Option.map_eq_some_iff.mp e
  rw [List.map_cons, g6_ t hr]
 | .none :: _, _, _, _, e => by simp [bq_] at e
 | .int _ :: _, _, _, _, e => by simp [bq_] at e
 | .str _ :: _, _, _, _, e => by simp [bq_] at e
 | .list _ :: _, _, _, _, e => by simp [bq_] at e
 | .tuple _ :: _, _, _, _, e => by simp [bq_] at e
 | .dict _ :: _, _, _, _, e => by simp [bq_] at e
def jP_ : List PyData -> Option PyData
 | [.list ds] => (bq_ ds).map fun bs => .bool (bs.all id)
 | _ => none
def hT_ : List PyData -> Option PyData
 | [.int i, .int j] => some (.int (if j < i then j else i))
 | _ => none
def lb_ : List PyData -> Option PyData
 | [.int i] => some (.int i)
 | [.bool b] => some (.int (if b then 1 else 0))
 | _ => none
theorem mg_ : RvC K (rAll K) jP_ := by
 intro H vs ds c hd e Q q
 unfold jP_ at e
 split at e
 ·next ds =>
  obtain ⟨ns, hn, rfl⟩ := Option.map_eq_some_iff.mp e
  cases hd with
  | cons h t =>
   cases t
   obtain ⟨a, xs, rfl, hq, da⟩ := Mv.Dq.list_inv h
   exact ⟨a, ns, rfl, by rw [<- g6_ da hn]; exact hq, q rfl⟩
 ·cases e
theorem mZ_ : RvC K (fun xs H Q => ∃ i j, xs = [.int i, .int j] /\ Q (.int (if j < i then j else i)) H) hT_ := by
 intro H vs ds c hd e Q q
 unfold hT_ at e
 split at e <;> cases e
 cases hd with
 | cons h t => cases t with
  | cons h2 t => cases t; cases h; cases h2; exact ⟨_, _, rfl, q rfl⟩
theorem mh_ : RvC K (fun xs H Q => (∃ i, xs = [.int i] /\ Q (.int i) H) ∨ ∃ k, xs = [.bl k] /\ Q (.int (if k then 1 else 0)) H) lb_ := by
 intro H vs ds c hd e Q q
 unfold lb_ at e
 split at e <;> cases e
 ·cases hd with
  | cons h t => cases t; cases h; exact .inl ⟨_, rfl, q rfl⟩
 ·cases hd with
  | cons h t => cases t; cases h; exact .inr ⟨_, rfl, q rfl⟩
end Mv
namespace Mv
open PySem PySem.Spec PyProof.Rows L2
variable {K : PySem.W.Frag} {F F' F1 F2 H H' H1 H2 : Hp} {v u x y : V} {vs ws : List V} {s t : S} {ss tts : List S} {fp fq fr fp' fp1 fp2 f1 f2 : List Addr} {ρ as : Ro} {E E' : En} {n : Nat}
variable {W : WXm} {te ta tb tc : TE} {d da db dc : En -> Option Rs} {tr : TA} {dr : En -> Option (List Rs)} {de df : En -> Option (S × En)}
def EvG (K : PySem.W.Frag) (n : Nat) (g : TG) (bd : Rs -> En -> Option En) : Prop :=
 ∀ {as : Ro} {F H : Hp} {σ : L2.St} {E E' : En} {fp : List Addr} {v : V} {r : Rs}, σ.length = n -> Rep K F H (σ ++ as) E fp -> RsAt K F H (σ ++ as) E v r [] -> bd r E = some E' -> ∀ {Q : L2.St -> Hp -> Prop},
  (∀ (σ' : L2.St) F' H' fp', σ'.length = n -> Grow F H fp F' H' fp' -> Rep K F' H' (σ' ++ as) E' fp' -> Q σ' H') -> g v σ H Q
def au_ (i : Nat) (r : Rs) (E : En) : Option En := match r with
 | .val s => some (ak_ E i (.own s))
 | .pl p => if p.head? = some i then none else some (ak_ E i (.bor p))
theorem br_ {i : Nat} (hi : i < n) : EvG K n (gName i) (au_ i) := by
 intro as F H σ E E' fp v r L R a e Q q
 have hl : i < (σ ++ as).length := by rw [List.length_append]; omega
 cases r with
 | val s =>
  cases e
  obtain ⟨fq, R2, sb⟩ := R.setSlot (e := .own s) (fr := []) hl a R.nd (fun _ m => nomatch m)
  exact q _ F H fq (by rw [List.length_set]; exact L) ((Grow.refl R.sub fp).less fun a m => by simpa using sb a m) (by rw [bC_ (by omega)]; exact R2)
 | pl p =>
  unfold au_ at e
  dsimp only at e
  split at e
  ·cases e
  ·next hp =>
   cases e
   obtain ⟨a1, a2, a3⟩ := a
   obtain ⟨fq, R2, sb⟩ := R.setSlot (e := .bor p) (fr := []) hl ⟨rfl, hp, a2, a3⟩ R.nd (fun _ m => nomatch m)
   exact q _ F H fq (by rw [List.length_set]; exact L) ((Grow.refl R.sub fp).less fun a m => by simpa using sb a m) (by rw [bC_ (by omega)]; exact R2)
def os_ (K : PySem.W.Frag) (n : Nat) (g : TGs) (bd : List PyData -> En -> Option En) : Prop :=
 ∀ {as : Ro} {F H : Hp} {σ : L2.St} {E E' : En} {fp : List Addr} {vs : List V} {ds : List PyData}, σ.length = n -> Rep K F H (σ ++ as) E fp -> DqAll K F vs ds -> bd ds E = some E' -> ∀ {Q : L2.St -> Hp -> Prop},
  (∀ (σ' : L2.St) F' H' fp', σ'.length = n -> Grow F H fp F' H' fp' -> Rep K F' H' (σ' ++ as) E' fp' -> Q σ' H') -> g vs σ H Q
def e6_ (ds : List PyData) (E : En) : Option En := match ds with
 | [] => some E
 | _ => none
def aX_ (b : Rs -> En -> Option En) (bs : List PyData -> En -> Option En) (ds : List PyData) (E : En) : Option En := match ds with
 | d :: ds => match b (.val (.dat d)) E with
  | some E1 => bs ds E1
  | none => none
 | [] => none
def fJ_ (k : Nat) (bs : List PyData -> En -> Option En) (r : Rs) (E : En) : Option En := match r with
 | .val (.dat (.tuple ds)) => if ds.length = k then bs ds E else none
 | _ => none
theorem fT_ : os_ K n gNil e6_ := by
 intro as F H σ E E' fp vs ds L R a e Q q
 cases a with
 | nil => cases e; exact ⟨rfl, q σ F H fp L (.refl R.sub fp) R⟩
 | cons _ _ => cases e
theorem bD_ {g : TG} {gs : TGs} {b : Rs -> En -> Option En} {bs : List PyData -> En -> Option En} (hg : EvG K n g b) (hs : os_ K n gs bs) : os_ K n (gCons g gs) (aX_ b bs) := by
 intro as F H σ E E' fp vs ds L R a e Q q
 cases a with
 | nil => cases e
 | @cons v vs d ds h t =>
  simp only [aX_] at e
  split at e
  ·next E1 e1 =>
   exact ⟨v, vs, rfl, hg L R (r := .val (.dat d)) (Own.dat h) e1 fun σ1 F1 H1 fp1 L1 g1 R1 => hs L1 R1 (DqAll.mono g1.f t) e fun σ2 F2 H2 fp2 L2 g2 R2 => q σ2 F2 H2 fp2 L2 (g1.trans g2) R2⟩
  ·cases e
theorem lm_ {gs : TGs} {bs : List PyData -> En -> Option En} {k : Nat} (hs : os_ K n gs bs) : EvG K n (gTup K k gs) (fJ_ k bs) := by
 intro as F H σ E E' fp v r L R a e Q q
 unfold fJ_ at e
 split at e
 ·next ds =>
  split at e
  ·next hk =>
   obtain ⟨ad, xs, rfl, hq, da⟩ := Mv.Dq.tuple_inv ((show Own K F H v _ [] from a).dat_inv rfl).1
   exact ⟨ad, xs, rfl, SqT.mono R.sub hq, (Mv.DqAll.len da).trans hk, hs L R da e q⟩
  ·cases e
 ·cases e
def hU_ (b : Rs -> En -> Option En) (d : En -> Option (S × En)) (E : En) : Option Out := match d E with
 | some (.dat x, E') => (b (.val (.dat x)) E').map .nx
 | _ => none
theorem ln_ {g : TG} {b : Rs -> En -> Option En} (hg : EvG K n g b) (h : EvE K n as te de) : EvS K n as W (tAsg te g) (hU_ b de) := by
 intro F H σ E fp L R o e D gg
 unfold hU_ at e
 split at e
 ·next x E' ed =>
  obtain ⟨E2, e2, rfl⟩ := Option.map_eq_some_iff.mp e
  refine h L R ed fun v F1 H1 fr fp1 g1 R1 ow nd of => ?_
  exact hg L R1 (r := .val (.dat x)) (Own.dat (ow.dat_inv rfl).1) e2 fun σ2 F2 H2 fp2 L2 g2 R2 => gg σ2 F2 H2 fp2 L2 ((g1.less fun a m => List.mem_append_right _ m).trans g2) R2
 ·cases e
theorem Grow.mine (g : Grow F H [] F' H' fr) : Grow F H fp F' H' fp := (g.ours fp).less fun a m => List.mem_append_right _ m
structure Src where
 /-- what stands behind it -/
 env : En
 /-- roots more, that hold what is walked -/
 exE : En
 /-- item i, if there is one; none: stuck -/
 rd : En -> Nat -> Option (Option Rs)
 fuel : Nat
def EvI (K : PySem.W.Frag) (n : Nat) (as : Ro) (wi : TI) (src : En -> Option Src) : Prop :=
 ∀ {F H : Hp} {σ : L2.St} {E : En} {fp : List Addr}, σ.length = n -> Rep K F H (σ ++ as) E fp -> ∀ {c : Src}, src E = some c -> ∀ {R : It -> Hp -> Prop},
  (∀ (J : It) F1 H1 (ex : List V) fp1, Grow F H fp F1 H1 fp1 -> Rep K F1 H1 (σ ++ (as ++ ex.map some)) (c.env ++ c.exE) fp1 -> ex.length = c.exE.length →
   (∀ F2 H2 (σ2 : L2.St) E2 fp2, σ2.length = n -> Grow F1 H1 fp1 F2 H2 fp2 -> Rep K F2 H2 (σ2 ++ (as ++ ex.map some)) E2 fp2 -> ∀ i,
    (∀ r, c.rd E2 i = some (some r) -> J.go i H2 /\ ∀ x H', J.yld i H2 x H' -> H' = H2 /\ RsAt K F2 H2 (σ2 ++ (as ++ ex.map some)) E2 x r []) /\ (c.rd E2 i = some none -> J.stop i H2)) -> R J H1) -> wi σ H R
def rdD (ds : List PyData) (_ : En) (i : Nat) : Option (Option Rs) := some ((ds[i]?).map fun d => .val (.dat d))
def by_ (d : En -> Option Rs) (E : En) : Option Src := match d E with
 | some (.val (.dat (.int j))) => if j < 2 ^ 62 /\ -(2 ^ 62) <= j then some ⟨E, [], fun _ i => some (if i < j.toNat then some (.val (.dat (.int (i : Nat)))) else none), j.toNat⟩ else none
 | _ => none
theorem ep_ (h : EvP K n as te d) : EvI K n as (iRng1 (tCons te tNil)) (by_ d) := by
 intro F H σ E fp L R c e Rr q
 unfold by_ at e
 split at e
 ·next j ed =>
  split at e
  ·next hj =>
   cases e
   refine h L R ed fun v F1 H1 f1 g1 a1 n1 o1 => ?_
   cases (Own.dat_inv (show Own K F1 H1 v _ f1 from a1) rfl).1
   refine ⟨j, rfl, hj.2, hj.1, q _ F1 H1 [] fp g1.mine (by simpa using R.grow g1) rfl fun F2 H2 σ2 E2 fp2 L2 g2 R2 i => ⟨fun r hr => ?_, fun hr => ?_⟩⟩
   ·have hr := Option.some.inj hr
    by_cases hi : i < j.toNat
    ·rw [if_pos hi] at hr
     cases hr
     refine ⟨hi, fun x H' hy => ⟨hy.1, ?_⟩⟩
     rw [hy.2]
     have : (0 : Int) + (i : Int) = ((i : Nat) : Int) := by omega
     rw [this]
     exact .dat (.int _)
    ·rw [if_neg hi] at hr; cases hr
   ·have hr := Option.some.inj hr
    by_cases hi : i < j.toNat
    ·rw [if_pos hi] at hr; cases hr
    ·exact Nat.le_of_not_lt hi
  ·cases e
 ·cases e
def bc_ : List S -> Option (List PyData)
 | [] => some []
 | .dat d :: ss => (bc_ ss).map (d :: ·)
 | _ => none
theorem dy_ : ∀ {ss : List S} {vs : List V} {fp : List Addr} {ds : List PyData}, OwnL K F H vs ss fp -> bc_ ss = some ds -> DqAll K F vs ds /\ fp = []
 | [], _, _, _, .nil, e => by cases e; exact ⟨.nil, rfl⟩
 | .dat d :: ss, _, _, _, .cons a l, e => by
  simp only [bc_] at e
  obtain ⟨r, hr, rfl⟩ := Option.map_eq_some_iff.mp e
  obtain ⟨h1, h2⟩ := a.dat_inv rfl
  obtain ⟨h3, h4⟩ := dy_ l hr
  subst h2 h4
  exact ⟨.cons h1 h3, rfl⟩
 | .con _ :: _, _, _, _, _, e => by simp [bc_] at e
 | .ext _ :: _, _, _, _, _, e => by simp [bc_] at e
 | .tup _ :: _, _, _, _, _, e => by simp [bc_] at e
 | .lst _ :: _, _, _, _, _, e => by simp [bc_] at e
 | .dct _ _ :: _, _, _, _, _, e => by simp [bc_] at e
 | .ins _ _ :: _, _, _, _, _, e => by simp [bc_] at e
def c5_ (d : En -> Option Rs) (E : En) : Option Src := match d E with
 | some (.val (.dat (.list ds))) => some ⟨E, [], rdD ds, ds.length⟩
 | some (.val (.lst ss)) => (bc_ ss).map fun ds => ⟨E, [], rdD ds, ds.length⟩
 | some (.pl p) => match aZ_ E p with
  | some (.lst ss) => some ⟨E, [.bor p], fun E2 i => match E2.getLast? with
   | some (.bor p) => match aZ_ E2 p with
    | some (.lst ss) => match ss[i]? with
     | some s => ((Rs.pl p).kid i s).map some
     | none => some none
    | _ => none
   | _ => none, ss.length⟩
  | _ => none
 | _ => none
theorem g7_ {ds : List PyData} {xs : List V} {i : Nat} {r : Rs} (da : DqAll K F xs ds) (h : rdD ds E i = some (some r)) : ∃ w, xs[i]? = some w /\ RsAt K F H ρ E w r [] := by
 have h := Option.some.inj h
 obtain ⟨d, hd, rfl⟩ := Option.map_eq_some_iff.mp h
 obtain ⟨w, h1, h2⟩ := Mv.DqAll.nth da hd
 exact ⟨w, h1, .dat h2⟩
theorem d7_ {ds : List PyData} {i : Nat} (h : rdD ds E i = some none) : ds.length <= i := by
 have h := Option.some.inj h
 cases e : ds[i]? with
 | none => exact List.getElem?_eq_none_iff.mp e
 | some d => rw [e] at h; cases h
theorem Rep.hold {σ : L2.St} {p : List Nat} (R : Rep K F H (σ ++ as) E fp) (h1 : aO_ H (σ ++ as) p = some v) (h2 : (aZ_ E p).isSome = true) : Rep K F H (σ ++ (as ++ [some v])) (E ++ [.bor p]) fp := by
 obtain ⟨f, l, pm⟩ := R.core.own
 have p0 : p ≠ [] := fun z => by rw [z] at h2; cases h2
 have eg : ∀ q, (aZ_ E q).isSome = true -> aZ_ (E ++ [Sl.bor p]) q = aZ_ E q := by
  intro q hq
  obtain ⟨t, ht⟩ := Option.isSome_iff_exists.mp hq
  obtain ⟨i, r, s, rfl, ei, _⟩ := bl_ ht
  have hi := (List.getElem?_eq_some_iff.mp ei).1
  simp only [aZ_, List.getElem?_append_left hi]
 have fo : ∀ q, (∃ w, aO_ H (σ ++ as) q = some w) -> aO_ H (σ ++ (as ++ [some v])) q = aO_ H (σ ++ as) q := by
  intro q ⟨w, hw⟩
  cases q with
  | nil => rfl
  | cons i q =>
   unfold aO_ at hw ⊢
   dsimp only at hw ⊢
   cases e : (σ ++ as)[i]? with
   | none => rw [e] at hw; cases hw
   | some z =>
    have hi := (List.getElem?_eq_some_iff.mp e).1
    rw [<- List.append_assoc, List.getElem?_append_left hi, e]
 have len := R.core.len
 refine ⟨⟨by rw [<- List.append_assoc, List.length_append, List.length_append, len]; rfl, ⟨f, ?_, pm⟩, fun i s h => ?_⟩, R.sub, R.nd, R.off, fun i q h => ?_⟩
 ·rw [<- List.append_assoc, bW_ len, ce_]
  have := l.append (OwnL.cons (fp := []) (K := K) (F := F) (H := H) (Own.con (v := v)) .nil)
  simp only [List.append_nil] at this
  exact this
 ·by_cases hi : i < E.length
  ·rw [List.getElem?_append_left hi] at h
   obtain ⟨w, hw⟩ := R.core.set i s h
   exact ⟨w, by rw [<- List.append_assoc, List.getElem?_append_left (by rw [<- len]; exact hi)]; exact hw⟩
  ·rw [List.getElem?_append_right (by omega)] at h
   cases hk : i - E.length with
   | zero => rw [hk] at h; cases h
   | succ k => rw [hk] at h; cases h
 ·by_cases hi : i < E.length
  ·rw [List.getElem?_append_left hi] at h
   obtain ⟨w, e1, e2, e3⟩ := R.bor i q h
   exact ⟨w, by rw [<- List.append_assoc, List.getElem?_append_left (by rw [<- len]; exact hi)]; exact e1, by rw [fo q ⟨w, e2⟩]; exact e2, by rw [eg q e3]; exact e3⟩
  ·rw [List.getElem?_append_right (by omega)] at h
   cases hk : i - E.length with
   | zero =>
    rw [hk] at h
    cases h
    refine ⟨v, ?_, by rw [fo p ⟨v, h1⟩]; exact h1, by rw [eg p h2]; exact h2⟩
    rw [<- List.append_assoc, List.getElem?_append_right (by rw [<- len]; omega), <- len, hk]; rfl
   | succ k => rw [hk] at h; cases h
def gi_ (E : En) : Bool := match E.getLast? with
 | some (.own _) => false
 | some _ => true
 | none => false
theorem Rep.strip {σ : L2.St} {w : V} (R : Rep K F H (σ ++ (as ++ [some w])) E fp) (ok : gi_ E = true) : Rep K F H (σ ++ as) E.dropLast fp := by
 have len := R.core.len
 have hE : E ≠ [] := fun z => by rw [z] at len; simp at len
 have hd : E = E.dropLast ++ [E.getLast hE] := (List.dropLast_concat_getLast hE).symm
 have hl : E.dropLast.length = (σ ++ as).length := by rw [List.length_dropLast, len]; simp
 have hlast : ∀ s, E.getLast hE ≠ .own s := fun s z => by
  unfold gi_ at ok
  rw [List.getLast?_eq_some_getLast hE, z] at ok
  cases ok
 obtain ⟨f, l, pm⟩ := R.core.own
 have sl : slS (some w) (E.getLast hE) = .con w := by
  cases e : E.getLast hE with
  | own s => exact absurd e (hlast s)
  | no => rfl
  | bor p => rfl
 have eg : ∀ q, aZ_ E q = aZ_ E.dropLast q := by
  intro q
  cases q with
  | nil => rfl
  | cons i q =>
   by_cases hi : i < E.dropLast.length
   ·simp only [aZ_]
    rw [show E[i]? = E.dropLast[i]? by rw [hd, List.getElem?_append_left (by simpa using hi)]; simp]
   ·simp only [aZ_]
    rw [List.getElem?_eq_none_iff.mpr (Nat.le_of_not_lt hi)]
    cases e : E[i]? with
    | none => rfl
    | some sl =>
     have hi2 := (List.getElem?_eq_some_iff.mp e).1
     have : i = E.length - 1 := by rw [List.length_dropLast] at hi; omega
     have e2 : sl = E.getLast hE := by
      rw [List.getLast_eq_getElem]
      subst this
      exact (List.getElem?_eq_some_iff.mp e).2.symm
     cases sl with
     | own s => exact absurd e2.symm (hlast s)
     | no => rfl
     | bor p => rfl
 have gi : ∀ (i : Nat) (e : Sl), E.dropLast[i]? = some e -> E[i]? = some e := fun i e h => by
  have hi := (List.getElem?_eq_some_iff.mp h).1
  rw [hd, List.getElem?_append_left hi]
  exact h
 have rr : ∀ (i : Nat), i < (σ ++ as).length -> (σ ++ (as ++ [some w]))[i]? = (σ ++ as)[i]? := fun i h => by rw [<- List.append_assoc, List.getElem?_append_left h]
 refine ⟨⟨hl, ?_, fun i s h => ?_⟩, R.sub, R.nd, R.off, fun i q h => ?_⟩
 ·rw [hd, <- List.append_assoc, bW_ hl, ce_] at l
  obtain ⟨g1, g2, rfl, l1, l2⟩ := l.split (by rw [da_ hl]; unfold bU_; rw [List.length_map])
  have : g2 = [] := by
   simp only [bU_, List.map_cons, List.map_nil, a8_] at l2
   rw [sl] at l2
   cases l2 with
   | cons a t => cases t; rw [(a.con_inv rfl).2]; rfl
  subst this
  exact ⟨g1, l1, by simpa using pm⟩
 ·obtain ⟨z, hz⟩ := R.core.set i s (gi i _ h)
  have hi := (List.getElem?_eq_some_iff.mp h).1
  exact ⟨z, by rw [<- rr i (by omega)]; exact hz⟩
 ·obtain ⟨z, e1, e2, e3⟩ := R.bor i q (gi i _ h)
  have hi := (List.getElem?_eq_some_iff.mp h).1
  refine ⟨z, by rw [<- rr i (by omega)]; exact e1, ?_, by rw [<- eg q]; exact e3⟩
  rw [eg q] at e3
  obtain ⟨t, ht⟩ := Option.isSome_iff_exists.mp e3
  obtain ⟨j, r, s, rfl, ej, _⟩ := bl_ ht
  have hj := (List.getElem?_eq_some_iff.mp ej).1
  unfold aO_ at e2 ⊢
  dsimp only at e2 ⊢
  rw [rr j (by omega)] at e2
  exact e2
def strip1 (E : En) : En := (ak_ E (E.length - 1) .no).dropLast
def stripN : Nat -> En -> En
 | 0, E => E
 | k + 1, E => stripN k (strip1 E)
theorem Rep.strip1 {σ : L2.St} {w : V} (R : Rep K F H (σ ++ (as ++ [some w])) E fp) : ∃ fq, Rep K F H (σ ++ as) (strip1 E) fq /\ ∀ a ∈ fq, a ∈ fp := by
 have len := R.core.len
 have hi : E.length - 1 < (σ ++ (as ++ [some w])).length := by rw [<- len]; simp at len; omega
 obtain ⟨fq, R2, sb⟩ := R.setSlot (e := .no) (v := .non) (fr := []) hi rfl R.nd (fun _ m => nomatch m)
 have e1 : (σ ++ (as ++ [some w])).set (E.length - 1) (some V.non) = σ ++ (as ++ [some V.non]) := by
  rw [<- List.append_assoc, <- List.append_assoc]
  have : E.length - 1 = (σ ++ as).length := by rw [len]; simp
  rw [this, List.set_append_right _ _ (Nat.le_refl _)]
  simp
 rw [e1] at R2
 have ok : gi_ (ak_ E (E.length - 1) .no) = true := by
  unfold gi_
  rw [List.getLast?_eq_getElem?]
  have : (ak_ E (E.length - 1) Sl.no).length = E.length := by unfold ak_; simp
  rw [this]
  unfold ak_
  rw [List.getElem?_set_self (by rw [List.length_map]; omega)]
 exact ⟨fq, R2.strip ok, fun a m => by simpa using sb a m⟩
theorem Rep.stripN {σ : L2.St} : ∀ (k : Nat) {ex : List V} {E : En} {fp : List Addr}, ex.length = k -> Rep K F H (σ ++ (as ++ ex.map some)) E fp -> ∃ fq, Rep K F H (σ ++ as) (stripN k E) fq /\ ∀ a ∈ fq, a ∈ fp
 | 0, ex, E, fp, h, R => by
  have : ex = [] := List.eq_nil_of_length_eq_zero h
  subst this
  refine ⟨fp, ?_, fun _ m => m⟩
  show Rep K F H (σ ++ as) E fp
  simpa using R
 | k + 1, ex, E, fp, h, R => by
  rcases List.eq_nil_or_concat ex with z | ⟨ys, w, rfl⟩
  ·rw [z] at h; cases h
  ·rw [List.concat_eq_append] at h
   rw [List.concat_eq_append, List.map_append, <- List.append_assoc as] at R
   obtain ⟨f1, R1, h1⟩ := Rep.strip1 (as := as ++ ys.map some) (w := w) R
   obtain ⟨f2, R2, h2⟩ := Rep.stripN k (ex := ys) (by simpa using h) R1
   exact ⟨f2, R2, fun a m => h1 a (h2 a m)⟩
theorem gj_ (h : EvP K n as te d) : EvI K n as (iList K te) (c5_ d) := by
 intro F H σ E fp L R c e Rr q
 unfold c5_ at e
 split at e
 ·next ds ed =>
  cases e
  refine h L R ed fun v F1 H1 f1 g1 a1 n1 o1 => ?_
  obtain ⟨a, xs, rfl, hq, da⟩ := Mv.Dq.list_inv (Own.dat_inv (show Own K F1 H1 v _ f1 from a1) rfl).1
  refine ⟨a, rfl, ⟨xs, SqL.mono g1.sub hq⟩, q _ F1 H1 [] fp g1.mine (by simpa using R.grow g1) rfl fun F2 H2 σ2 E2 fp2 L2 g2 R2 i => ?_⟩
  have hq2 : SqL K H2 a xs := SqL.mono g2.sub (SqL.mono g2.f hq)
  have da2 := Mv.DqAll.mono g2.f da
  refine ⟨fun r hr => ?_, fun hr => ⟨xs, hq2, by rw [Mv.DqAll.len da]; exact d7_ (E := E2) hr⟩⟩
  obtain ⟨w, hw, ar⟩ := g7_ (K := K) (H := H2) (E := E2) (ρ := σ2 ++ (as ++ ([] : List V).map some)) da2 hr
  exact ⟨⟨xs, w, hq2, hw⟩, fun x H' hy => ⟨hy.1, by rw [Option.some.inj ((hy.2 xs hq2).symm.trans hw)]; exact ar⟩⟩
 ·next ss ed =>
  obtain ⟨ds, hd, rfl⟩ := Option.map_eq_some_iff.mp e
  refine h L R ed fun v F1 H1 f1 g1 a1 n1 o1 => ?_
  obtain ⟨a, xs, fq, rfl, hH, l, hf⟩ := Own.lst_inv (show Own K F1 H1 v _ f1 from a1) rfl
  obtain ⟨da, rfl⟩ := dy_ l hd
  refine ⟨a, rfl, ⟨xs, .inl (.inl hH)⟩, q _ F1 H1 [] fp g1.mine (by simpa using R.grow g1) rfl fun F2 H2 σ2 E2 fp2 L2 g2 R2 i => ?_⟩
  have na : a ∉ fp := by
   have := R.apart_new g1 n1
   rw [hf] at this
   exact fun m => (List.nodup_append.mp this).2.2 a List.mem_cons_self a m rfl
  have hq2 : SqL K H2 a xs := .inl (.inl (g2.keep a _ hH na))
  have da2 := Mv.DqAll.mono g2.f da
  refine ⟨fun r hr => ?_, fun hr => ⟨xs, hq2, by rw [Mv.DqAll.len da]; exact d7_ (E := E2) hr⟩⟩
  obtain ⟨w, hw, ar⟩ := g7_ (K := K) (H := H2) (E := E2) (ρ := σ2 ++ (as ++ ([] : List V).map some)) da2 hr
  exact ⟨⟨xs, w, hq2, hw⟩, fun x H' hy => ⟨hy.1, by rw [Option.some.inj ((hy.2 xs hq2).symm.trans hw)]; exact ar⟩⟩
 ·next p ed =>
  split at e
  ·next ss es =>
   cases e
   refine h L R ed fun v F1 H1 f1 g1 a1 n1 o1 => ?_
   have R1 := R.grow g1
   obtain ⟨fq, ow⟩ := a1.own R1 (show (Rs.pl p).at E = some (.lst ss) from es)
   obtain ⟨a, xs, fq', rfl, hH, l, hf⟩ := ow.lst_inv rfl
   obtain ⟨b1, b2, b3⟩ := a1
   refine ⟨a, rfl, ⟨xs, .inl (.inl hH)⟩, q _ F1 H1 [.ref a] fp g1.mine (R1.hold b2 b3) rfl fun F2 H2 σ2 E2 fp2 L2 g2 R2 i => ?_⟩
   have len := R2.core.len
   have lastv : (σ2 ++ (as ++ [V.ref a].map some))[E2.length - 1]? = some (some (.ref a)) := by
    rw [<- List.append_assoc, List.getElem?_append_right (by rw [len]; simp), len]
    simp
   have key : ∀ p2 ss2, E2.getLast? = some (Sl.bor p2) -> aZ_ E2 p2 = some (.lst ss2) -> ∃ xs2 f2, H2 a = some (.lst xs2) /\ OwnL K F2 H2 xs2 ss2 f2 /\ RsAt K F2 H2 (σ2 ++ (as ++ [V.ref a].map some)) E2 (.ref a) (.pl p2) [] := by
    intro p2 ss2 hl hg
    rw [List.getLast?_eq_getElem?] at hl
    obtain ⟨w, e1, e2, e3⟩ := R2.bor _ p2 hl
    rw [lastv] at e1
    cases e1
    have at2 : RsAt K F2 H2 (σ2 ++ (as ++ [V.ref a].map some)) E2 (.ref a) (.pl p2) [] := ⟨rfl, e2, e3⟩
    obtain ⟨f2, ow2⟩ := at2.own R2 (show (Rs.pl p2).at E2 = some (.lst ss2) from hg)
    obtain ⟨a', xs2, f3, ea, hH2, l2, _⟩ := ow2.lst_inv rfl
    cases ea
    exact ⟨xs2, f3, hH2, l2, at2⟩
   refine ⟨fun r hr => ?_, fun hr => ?_⟩
   ·dsimp only at hr
    split at hr
    ·next p2 hl =>
     split at hr
     ·next ss2 hg =>
      obtain ⟨xs2, f2, hH2, l2, at2⟩ := key p2 ss2 hl hg
      split at hr
      ·next s hs =>
       obtain ⟨r', hr', er⟩ := Option.map_eq_some_iff.mp hr
       cases er
       obtain ⟨w, f, hw, ow⟩ := l2.nth hs
       have hq2 : SqL K H2 a xs2 := .inl (.inl hH2)
       exact ⟨⟨xs2, w, hq2, hw⟩, fun x H' hy => ⟨hy.1, by rw [Option.some.inj ((hy.2 xs2 hq2).symm.trans hw)]; exact at2.kid R2 hg hH2 hw hs ow hr'⟩⟩
      ·cases hr
     ·cases hr
    ·cases hr
   ·dsimp only at hr
    split at hr
    ·next p2 hl =>
     split at hr
     ·next ss2 hg =>
      obtain ⟨xs2, f2, hH2, l2, at2⟩ := key p2 ss2 hl hg
      split at hr
      ·next s hs =>
       cases hk : (Rs.pl p2).kid i s with
       | none => rw [hk] at hr; cases hr
       | some r' => rw [hk] at hr; cases hr
      ·next hs => exact ⟨xs2, .inl (.inl hH2), by rw [l2.length]; exact List.getElem?_eq_none_iff.mp hs⟩
     ·cases hr
    ·cases hr
  ·cases e
 ·cases e
def dLoop (rd : En -> Nat -> Option (Option Rs)) (bd : Rs -> En -> Option En) (db : En -> Option Out) : Nat -> Nat -> En -> Option Out
 | fuel, i, E => match rd E i with
  | none => none
  | some none => some (.nx E)
  | some (some r) => match fuel with
   | 0 => none
   | fuel + 1 => match bd r E with
    | none => none
    | some E1 => match db E1 with
     | some (.nx E2) => dLoop rd bd db fuel (i + 1) E2
     | some (.ct E2) => dLoop rd bd db fuel (i + 1) E2
     | some (.bk E2) => some (.nx E2)
     | some (.rt s E2) => some (.rt s E2)
     | some (.ex c E2) => some (.ex c E2)
     | none => none
def cz_ (c : Src) (E : En) : En := stripN c.exE.length E
def mi_ (c : Src) : Option Out -> Option Out
 | some (.nx E) => some (.nx (cz_ c E))
 | some (.rt s E) => some (.rt s (cz_ c E))
 | some (.bk E) => some (.bk (cz_ c E))
 | some (.ct E) => some (.ct (cz_ c E))
 | some (.ex x E) => some (.ex x (cz_ c E))
 | none => none
def d8_ (src : En -> Option Src) (bd : Rs -> En -> Option En) (db : En -> Option Out) (E : En) : Option Out := match src E with
 | some c => mi_ c (dLoop c.rd bd db c.fuel 0 (c.env ++ c.exE))
 | none => none
theorem bL_ {σ : L2.St} {c : Src} {ex : List V} (R : Rep K F H (σ ++ (as ++ ex.map some)) E fp) (hl : ex.length = c.exE.length) : ∃ fq, Rep K F H (σ ++ as) (cz_ c E) fq /\ ∀ a ∈ fq, a ∈ fp := R.stripN _ hl
theorem gk_ {wi : TI} {g : TG} {tb : TS} {src : En -> Option Src} {bd : Rs -> En -> Option En} {db : En -> Option Out} (hi : EvI K n as wi src) (hg : EvG K n g bd) (hb : ∀ as, EvS K n as W tb db) : EvS K n as W (tFor wi g tb) (d8_ src bd db) := by
 intro F H σ E fp L R o e D gg
 unfold d8_ at e
 split at e
 ·next c ec =>
  refine hi L R ec fun J F1 H1 ex fpx g1' R1 hx spec => ?_
  generalize hd : dLoop c.rd bd db c.fuel 0 (c.env ++ c.exE) = o1 at e
  refine ⟨fun i m σ2 H2 => ∃ F2 E2 fp2, σ2.length = n /\ Grow F1 H1 fpx F2 H2 fp2 /\ Rep K F2 H2 (σ2 ++ (as ++ ex.map some)) E2 fp2 /\ dLoop c.rd bd db m i E2 = o1,
   ⟨c.fuel, F1, _, fpx, L, .refl R1.sub fpx, R1, hd⟩, fun i m σ2 H2 hW => ?_⟩
  obtain ⟨F2, E2, fp2, L2, g2, R2, h2⟩ := hW
  obtain ⟨sp1, sp2⟩ := spec F2 H2 σ2 E2 fp2 L2 g2 R2 i
  rw [dLoop.eq_def] at h2
  dsimp only at h2
  cases hr : c.rd E2 i with
  | none => rw [hr] at h2; dsimp only at h2; rw [<- h2] at e; cases e
  | some r0 => cases r0 with
   | none =>
    rw [hr] at h2
    dsimp only at h2
    rw [<- h2] at e
    cases e
    obtain ⟨fq, R3, sb⟩ := bL_ R2 hx
    exact .inl ⟨sp2 hr, gg σ2 F2 H2 fq L2 ((g1'.trans g2).less sb) R3⟩
   | some r =>
    rw [hr] at h2
    dsimp only at h2
    obtain ⟨go, yl⟩ := sp1 r hr
    cases m with
    | zero => dsimp only at h2; rw [<- h2] at e; cases e
    | succ m =>
     dsimp only at h2
     refine .inr ⟨go, fun σ' H' => ∃ F2 E2 fp2, σ'.length = n /\ Grow F1 H1 fpx F2 H' fp2 /\ Rep K F2 H' (σ' ++ (as ++ ex.map some)) E2 fp2 /\ dLoop c.rd bd db m (i + 1) E2 = o1, fun σ' H' hN => ⟨m, Nat.lt_succ_self m, hN⟩, fun x H' hy => ?_⟩
     obtain ⟨rfl, ar⟩ := yl x H' hy
     split at h2
     ·rw [<- h2] at e; cases e
     ·next E3 e3 =>
      refine hg L2 R2 ar e3 fun σ3 F3 H3 fp3 L3 g3 R3 => ?_
      have g23 := g2.trans g3
      split at h2
      ·next E4 e4 => exact hb _ L3 R3 e4 fun σ' F' H' fp' L' g' R' => ⟨F', E4, fp', L', g23.trans g', R', h2⟩
      ·next E4 e4 => exact hb _ L3 R3 e4 fun σ' F' H' fp' L' g' R' => ⟨F', E4, fp', L', g23.trans g', R', h2⟩
      ·next E4 e4 =>
       rw [<- h2] at e
       cases e
       refine hb _ L3 R3 e4 fun σ' F' H' fp' L' g' R' => ?_
       obtain ⟨fq, R5, sb⟩ := bL_ R' hx
       exact gg σ' F' H' fq L' ((g1'.trans (g23.trans g')).less sb) R5
      ·next s E4 e4 =>
       rw [<- h2] at e
       cases e
       refine hb _ L3 R3 e4 fun v σ' F' H' fr fp' L' g' R' ow nd of => ?_
       obtain ⟨fq, R5, sb⟩ := bL_ R' hx
       refine gg v σ' F' H' fr fq L' ((g1'.trans (g23.trans g')).less fun a m => ?_) R5 ow ?_ of
       ·exact List.mem_append.mpr ((List.mem_append.mp m).imp id (sb a))
       ·exact List.nodup_append.mpr ⟨(List.nodup_append.mp nd).1, R5.nd, fun a m b m2 => (List.nodup_append.mp nd).2.2 a m b (sb b m2)⟩
      ·next x E4 e4 =>
       rw [<- h2] at e
       cases e
       refine hb _ L3 R3 e4 fun C dX σ' F' H' fp' hC L' g' R' => ?_
       obtain ⟨fq, R5, sb⟩ := bL_ R' hx
       exact gg C dX σ' F' H' fq hC L' ((g1'.trans (g23.trans g')).less sb) R5
      ·rw [<- h2] at e; cases e
 ·cases e
variable {tt : TT} {dte : En -> Option (Bool × En)}
theorem OwnL.recon {w : V} : ∀ {vs : List V} {ss : List S} {fp : List Addr} {j : Nat} {c : V}, OwnL K F H vs ss fp -> ss[j]? = some (.con c) -> OwnL K F H (vs.set j w) (ss.set j (.con w)) fp
 | _, _, _, j, _, .nil, e => by simp at e
 | _, _, _, 0, c, .cons (fq := fq) h t, e => by
  simp only [List.getElem?_cons_zero, Option.some.injEq] at e
  obtain ⟨_, h2⟩ := h.con_inv e
  subst h2
  exact .cons (fp := []) .con t
 | _, _, _, j + 1, c, .cons h t, e => .cons h (OwnL.recon (j := j) t (by simpa using e))
theorem fi_ : ∀ {ρ : Ro} {E : En} {j : Nat}, E.length = ρ.length -> E[j]? = some Sl.no -> ∃ c, (a8_ ρ E)[j]? = some (.con c)
 | [], [], _, _, h => by simp at h
 | [], _ :: _, _, l, _ => by simp at l
 | _ :: _, [], _, l, _ => by simp at l
 | a :: ρ, b :: E, 0, l, h => by
  simp only [List.getElem?_cons_zero, Option.some.injEq] at h
  subst h
  exact ⟨_, rfl⟩
 | a :: ρ, b :: E, j + 1, l, h => by
  simp only [a8_, List.getElem?_cons_succ]
  exact fi_ (by simpa using l) (by simpa using h)
theorem Rep.forget {j : Nat} (w : Option V) (R : Rep K F H ρ E fp) (h : E[j]? = some Sl.no) : Rep K F H (ρ.set j w) E fp := by
 have hj : j < E.length := (List.getElem?_eq_some_iff.mp h).1
 have len := R.core.len
 obtain ⟨f, l, pm⟩ := R.core.own
 obtain ⟨c, hc⟩ := fi_ len h
 have hn : E.set j Sl.no = E := by
  apply List.ext_getElem?
  intro i
  by_cases ij : j = i
  ·subst ij; rw [List.getElem?_set_self hj, h]
  ·rw [List.getElem?_set_ne ij]
 have hs : a8_ (ρ.set j w) E = (a8_ ρ E).set j (.con (w.getD .non)) := by
  have := dw_ (ρ := ρ) (E := E) (i := j) (v := w) (e := Sl.no) len
  rw [hn] at this
  rw [this]
  cases w <;> rfl
 have hv : bU_ (ρ.set j w) = (bU_ ρ).set j (w.getD .non) := by unfold bU_; rw [List.map_set]
 refine ⟨⟨by rw [List.length_set]; exact len, ⟨f, by rw [hs, hv]; exact l.recon hc, pm⟩, fun i s hi => ?_⟩, R.sub, R.nd, R.off, fun i p hb => ?_⟩
 ·have ij : j ≠ i := fun z => by rw [<- z, h] at hi; cases hi
  rw [List.getElem?_set_ne ij]
  exact R.core.set i s hi
 ·have ij : j ≠ i := fun z => by rw [<- z, h] at hb; cases hb
  obtain ⟨z, e1, e2, e3⟩ := R.bor i p hb
  refine ⟨z, by rw [List.getElem?_set_ne ij]; exact e1, ?_, e3⟩
  have hp : p.head? ≠ some j := fun z => by
   obtain ⟨t, ht⟩ := Option.isSome_iff_exists.mp e3
   obtain ⟨k, r, s, rfl, ek, _⟩ := bl_ ht
   simp only [List.head?_cons, Option.some.injEq] at z
   subst z
   rw [h] at ek; cases ek
  rw [dN_ hp]
  exact e2
theorem Rep.grow2 (r : Rep K F H ρ E fp) (g : Grow F H fq F' H' fr) (dj : ∀ a ∈ fp, a ∉ fq) : Rep K F' H' ρ E fp := by
 have k : ∀ a ∈ fp, ∀ o, H a = some o -> H' a = some o := fun a m o e => g.keep a o e (dj a m)
 refine ⟨r.core.frame g.f g.sub k, g.sub, r.nd, fun a m => ?_, fun i p h => ?_⟩
 ·obtain ⟨o, e⟩ := r.there a m
  exact g.off a (by rw [e]; exact fun z => nomatch z) (dj a m) (r.off a m)
 ·obtain ⟨v, h1, h2, h3⟩ := r.bor i p h
  obtain ⟨t, ht⟩ := Option.isSome_iff_exists.mp h3
  exact ⟨v, h1, by rw [r.core.follow_keep (fun b o e => g.sub b o (g.f b o e)) ht k]; exact h2, h3⟩
theorem Grow.beside (g : Grow F H fp F' H' fp') (X : List Addr) : Grow F H (X ++ fp) F' H' (X ++ fp') :=
 g.wide (fun a m => List.mem_append_right _ m) fun a m => by
  rcases List.mem_append.mp m with m | m
  ·exact .inl (List.mem_append_left _ m)
  ·exact (g.new a m).imp (List.mem_append_right _) id
theorem Grow.write {D : Addr} {o : HO} (sub : ∀ a o, F a = some o -> H a = some o) (hF : F D = none) : Grow F H [D] F (upd H D o) [D] := by
 refine ⟨fun _ _ h => h, fun a u e => ?_, fun a u e m => ?_, fun a m => .inl m, fun _ _ _ h => h⟩
 ·have : a ≠ D := fun z => by rw [z, hF] at e; cases e
  rw [upd_ne this]; exact sub a u e
 ·have : a ≠ D := fun z => m (by rw [z]; exact List.mem_cons_self)
  rw [upd_ne this]; exact e
theorem Rep.wipe {j : Nat} (R : Rep K F H ρ E fp) (hj : j < ρ.length) (w : Option V) : ∃ fq, Rep K F H (ρ.set j w) (ak_ E j .no) fq /\ ∀ a ∈ fq, a ∈ fp := by
 obtain ⟨fq, R2, sb⟩ := R.setSlot (e := .no) (v := .non) (fr := []) hj rfl R.nd (fun _ m => nomatch m)
 have hE : (ak_ E j .no)[j]? = some Sl.no := by
  unfold ak_
  rw [List.getElem?_set_self (by rw [List.length_map, R.core.len]; exact hj)]
 have := R2.forget w hE
 rw [List.set_set] at this
 exact ⟨fq, this, fun a m => by simpa using sb a m⟩
def dLcLoop (rd : En -> Nat -> Option (Option Rs)) (j : Nat) (dt : En -> Option (Bool × En)) (de : En -> Option (S × En)) : Nat -> Nat -> List S -> En -> Option (List S × En)
 | fuel, i, acc, E => match rd E i with
  | none => none
  | some none => some (acc, E)
  | some (some r) => match fuel with
   | 0 => none
   | fuel + 1 => match au_ j r E with
    | none => none
    | some E1 => match dt E1 with
     | some (true, E2) => match de E2 with
      | some (s, E3) => if acc.length < 100000 then dLcLoop rd j dt de fuel (i + 1) (acc ++ [s]) (ak_ E3 j .no) else none
      | none => none
     | some (false, E2) => dLcLoop rd j dt de fuel (i + 1) acc (ak_ E2 j .no)
     | none => none
def eLc (src : En -> Option Src) (j : Nat) (dt : En -> Option (Bool × En)) (de : En -> Option (S × En)) (E : En) : Option (S × En) := match src E with
 | some c => match dLcLoop c.rd j dt de c.fuel 0 [] (ak_ (c.env ++ c.exE) j .no) with
  | some (acc, E') => some (.lst acc, cz_ c E')
  | none => none
 | none => none
def cs_ (E : En) : Option (Bool × En) := some (true, E)
theorem fj_ : hI_ K n as tYes cs_ := by
 intro F H σ E fp L R b E' e Q q
 cases e
 exact q F H fp (.refl R.sub fp) R
theorem jQ_ {wi : TI} {src : En -> Option Src} {j : Nat} (hj : j < n) (hi : EvI K n as wi src) (ht : ∀ as, hI_ K n as tt dte) (he : ∀ as, EvE K n as te de) : EvE K n as (tLc wi (gName j) tt te [j]) (eLc src j dte de) := by
 intro F H σ E fp L R s0 E0 e Q q
 unfold eLc at e
 split at e
 ·next c ec =>
  split at e
  ·next acc0 E9 hd =>
   cases e
   refine hi L R ec fun J F1 H1 ex fpx g1' R1 hx spec => fun D hD => ?_
   have hjl : j < (σ ++ (as ++ ex.map some)).length := by rw [List.length_append]; omega
   have wl : ∀ w, (σ.set j w) ++ (as ++ ex.map some) = (σ ++ (as ++ ex.map some)).set j w := fun w => bC_ (by omega)
   have gD : Grow F1 H1 [] F1 (upd H1 D (.lst [])) [D] := Grow.alloc R1.sub hD
   obtain ⟨fw, Rw, sbw⟩ := (R1.grow gD).wipe hjl none
   rw [<- wl none] at Rw
   have back : ((σ.set j none) ++ (as ++ ex.map some)).set j (σ[j]?.getD none) = σ ++ (as ++ ex.map some) := by
    rw [wl none, List.set_set]
    apply List.ext_getElem?
    intro i
    by_cases ij : j = i
    ·subst ij
     have h1 : j < σ.length := by omega
     rw [List.getElem?_set_self hjl, List.getElem?_append_left h1, List.getElem?_eq_getElem h1]; rfl
    ·rw [List.getElem?_set_ne ij]
   -- the invariant
   refine ⟨fun i m Hm => ∃ Fm Em fpm accV accS fa, Grow F1 H1 fpx Fm Hm (D :: (fa ++ fpm)) /\ Rep K Fm Hm ((σ.set j none) ++ (as ++ ex.map some)) Em fpm /\ Em[j]? = some Sl.no /\ Hm D = some (.lst accV) /\ OwnL K Fm Hm accV accS fa ∧
     (D :: (fa ++ fpm)).Nodup /\ (∀ a ∈ D :: fa, Fm a = none) /\ dLcLoop c.rd j dte de m i accS Em = some (acc0, E9),
    ⟨c.fuel, F1, _, fw, [], [], [], ?_, Rw, ?_, upd_same, .nil, ?_, ?_, hd⟩, fun i m Hm hW => ?_⟩
   ·have := gD.wide (fq := fpx) (fr := D :: ([] ++ fw)) (fun _ m => nomatch m) fun a m => ?_
    ·exact this
    ·rcases List.mem_cons.mp m with rfl | m
     ·exact .inr hD
     ·exact .inl (sbw a (by simpa using m))
   ·unfold ak_
    rw [List.getElem?_set_self]
    rw [List.length_map, R1.core.len]; exact hjl
   ·refine List.nodup_cons.mpr ⟨fun m => ?_, by simpa using Rw.nd⟩
    obtain ⟨o, eo⟩ := R1.there D (sbw D (by simpa using m))
    rw [hD] at eo; cases eo
   ·intro a m
    rw [List.mem_singleton.mp m]
    cases h : F1 D with
    | none => rfl
    | some o => rw [R1.sub D o h] at hD; cases hD
   ·obtain ⟨Fm, Em, fpm, accV, accS, fa, gm, Rm, hno, hHD, lacc, nd, off, hl⟩ := hW
    have gm' : Grow F1 H1 fpx Fm Hm fpm := gm.less fun a m => List.mem_cons_of_mem _ (List.mem_append_right _ m)
    obtain ⟨sp1, sp2⟩ := spec Fm Hm (σ.set j none) Em fpm (by rw [List.length_set]; exact L) gm' Rm i
    rw [dLcLoop.eq_def] at hl
    dsimp only at hl
    have subD : (D :: fa ++ fpm).Nodup := by simpa using nd
    cases hr : c.rd Em i with
    | none => rw [hr] at hl; cases hl
    | some r0 => cases r0 with
     | none =>
      rw [hr] at hl
      cases hl
      refine .inl ⟨sp2 hr, ?_⟩
      have R3 : Rep K Fm Hm (σ ++ (as ++ ex.map some)) E9 fpm := by
       have := Rm.forget (σ[j]?.getD none) hno
       rw [back] at this
       exact this
      obtain ⟨fq9, R4, sb9⟩ := bL_ R3 hx
      refine q (.ref D) Fm Hm (D :: fa) fq9 (g1'.trans (gm.less fun a m => (List.mem_append.mp m).elim (fun m => (List.mem_cons.mp m).elim (fun z => by rw [z]; exact List.mem_cons_self) fun m => List.mem_cons_of_mem _ (List.mem_append_left _ m)) fun m => List.mem_cons_of_mem _ (List.mem_append_right _ (sb9 a m)))) R4 (Own.node (s := .lst acc0) (ex := []) hHD (show Head _ Hm D (.lst accV) (.lst acc0) [] from rfl) lacc) ?_ off
      have nd' := List.nodup_append.mp (show (D :: fa ++ fpm).Nodup by simpa using nd)
      exact List.nodup_append.mpr ⟨nd'.1, R4.nd, fun a m b m2 => nd'.2.2 a m b (sb9 b m2)⟩
     | some r =>
      rw [hr] at hl
      dsimp only at hl
      obtain ⟨go, yl⟩ := sp1 r hr
      cases m with
      | zero => cases hl
      | succ m =>
       dsimp only at hl
       refine .inr ⟨go, fun H' => ∃ Fm Em fpm accV accS fa, Grow F1 H1 fpx Fm H' (D :: (fa ++ fpm)) /\ Rep K Fm H' ((σ.set j none) ++ (as ++ ex.map some)) Em fpm /\ Em[j]? = some Sl.no /\ H' D = some (.lst accV) /\ OwnL K Fm H' accV accS fa ∧
        (D :: (fa ++ fpm)).Nodup /\ (∀ a ∈ D :: fa, Fm a = none) /\ dLcLoop c.rd j dte de m (i + 1) accS Em = some (acc0, E9), fun H' hN => ⟨m, Nat.lt_succ_self m, hN⟩, fun x H' hy => ?_⟩
       obtain ⟨rfl, ar⟩ := yl x H' hy
       split at hl
       ·cases hl
       ·next E1 e1 =>
        show wipe ((σ.set j none).set j (some x)) [j] = wipe σ [j] /\ _
        refine ⟨by show ((σ.set j none).set j (some x)).set j none = σ.set j none; rw [List.set_set, List.set_set], ?_⟩
        have hLw : ((σ.set j none).set j (some x)).length = n := by rw [List.length_set, List.length_set]; exact L
        have hjw : j < (σ.set j none ++ (as ++ ex.map some)).length := by rw [List.length_append, List.length_set]; omega
        have hR1 : ∃ fq, Rep K Fm H' (((σ.set j none).set j (some x)) ++ (as ++ ex.map some)) E1 fq /\ ∀ a ∈ fq, a ∈ fpm := by
         rw [show ((σ.set j none).set j (some x)) ++ (as ++ ex.map some) = (σ.set j none ++ (as ++ ex.map some)).set j (some x) from bC_ (by rw [List.length_set]; omega)]
         cases r with
         | val s =>
          cases e1
          obtain ⟨fq, k1, k2⟩ := Rm.setSlot (e := .own s) (fr := []) hjw ar Rm.nd (fun _ m => nomatch m)
          exact ⟨fq, k1, fun a m => by simpa using k2 a m⟩
         | pl p =>
          unfold au_ at e1
          dsimp only at e1
          split at e1
          ·cases e1
          ·next hp =>
           cases e1
           obtain ⟨a1, a2, a3⟩ := ar
           obtain ⟨fq, k1, k2⟩ := Rm.setSlot (e := .bor p) (fr := []) hjw ⟨rfl, hp, a2, a3⟩ Rm.nd (fun _ m => nomatch m)
           exact ⟨fq, k1, fun a m => by simpa using k2 a m⟩
        obtain ⟨fq, R1', sb1⟩ := hR1
        -- D and what is made so far stand aside
        have asideD : ∀ a ∈ D :: fa, a ∉ fq := fun a m m2 => (List.nodup_append.mp (show (D :: fa ++ fpm).Nodup by simpa using nd)).2.2 a m a (sb1 a m2) rfl
        have thD : ∀ a ∈ D :: fa, ∃ o, H' a = some o := fun a m => by
         rcases List.mem_cons.mp m with rfl | m
         ·exact ⟨_, hHD⟩
         ·exact lacc.there a m
        have gfq : Grow F1 H1 fpx Fm H' (D :: fa ++ fq) := gm.less fun a m => by
         rcases List.mem_append.mp m with m | m
         ·rcases List.mem_cons.mp m with rfl | m
          ·exact List.mem_cons_self
          ·exact List.mem_cons_of_mem _ (List.mem_append_left _ m)
         ·exact List.mem_cons_of_mem _ (List.mem_append_right _ (sb1 a m))
        have keepD : ∀ {F3 H3 fp3}, Grow Fm H' fq F3 H3 fp3 -> H3 D = some (.lst accV) /\ OwnL K F3 H3 accV accS fa /\ (∀ a ∈ D :: fa, F3 a = none) /\ (∀ a ∈ D :: fa, a ∉ fp3) := fun {F3 H3 fp3} g3 => by
         refine ⟨g3.keep D _ hHD (asideD D List.mem_cons_self), lacc.frame g3.f g3.sub fun a m o e => g3.keep a o e (asideD a (List.mem_cons_of_mem _ m)), fun a m => ?_, fun a m m2 => ?_⟩
         ·obtain ⟨o, eo⟩ := thD a m
          exact g3.off a (by rw [eo]; exact fun z => nomatch z) (asideD a m) (off a m)
         ·rcases g3.new a m2 with z | z
          ·exact asideD a m z
          ·obtain ⟨o, eo⟩ := thD a m
           rw [eo] at z; cases z
        have ndD : (D :: fa).Nodup := (List.nodup_append.mp (show (D :: fa ++ fpm).Nodup by simpa using nd)).1
        split at hl
        ·next E2 e2 =>
         split at hl
         ·next s3 E3 e3 =>
          split at hl
          ·next hlen =>
           refine ht _ hLw R1' e2 fun F3 H3 fp3 g3 R3 => iteT (he _ hLw R3 e3 fun y F4 H4 fr fp4 g4 R4 ow nd4 of4 => ?_)
           have g34 : Grow Fm H' fq F4 H4 (fr ++ fp4) := g3.trans g4
           obtain ⟨kD, kacc, koff, kas⟩ := keepD g34
           refine ⟨accV, kD, by rw [lacc.length, sizeLine_eq]; omega, ?_⟩
           have hjw4 : j < (((σ.set j none).set j (some x)) ++ (as ++ ex.map some)).length := by rw [List.length_append, hLw]; omega
           obtain ⟨fq5, R5, sb5⟩ := R4.wipe hjw4 none
           rw [<- show (((σ.set j none).set j (some x)).set j none) ++ (as ++ ex.map some) = (((σ.set j none).set j (some x)) ++ (as ++ ex.map some)).set j none from bC_ (by omega), List.set_set, List.set_set] at R5
           have gw : Grow F4 H4 [D] F4 (upd H4 D (.lst (accV ++ [y]))) [D] := Grow.write R4.sub (koff D List.mem_cons_self)
           have D4 : D ∉ fr ++ fp4 := kas D List.mem_cons_self
           have R6 := R5.grow2 gw (fun a m m2 => D4 (by rw [<- List.mem_singleton.mp m2]; exact List.mem_append_right _ (sb5 a m)))
           have nDfa : D ∉ fa := (List.nodup_cons.mp ndD).1
           have ow6 : Own K F4 (upd H4 D (.lst (accV ++ [y]))) y s3 fr := ow.grow gw fun a m m2 => D4 (by rw [<- List.mem_singleton.mp m2]; exact List.mem_append_left _ m)
           have acc6 : OwnL K F4 (upd H4 D (.lst (accV ++ [y]))) accV accS fa := kacc.frame gw.f gw.sub fun a m o e => gw.keep a o e fun m2 => nDfa (by rw [<- List.mem_singleton.mp m2]; exact m)
           have lall := acc6.append (OwnL.cons ow6 .nil)
           rw [List.append_nil] at lall
           refine ⟨F4, ak_ E3 j .no, fq5, accV ++ [y], accS ++ [s3], fa ++ fr, ?_, R6, ?_, upd_same, lall, ?_, ?_, hl⟩
           ·have ga : Grow F1 H1 fpx F4 H4 (D :: fa ++ (fr ++ fp4)) := gfq.trans (g34.beside (D :: fa))
            have gb : Grow F4 H4 (D :: fa ++ (fr ++ fp4)) F4 (upd H4 D (.lst (accV ++ [y]))) (D :: (fa ++ fr ++ fq5)) := gw.wide (fun a m => by rw [List.mem_singleton.mp m]; exact List.mem_append_left _ List.mem_cons_self) fun a m => by
             left
             rcases List.mem_cons.mp m with rfl | m
             ·exact List.mem_append_left _ List.mem_cons_self
             ·rcases List.mem_append.mp m with m | m
              ·rcases List.mem_append.mp m with m | m
               ·exact List.mem_append_left _ (List.mem_cons_of_mem _ m)
               ·exact List.mem_append_right _ (List.mem_append_left _ m)
              ·exact List.mem_append_right _ (List.mem_append_right _ (sb5 a m))
            exact ga.trans gb
           ·unfold ak_
            rw [List.getElem?_set_self]
            rw [List.length_map, R4.core.len]; exact hjw4
           ·refine List.nodup_cons.mpr ⟨fun m => ?_, ?_⟩
            ·rcases List.mem_append.mp m with m | m
             ·rcases List.mem_append.mp m with m | m
              ·exact nDfa m
              ·exact D4 (List.mem_append_left _ m)
             ·exact D4 (List.mem_append_right _ (sb5 D m))
            ·refine aG_ (aG_ (List.nodup_cons.mp ndD).2 (List.nodup_append.mp nd4).1 fun a m b m2 z => ?_) R5.nd fun a m b m2 z => ?_
             ·subst z; exact kas a (List.mem_cons_of_mem _ m) (List.mem_append_left _ m2)
             ·subst z
              rcases List.mem_append.mp m with m | m
              ·exact kas a (List.mem_cons_of_mem _ m) (List.mem_append_right _ (sb5 a m2))
              ·exact (List.nodup_append.mp nd4).2.2 a m a (sb5 a m2) rfl
           ·intro a m
            rcases List.mem_cons.mp m with rfl | m
            ·exact koff a List.mem_cons_self
            ·rcases List.mem_append.mp m with m | m
             ·exact koff a (List.mem_cons_of_mem _ m)
             ·exact of4 a m
          ·cases hl
         ·cases hl
        ·next E2 e2 =>
         refine ht _ hLw R1' e2 fun F3 H3 fp3 g3 R3 => iteF ?_
         obtain ⟨kD, kacc, koff, kas⟩ := keepD g3
         have hjw4 : j < (((σ.set j none).set j (some x)) ++ (as ++ ex.map some)).length := by rw [List.length_append, hLw]; omega
         obtain ⟨fq5, R5, sb5⟩ := R3.wipe hjw4 none
         rw [<- show (((σ.set j none).set j (some x)).set j none) ++ (as ++ ex.map some) = (((σ.set j none).set j (some x)) ++ (as ++ ex.map some)).set j none from bC_ (by omega), List.set_set, List.set_set] at R5
         refine ⟨F3, ak_ E2 j .no, fq5, accV, accS, fa, ?_, R5, ?_, kD, kacc, ?_, koff, hl⟩
         ·exact (gfq.trans (g3.beside (D :: fa))).less fun a m => by
           rcases List.mem_cons.mp m with rfl | m
           ·exact List.mem_append_left _ List.mem_cons_self
           ·rcases List.mem_append.mp m with m | m
            ·exact List.mem_append_left _ (List.mem_cons_of_mem _ m)
            ·exact List.mem_append_right _ (sb5 a m)
         ·unfold ak_
          rw [List.getElem?_set_self]
          rw [List.length_map, R3.core.len]; exact hjw4
         ·have : (D :: fa ++ fq5).Nodup := aG_ ndD R5.nd fun a m b m2 z => by subst z; exact kas a m (sb5 a m2)
          simpa using this
        ·cases hl
  ·cases e
 ·cases e
def Nd1 (K : PySem.W.Frag) (r : V -> V -> Hp -> VK -> Prop) (op : S -> S -> Option (S × S)) : Prop :=
 ∀ {F H : Hp} {u y : V} {t s t' c : S} {fp1 fr : List Addr}, (∀ a o, F a = some o -> H a = some o) -> Own K F H u t fp1 -> Own K F H y s fr -> (fr ++ fp1).Nodup -> (∀ a ∈ fr ++ fp1, F a = none) -> op t s = some (t', c) -> ∀ {Q : VK},
  (∀ v F' H' fv fq, Grow F H (fr ++ fp1) F' H' (fv ++ fq) -> Own K F' H' u t' fq -> Own K F' H' v c fv -> (fv ++ fq).Nodup -> (∀ a ∈ fv ++ fq, F' a = none) -> Q v H') -> r u y H Q
def g8_ (op : S -> S -> Option (S × S)) (da db : En -> Option Rs) (E : En) : Option (S × En) := match da E, db E with
 | some (.pl p), some (.val s) => match aZ_ E p with
  | some t => match op t s with
   | some (t', c) => some (c, bV_ (bA_ E p t') p)
   | none => none
  | none => none
 | _, _ => none
theorem p4_ {r : V -> V -> Hp -> VK -> Prop} {op : S -> S -> Option (S × S)} (hr : Nd1 K r op) {σ : L2.St} {p : List Nat} {t' c : S} (R : Rep K F H (σ ++ as) E fp) (a1 : RsAt K F H (σ ++ as) E u (.pl p) f1) (o2 : Own K F H y s fr) (nd : (fr ++ fp).Nodup) (of : ∀ a ∈ fr, F a = none)
  (ht : aZ_ E p = some t) (ho : op t s = some (t', c)) {Q : VK} (q : ∀ v F' H' fv fp', Grow F H (fr ++ fp) F' H' (fv ++ fp') -> Rep K F' H' (σ ++ as) (bV_ (bA_ E p t') p) fp' -> Own K F' H' v c fv -> (fv ++ fp').Nodup -> (∀ a ∈ fv, F' a = none) -> Q v H') : r u y H Q := by
 obtain ⟨w, fp1, fp2, h1, h2, pm, close⟩ := R.focus2 ht
 rw [a1.2.1] at h1
 cases h1
 have in1 : ∀ a ∈ fp1, a ∈ fp := fun a m => pm.mem_iff.mpr (List.mem_append_left _ m)
 have nd1 : (fr ++ fp1).Nodup := aG_ (List.nodup_append.mp nd).1 (List.nodup_append.mp (pm.nodup_iff.mp R.nd)).1 fun a m b m2 e => (List.nodup_append.mp nd).2.2 a m b (in1 b m2) e
 refine hr R.sub h2 o2 nd1 (fun a m => (List.mem_append.mp m).elim (of a) fun m => R.off a (in1 a m)) ho fun v F' H' fv fq g ou ov ndv ofv => ?_
 obtain ⟨R', nd', g'⟩ := close F' H' t' fq fr fv g (fun a m m2 => (List.nodup_append.mp nd).2.2 a m a m2 rfl) ou ndv fun a m => ofv a (List.mem_append_right _ m)
 exact q v F' H' fv _ g' R' ov nd' fun a m => ofv a (List.mem_append_left _ m)
theorem ix_ {a : Addr} {xs : List V} (h : H a = some (.lst xs)) : tyV K "list" (.ref a) H := .inl ⟨rfl, xs, .inl (.inl h)⟩
def dH_ (op : S -> S -> Option (S × S)) (da db : En -> Option Rs) (E : En) : Option (S × En) := match da E with
 | some (.pl p) => match aZ_ E p with
  | some (.lst _) => g8_ op da db E
  | _ => none
 | _ => none
theorem gl_ {r : V -> List V -> Hp -> VK -> Prop} {op : S -> S -> Option (S × S)} (hr : Nd1 K (fun u y H Q => r u [y] H Q) op) (ha : EvP K n as ta da) (hb : EvP K n as tb db) : EvE K n as (tBM K "list" r ta (tCons tb tNil)) (dH_ op da db) := by
 intro F H σ E fp L R s0 E0 e Q q
 unfold dH_ at e
 split at e
 ·next p ea =>
  split at e
  ·next ss es =>
   unfold g8_ at e
   rw [ea] at e
   split at e
   ·next p' s hp eb =>
    cases hp
    rw [es] at e
    dsimp only at e
    split at e
    ·next t' c ho =>
     cases e
     refine ha L R ea fun u F1 H1 f1 g1 a1 n1 o1 => ?_
     have R1 := R.grow g1
     obtain ⟨fq, ow⟩ := a1.own R1 (show (Rs.pl p).at E = some (.lst ss) from es)
     obtain ⟨a, xs, _, rfl, hH, _⟩ := ow.lst_inv rfl
     refine ⟨ix_ hH, hb L R1 eb fun y F2 H2 f2 g2 a2 n2 o2 => ?_⟩
     have R2 := R1.grow g2
     exact p4_ hr R2 (a1.grow R1 g2) a2 (R1.apart_new g2 n2) o2 es ho fun v F' H' fv fp' g R' ov nd' of' => q v F' H' fv fp' (((g1.ours fp).less fun a m => List.mem_append_right _ m).trans ((g2.ours fp).trans g)) R' ov nd' of'
    ·cases e
   ·cases e
  ·cases e
 ·cases e
def bE_ : S -> S -> Option (S × S)
 | .lst ss, s => if ss.length < 100000 then some (.lst (ss ++ [s]), .dat .none) else none
 | _, _ => none
theorem cN_ {a : Addr} {ys : List V} {f : List Addr} (o : OwnL K F (upd H a (.lst ys)) ys ss f) : Own K F (upd H a (.lst ys)) (.ref a) (.lst ss) (a :: f) := by
 have := Own.node (K := K) (F := F) (H := upd H a (.lst ys)) (s := .lst ss) (ex := []) upd_same (show Head _ _ a (.lst ys) (.lst ss) [] from rfl) o
 simpa using this
theorem jR_ (sub : ∀ b u, F b = some u -> H b = some u) {a : Addr} {o : HO} (fa : F a = none) : ∀ b u, F b = some u -> upd H a o b = some u := fun b u e => by
 rw [upd_ne (ne_of_none e fa)]; exact sub b u e
theorem OwnL.off (l : OwnL K F H vs ss fp) (sub : ∀ b u, F b = some u -> H b = some u) {a : Addr} {o : HO} (fa : F a = none) (h : a ∉ fp) : OwnL K F (upd H a o) vs ss fp := l.frame (fun _ _ h => h) (jR_ sub fa) fun b m u e => by
 rw [upd_ne (fun z => h (by rw [<- z]; exact m))]; exact e
theorem Own.off (l : Own K F H v s fp) (sub : ∀ b u, F b = some u -> H b = some u) {a : Addr} {o : HO} (fa : F a = none) (h : a ∉ fp) : Own K F (upd H a o) v s fp := l.frame (fun _ _ h => h) (jR_ sub fa) fun b m u e => by
 rw [upd_ne (fun z => h (by rw [<- z]; exact m))]; exact e
theorem d9_ : Nd1 K (fun u y H Q => rAppend u [y] H Q) bE_ := by
 intro F H u y t s t' c fp1 fr sub ot os nd of e Q q
 unfold bE_ at e
 split at e
 ·next ss s =>
  split at e
  ·next hl =>
   cases e
   obtain ⟨a, vs, fq, rfl, hH, l, rfl⟩ := ot.lst_inv rfl
   have na : a ∉ fr := fun m => (List.nodup_append.mp nd).2.2 a m a List.mem_cons_self rfl
   have nq : a ∉ fq := (List.nodup_cons.mp (List.nodup_append.mp nd).2.1).1
   refine ⟨a, vs, y, rfl, rfl, hH, by rw [l.length, sizeLine_eq]; omega, ?_⟩
   have l2 := (l.off sub (o := .lst (vs ++ [y])) (of a (List.mem_append_right _ List.mem_cons_self)) nq).append (OwnL.cons (os.off sub (o := .lst (vs ++ [y])) (of a (List.mem_append_right _ List.mem_cons_self)) na) .nil)
   rw [List.append_nil] at l2
   have g0 : Grow F H [a] F (upd H a (.lst (vs ++ [y]))) [a] := Grow.write sub (of a (List.mem_append_right _ List.mem_cons_self))
   refine q .non F _ [] (a :: (fq ++ fr)) (g0.wide (fun b m => by rw [List.mem_singleton.mp m]; exact List.mem_append_right _ List.mem_cons_self) fun b m => ?_) (cN_ l2) (.dat .non) ?_ fun b m => ?_
   ·left
    rw [List.nil_append] at m
    rcases List.mem_cons.mp m with rfl | m
    ·exact List.mem_append_right _ List.mem_cons_self
    ·rcases List.mem_append.mp m with m | m
     ·exact List.mem_append_right _ (List.mem_cons_of_mem _ m)
     ·exact List.mem_append_left _ m
   ·rw [List.nil_append]
    have p : (fr ++ a :: fq).Perm (a :: (fq ++ fr)) := List.perm_middle.trans (List.Perm.cons a List.perm_append_comm)
    exact p.nodup_iff.mp nd
   ·rw [List.nil_append] at m
    rcases List.mem_cons.mp m with rfl | m
    ·exact of _ (List.mem_append_right _ List.mem_cons_self)
    ·rcases List.mem_append.mp m with m | m
     ·exact of b (List.mem_append_right _ (List.mem_cons_of_mem _ m))
     ·exact of b (List.mem_append_left _ m)
  ·cases e
 ·cases e
def eJ_ : S -> S -> Option (S × S)
 | .lst ss, .dat (.int i) => match ixN ss.length i with
  | some j => match ss[j]? with
   | some s => if ss.length < 100000 then some (.lst (ss.eraseIdx j), s) else none
   | none => none
  | none => none
 | _, _ => none
theorem OwnL.erase : ∀ {vs : List V} {ss : List S} {fp : List Addr} {j : Nat} {s : S}, OwnL K F H vs ss fp -> ss[j]? = some s -> ∃ v f1 f2, vs[j]? = some v /\ Own K F H v s f1 /\ OwnL K F H (vs.eraseIdx j) (ss.eraseIdx j) f2 /\ fp.Perm (f1 ++ f2)
 | _, _, _, j, _, .nil, e => by simp at e
 | _, _, _, 0, s, .cons h t, e => by
  simp only [List.getElem?_cons_zero, Option.some.injEq] at e
  subst e
  exact ⟨_, _, _, rfl, h, t, List.Perm.refl _⟩
 | _, _, _, j + 1, s, .cons (fp := fa) h t, e => by
  obtain ⟨v, f1, f2, e1, o, l, p⟩ := OwnL.erase (j := j) t (by simpa using e)
  refine ⟨v, f1, fa ++ f2, by simpa using e1, o, .cons h l, ?_⟩
  refine (List.Perm.append_left fa p).trans ?_
  rw [<- List.append_assoc, <- List.append_assoc]
  exact List.Perm.append_right _ List.perm_append_comm
theorem lo_ : Nd1 K (fun u y H Q => rPopAt u [y] H Q) eJ_ := by
 intro F H u y t s t' c fp1 fr sub ot os nd of e Q q
 unfold eJ_ at e
 split at e
 ·next ss i =>
  split at e
  ·next j ej =>
   split at e
   ·next s hs =>
    split at e
    ·next hl =>
     cases e
     obtain ⟨hd, rfl⟩ := os.dat_inv rfl
     cases hd
     obtain ⟨a, vs, fq, rfl, hH, l, rfl⟩ := ot.lst_inv rfl
     obtain ⟨w, g1, g2, e1, ow, l2, pm⟩ := l.erase hs
     rw [List.nil_append] at nd of
     have nq : a ∉ fq := (List.nodup_cons.mp nd).1
     have n1 : a ∉ g1 := fun m => nq (pm.mem_iff.mpr (List.mem_append_left _ m))
     have n2 : a ∉ g2 := fun m => nq (pm.mem_iff.mpr (List.mem_append_right _ m))
     obtain ⟨k1, k2, k3, k4⟩ := ixN_seq ej
     refine ⟨a, vs, i, j, w, rfl, rfl, hH, ?_, ?_, by rw [l.length]; exact k1, e1, ?_⟩
     ·have : (ss.length : Int) < 100000 := by omega
      omega
     ·have : (ss.length : Int) < 100000 := by omega
      omega
     ·have g0 : Grow F H [a] F (upd H a (.lst (vs.eraseIdx j))) [a] := Grow.write sub (of a List.mem_cons_self)
      refine q w F _ g1 (a :: g2) (g0.wide (fun b m => by rw [List.mem_singleton.mp m]; exact List.mem_cons_self) fun b m => ?_) (cN_ (l2.off sub (of a List.mem_cons_self) n2)) (ow.off sub (of a List.mem_cons_self) n1) ?_ fun b m => ?_
      ·left
       rcases List.mem_append.mp m with m | m
       ·exact List.mem_cons_of_mem _ (pm.mem_iff.mpr (List.mem_append_left _ m))
       ·rcases List.mem_cons.mp m with rfl | m
        ·exact List.mem_cons_self
        ·exact List.mem_cons_of_mem _ (pm.mem_iff.mpr (List.mem_append_right _ m))
      ·have p : (a :: fq).Perm (g1 ++ a :: g2) := (List.Perm.cons a pm).trans List.perm_middle.symm
       exact p.nodup_iff.mp nd
      ·rcases List.mem_append.mp m with m | m
       ·exact of b (List.mem_cons_of_mem _ (pm.mem_iff.mpr (List.mem_append_left _ m)))
       ·rcases List.mem_cons.mp m with rfl | m
        ·exact of _ List.mem_cons_self
        ·exact of b (List.mem_cons_of_mem _ (pm.mem_iff.mpr (List.mem_append_right _ m)))
    ·cases e
   ·cases e
  ·cases e
 ·cases e
def kix : List Key -> Key -> Option Nat
 | [], _ => none
 | a :: r, k => if a = k then some 0 else (kix r k).map (· + 1)
theorem e7_ (k : Key) : ∀ kvs : List (Key × V), valV kvs k = (kix (kvs.map (·.1)) k).bind fun i => (kvs.map (·.2))[i]?
 | [] => rfl
 | p :: r => by
  by_cases e : p.1 = k
  ·rw [valV_pos e]; simp [kix, e]
  ·rw [valV_neg e, e7_ k r, List.map_cons, List.map_cons, kix, if_neg e]
   cases kix (r.map (·.1)) k with
   | none => rfl
   | some i => simp
theorem mj_ {k : Key} : ∀ {ks : List Key} {i : Nat}, kix ks k = some i -> i < ks.length
 | [], _, h => by simp [kix] at h
 | a :: r, i, h => by
  unfold kix at h
  split at h
  ·cases h; simp
  ·obtain ⟨j, hj, rfl⟩ := Option.map_eq_some_iff.mp h
   have := mj_ hj
   simp only [List.length_cons]; omega
def p5_ {α : Type} (kss : List (Key × α)) (k : Key) (s : α) : List (Key × α) := match kix (kss.map (·.1)) k with
 | some i => bJ_ kss i s
 | none => kss ++ [(k, s)]
theorem lp_ {k : Key} (b : V) : ∀ (kvs : List (Key × V)), (kvs.map (·.1)).Nodup -> putK kvs k b = p5_ kvs k b := by
 have map_no : ∀ (r : List (Key × V)), k ∉ r.map (·.1) -> r.map (fun kv => if kv.1 = k then (kv.1, b) else kv) = r := by
  intro r h
  induction r with
  | nil => rfl
  | cons p r ih =>
   simp only [List.map_cons, List.mem_cons, not_or] at h
   rw [List.map_cons, if_neg (fun z => h.1 z.symm), ih h.2]
 have yes : ∀ (kvs : List (Key × V)) (i : Nat), (kvs.map (·.1)).Nodup -> kix (kvs.map (·.1)) k = some i -> kvs.map (fun kv => if kv.1 = k then (kv.1, b) else kv) = bJ_ kvs i b := by
  intro kvs
  induction kvs with
  | nil => intro i _ h; simp [kix] at h
  | cons p r ih =>
   intro i nd h
   rw [List.map_cons, List.nodup_cons] at nd
   rw [List.map_cons, kix] at h
   by_cases e : p.1 = k
   ·rw [if_pos e] at h
    cases h
    rw [List.map_cons, if_pos e]
    simp only [bJ_]
    rw [map_no r (by rw [<- e]; exact nd.1)]
   ·rw [if_neg e] at h
    obtain ⟨j, hj, rfl⟩ := Option.map_eq_some_iff.mp h
    rw [List.map_cons, if_neg e]
    simp only [bJ_]
    rw [ih j nd.2 hj]
 intro kvs nd
 unfold putK p5_
 rw [valV_any, e7_]
 cases h : kix (kvs.map (·.1)) k with
 | none => simp
 | some i =>
  have hi := mj_ h
  rw [List.length_map] at hi
  simp only [Option.bind_some, List.getElem?_map, List.getElem?_eq_getElem hi, Option.map_some, Option.isSome_some, if_true]
  exact yes kvs i nd h
theorem Own.dct_inv {l : Bool} {kss : List (Key × S)} (o : Own K F H v s fp) (e : s = .dct l kss) :
  ∃ a kvs u fq, v = .ref a /\ H a = some u /\ i4_ u = kvs.map (·.2) /\ Rd H a (.dK kvs) /\ kvs.map (·.1) = kss.map (·.1) /\ OwnL K F H (kvs.map (·.2)) (kss.map (·.2)) fq /\ (l = false -> H a = some (.dK kvs) /\ fp = a :: fq) := by
 cases o with
 | dat _ => cases e
 | con => cases e
 | ext => cases e
 | @node a ob _ ex fq h hd ll =>
  subst e
  cases ob with
  | dK kvs => cases l with
   | false =>
    obtain ⟨rfl, hk⟩ := hd
    exact ⟨a, kvs, _, fq, rfl, h, rfl, .inl h, hk, ll, fun _ => ⟨h, rfl⟩⟩
   | true => exact hd.elim
  | frz o u => cases u <;> exact hd.elim
  | _ => exact hd.elim
 | @lck a ob kvs kss' fq hf h hk ll =>
  cases e
  exact ⟨a, kvs, _, fp, rfl, h, rfl, .inr ⟨_, h⟩, hk, ll, fun z => nomatch z⟩
 | tp => cases e
def p6_ : S -> Option Key
 | .dat (.int i) => some (.inl i)
 | .dat (.str x) => some (.inr x)
 | _ => none
def Rs.key : Rs -> Option Key
 | .val s => p6_ s
 | _ => none
theorem RsAt.key {r : Rs} {k : Key} (a : RsAt K F H ρ E v r fr) (h : r.key = some k) : v = kV k := by
 cases r with
 | pl p => cases h
 | val s =>
  have o : Own K F H v s fr := a
  cases s with
  | dat d =>
   have dp := (o.dat_inv rfl).1
   cases d with
   | int i => cases h; cases dp; rfl
   | str x => cases h; cases dp; rfl
   | _ => cases h
  | _ => cases h
def iy_ : List Key -> Bool
 | [] => true
 | k :: r => (kix r k).isNone && iy_ r
theorem jS_ {k : Key} : ∀ {ks : List Key}, kix ks k = none -> k ∉ ks
 | [], _, h => by simp at h
 | a :: r, e, h => by
  unfold kix at e
  split at e
  ·cases e
  ·next ne =>
   rcases List.mem_cons.mp h with z | z
   ·exact ne z.symm
   ·exact jS_ (by cases hh : kix r k with | none => rfl | some i => rw [hh] at e; cases e) z
theorem g9_ : ∀ {ks : List Key}, iy_ ks = true -> ks.Nodup
 | [], _ => List.nodup_nil
 | k :: r, h => by
  simp only [iy_, Bool.and_eq_true, Option.isNone_iff_eq_none] at h
  exact List.nodup_cons.mpr ⟨jS_ h.1, g9_ h.2⟩
theorem ha_ {a : Addr} {kvs : List (Key × V)} {kss : List (Key × S)} {f : List Addr} (hk : kvs.map (·.1) = kss.map (·.1)) (o : OwnL K F (upd H a (.dK kvs)) (kvs.map (·.2)) (kss.map (·.2)) f) : Own K F (upd H a (.dK kvs)) (.ref a) (.dct false kss) (a :: f) := by
 have := Own.node (K := K) (F := F) (H := upd H a (.dK kvs)) (s := .dct false kss) (ex := []) upd_same (show Head _ _ a (.dK kvs) (.dct false kss) [] from ⟨rfl, hk⟩) o
 simpa using this
theorem OwnL.repl : ∀ {vs : List V} {ss : List S} {fp : List Addr} {i : Nat} {y : V} {s : S} {fr : List Addr}, OwnL K F H vs ss fp -> i < vs.length -> Own K F H y s fr →
  ∃ f1 f2 g, OwnL K F H (vs.set i y) (ss.set i s) g /\ g.Perm (fr ++ f2) /\ fp.Perm (f1 ++ f2)
 | _, _, _, i, _, _, _, .nil, h, _ => by simp at h
 | _, _, _, 0, y, s, fr, .cons (fp := fa) (fq := fb) h t, _, o => ⟨fa, fb, _, .cons o t, List.Perm.refl _, List.Perm.refl _⟩
 | _, _, _, i + 1, y, s, fr, .cons (fp := fa) h t, hi, o => by
  obtain ⟨f1, f2, g, l, p1, p2⟩ := OwnL.repl (i := i) t (by simpa using hi) o
  refine ⟨f1, fa ++ f2, fa ++ g, .cons h l, ?_, ?_⟩
  ·refine (List.Perm.append_left fa p1).trans ?_
   rw [<- List.append_assoc, <- List.append_assoc]
   exact List.Perm.append_right _ List.perm_append_comm
  ·refine (List.Perm.append_left fa p2).trans ?_
   rw [<- List.append_assoc, <- List.append_assoc]
   exact List.Perm.append_right _ List.perm_append_comm
def jT_ (op : S -> S -> Option (S × S)) (E : En) (p : List Nat) (s : S) : Option Out := match aZ_ E p with
 | some t => match op t s with
  | some (t', _) => some (.nx (bV_ (bA_ E p t') p))
  | none => none
 | none => none
end Mv
namespace Mv
open PySem PySem.Spec PyProof.Rows L2
variable {K : PySem.W.Frag} {F F' F1 F2 F3 H H' H1 H2 H3 : Hp} {v u x y : V} {vs ws : List V} {s t : S} {ss tts : List S} {fp fq fr fp' fp1 fp2 f1 f2 : List Addr} {ρ as : Ro} {E E' : En} {n : Nat}
variable {te ta tb tc : TE} {d da db dc : En -> Option Rs} {tr : TA} {dr : En -> Option (List Rs)} {de df : En -> Option (S × En)} {tt : TT} {dte : En -> Option (Bool × En)}
mutual
def S.nl : S -> Bool
 | .dat _ => true
 | .con _ => true
 | .ext _ => false
 | .lst xs => S.nls xs
 | .dct l kvs => !l && S.nlk kvs
 | .ins _ fs => S.nls fs
 | .tup xs => S.nls xs
def S.nls : List S -> Bool
 | [] => true
 | s :: r => S.nl s && S.nls r
def S.nlk : List (Key × S) -> Bool
 | [] => true
 | p :: r => S.nl p.2 && S.nlk r
end
def Sl.nl : Sl -> Bool
 | .own s => s.nl
 | _ => true
variable {a : Addr} {o : Obj} {kvs : List (Key × V)}
variable {W : WXm}
end Mv
namespace Mv
open PySem PySem.Spec PyProof.Rows L2
variable {K : PySem.W.Frag} {F F' F1 F2 F3 H H' H1 H2 H3 : Hp} {v u x y : V} {vs ws : List V} {s t : S} {ss tts : List S} {fp fq fr fp' fp1 fp2 f1 f2 : List Addr} {ρ as : Ro} {E E' : En} {n : Nat}
variable {te ta tb tc : TE} {d da db dc : En -> Option Rs} {tr : TA} {dr : En -> Option (List Rs)} {de df : En -> Option (S × En)} {tt : TT} {dte : En -> Option (Bool × En)}
theorem Rep.push {σ : L2.St} (R : Rep K F H (σ ++ as) E fp) (ov : Own K F H v s fr) (nd : (fr ++ fp).Nodup) (of : ∀ a ∈ fr, F a = none) : Rep K F H (σ ++ (as ++ [some v])) (E ++ [.own s]) (fr ++ fp) := by
 obtain ⟨f, l, pm⟩ := R.core.own
 have len := R.core.len
 have eg : ∀ q, (aZ_ E q).isSome = true -> aZ_ (E ++ [Sl.own s]) q = aZ_ E q := by
  intro q hq
  obtain ⟨t, ht⟩ := Option.isSome_iff_exists.mp hq
  obtain ⟨i, r, s, rfl, ei, _⟩ := bl_ ht
  have hi := (List.getElem?_eq_some_iff.mp ei).1
  simp only [aZ_, List.getElem?_append_left hi]
 have fo : ∀ q, (∃ w, aO_ H (σ ++ as) q = some w) -> aO_ H (σ ++ (as ++ [some v])) q = aO_ H (σ ++ as) q := by
  intro q ⟨w, hw⟩
  cases q with
  | nil => rfl
  | cons i q =>
   unfold aO_ at hw ⊢
   dsimp only at hw ⊢
   cases e : (σ ++ as)[i]? with
   | none => rw [e] at hw; cases hw
   | some z =>
    have hi := (List.getElem?_eq_some_iff.mp e).1
    rw [<- List.append_assoc, List.getElem?_append_left hi, e]
 refine ⟨⟨by rw [<- List.append_assoc, List.length_append, List.length_append, len]; rfl, ⟨f ++ fr, ?_, ?_⟩, fun i w h => ?_⟩, R.sub, nd, fun a m => (List.mem_append.mp m).elim (of a) (R.off a), fun i q h => ?_⟩
 ·rw [<- List.append_assoc, bW_ len, ce_]
  have := l.append (OwnL.cons (K := K) (F := F) (H := H) ov .nil)
  simpa [bU_, a8_, slS] using this
 ·exact (List.Perm.append_left fr pm).trans List.perm_append_comm
 ·by_cases hi : i < E.length
  ·rw [List.getElem?_append_left hi] at h
   obtain ⟨z, hw⟩ := R.core.set i w h
   exact ⟨z, by rw [<- List.append_assoc, List.getElem?_append_left (by rw [<- len]; exact hi)]; exact hw⟩
  ·rw [List.getElem?_append_right (by omega)] at h
   cases hk : i - E.length with
   | zero => exact ⟨v, by rw [<- List.append_assoc, List.getElem?_append_right (by rw [<- len]; omega), <- len, hk]; rfl⟩
   | succ k => rw [hk] at h; cases h
 ·by_cases hi : i < E.length
  ·rw [List.getElem?_append_left hi] at h
   obtain ⟨w, e1, e2, e3⟩ := R.bor i q h
   exact ⟨w, by rw [<- List.append_assoc, List.getElem?_append_left (by rw [<- len]; exact hi)]; exact e1, by rw [fo q ⟨w, e2⟩]; exact e2, by rw [eg q e3]; exact e3⟩
  ·rw [List.getElem?_append_right (by omega)] at h
   cases hk : i - E.length with
   | zero => rw [hk] at h; cases h
   | succ k => rw [hk] at h; cases h
def rdP (E2 : En) (i : Nat) : Option (Option Rs) := match E2.getLast? with
 | some (.bor p) => match aZ_ E2 p with
  | some (.lst ss) => match ss[i]? with
   | some s => ((Rs.pl p).kid i s).map some
   | none => some none
  | _ => none
 | _ => none
def eU_ (d : En -> Option Rs) (E : En) : Option Src := match d E with
 | some (.val (.dat (.tuple ds))) => some ⟨E, [], rdD ds, ds.length⟩
 | _ => none
theorem ot_ (h : EvP K n as te d) : EvI K n as (iTup K te) (eU_ d) := by
 intro F H σ E fp L R c e Rr q
 unfold eU_ at e
 split at e
 ·next ds ed =>
  cases e
  refine h L R ed fun v F1 H1 f1 g1 a1 n1 o1 => ?_
  obtain ⟨a, xs, rfl, hq, da⟩ := Mv.Dq.tuple_inv (Own.dat_inv (show Own K F1 H1 v _ f1 from a1) rfl).1
  refine ⟨a, rfl, ⟨xs, SqT.mono g1.sub hq⟩, q _ F1 H1 [] fp g1.mine (by simpa using R.grow g1) rfl fun F2 H2 σ2 E2 fp2 L2 g2 R2 i => ?_⟩
  have hq2 : SqT K H2 a xs := SqT.mono g2.sub (SqT.mono g2.f hq)
  have da2 := Mv.DqAll.mono g2.f da
  refine ⟨fun r hr => ?_, fun hr => ⟨xs, hq2, by rw [Mv.DqAll.len da]; exact d7_ (E := E2) hr⟩⟩
  obtain ⟨w, hw, ar⟩ := g7_ (K := K) (H := H2) (E := E2) (ρ := σ2 ++ (as ++ ([] : List V).map some)) da2 hr
  exact ⟨⟨xs, w, hq2, hw⟩, fun x H' hy => ⟨hy.1, by rw [Option.some.inj ((hy.2 xs hq2).symm.trans hw)]; exact ar⟩⟩
 ·cases e
variable {xs : List V} {c : S}
variable {tk tv td : TE} {dk dv : En -> Option Rs} {ds : List PyData} {Q : VK}
def Mk (K : PySem.W.Frag) (F H : Hp) (c : S) (Q : VK) : Prop := ∀ v F' H' fr, Grow F H [] F' H' fr -> Own K F' H' v c fr -> fr.Nodup -> (∀ a ∈ fr, F' a = none) -> Q v H'
theorem dz_ (sub : ∀ a o, F a = some o -> H a = some o) {p : Addr} (hp : H p = none) : F p = none := by
 cases e : F p with
 | none => rfl
 | some o => rw [sub p o e] at hp; cases hp
theorem hb_ (sub : ∀ a o, F a = some o -> H a = some o) (l : OwnL K F H xs ss []) (m : Mk K F H (.lst ss) Q) : ∀ p, H p = none -> Q (.ref p) (upd H p (.lst xs)) := fun p hp => by
 have g : Grow F H [] F (upd H p (.lst xs)) [p] := Grow.alloc sub hp
 refine m _ F _ [p] g (cN_ (l.frame (fun _ _ h => h) g.sub fun _ z => nomatch z)) (by simp) fun a z => ?_
 rw [List.mem_singleton.mp z]; exact dz_ sub hp
theorem jU_ (sub : ∀ a o, F a = some o -> H a = some o) (l : DqAll K F xs ds) (m : Mk K F H (.dat (.tuple ds)) Q) : ∀ (p : Addr) (ob : Obj), H p = none -> ob.dict = none -> Q (.ref p) (upd H p (.frz ob (.tup xs))) := fun p ob hp hd => by
 have g : Grow F H [] (upd F p (.frz ob (.tup xs))) (upd H p (.frz ob (.tup xs))) [] := Grow.share sub hp
 exact m _ _ _ [] g (.dat (.tup (.inl ⟨ob, upd_same, hd⟩) (DqAll.mono g.f l))) List.nodup_nil (fun _ z => nomatch z)
theorem hc_ (sub : ∀ a o, F a = some o -> H a = some o) {d : PyData} (l : Dq K F v d) (m : Mk K F H (.dat d) Q) : Q v H := m v F H [] (.refl sub []) (.dat l) List.nodup_nil (fun _ z => nomatch z)
theorem ea_ : ∀ {xs : List V} {ds : List PyData}, DqAll K F xs ds -> OwnL K F H xs (ds.map S.dat) []
 | _, _, .nil => .nil
 | _, _, .cons a t => OwnL.cons (fp := []) (.dat a) (ea_ t)
theorem hd_ : ∀ {ss : List S} {ds : List PyData}, bc_ ss = some ds -> ss = ds.map S.dat
 | [], _, e => by cases e; rfl
 | .dat d :: ss, _, e => by
  simp only [bc_] at e
  obtain ⟨r, hr, rfl⟩ := Option.map_eq_some_iff.mp e
  rw [hd_ hr]; rfl
 | .con _ :: _, _, e => by simp [bc_] at e
 | .ext _ :: _, _, e => by simp [bc_] at e
 | .tup _ :: _, _, e => by simp [bc_] at e
 | .lst _ :: _, _, e => by simp [bc_] at e
 | .dct _ _ :: _, _, e => by simp [bc_] at e
 | .ins _ _ :: _, _, e => by simp [bc_] at e
theorem b8_ (ds : List PyData) : bc_ (ds.map S.dat) = some ds := by
 induction ds with
 | nil => rfl
 | cons d ds ih => simp [bc_, ih]
def S.seqL : S -> Option (List PyData)
 | .dat (.list ds) => some ds
 | .lst ss => bc_ ss
 | _ => none
def S.seqT : S -> Option (List PyData)
 | .dat (.tuple ds) => some ds
 | _ => none
theorem Own.sqL (sub : ∀ a o, F a = some o -> H a = some o) (o : Own K F H v s fp) (e : s.seqL = some ds) : ∃ a xs, v = .ref a /\ SqL K H a xs /\ DqAll K F xs ds := by
 cases s with
 | dat d => cases d with
  | list ds' =>
   cases e
   obtain ⟨a, xs, rfl, hq, da⟩ := Mv.Dq.list_inv (o.dat_inv rfl).1
   exact ⟨a, xs, rfl, SqL.mono sub hq, da⟩
  | _ => cases e
 | lst ss =>
  obtain ⟨a, xs, fq, rfl, hH, l, hf⟩ := o.lst_inv rfl
  obtain ⟨da, _⟩ := dy_ l e
  exact ⟨a, xs, rfl, .inl (.inl hH), da⟩
 | _ => cases e
theorem Own.sqT (sub : ∀ a o, F a = some o -> H a = some o) (o : Own K F H v s fp) (e : s.seqT = some ds) : ∃ a xs, v = .ref a /\ SqT K H a xs /\ DqAll K F xs ds := by
 cases s with
 | dat d => cases d with
  | tuple ds' =>
   cases e
   obtain ⟨a, xs, rfl, hq, da⟩ := Mv.Dq.tuple_inv (o.dat_inv rfl).1
   exact ⟨a, xs, rfl, SqT.mono sub hq, da⟩
  | _ => cases e
 | _ => cases e
theorem Own.sq (sub : ∀ a o, F a = some o -> H a = some o) (o : Own K F H v s fp) (e : (s.seqL <|> s.seqT) = some ds) : ∃ a xs, v = .ref a /\ (SqL K H a xs ∨ SqT K H a xs) /\ DqAll K F xs ds := by
 cases h : s.seqL with
 | some ds' =>
  rw [h] at e
  cases e
  obtain ⟨p, xs, rfl, hq, da⟩ := o.sqL sub h
  exact ⟨p, xs, rfl, .inl hq, da⟩
 | none =>
  rw [h] at e
  obtain ⟨p, xs, rfl, hq, da⟩ := o.sqT sub (show s.seqT = some ds from e)
  exact ⟨p, xs, rfl, .inr hq, da⟩
def ou_ (K : PySem.W.Frag) (r : R2) (f : S -> S -> Option S) : Prop :=
 ∀ {F H : Hp} {x y : V} {a b c : S} {f1 f2 : List Addr}, (∀ a o, F a = some o -> H a = some o) -> Own K F H x a f1 -> Own K F H y b f2 -> f a b = some c -> ∀ {Q : VK}, Mk K F H c Q -> r x y H Q
def cq_ (f : S -> S -> Option S) (da db : En -> Option Rs) (E : En) : Option Rs := match da E, db E with
 | some a, some b => match a.at E, b.at E with
  | some s, some t => (f s t).map .val
  | _, _ => none
 | _, _ => none
theorem dc_ {r : R2} {f : S -> S -> Option S} (hr : ou_ K r f) (ha : EvP K n as ta da) (hb : EvP K n as tb db) : EvP K n as (tOp r ta tb) (cq_ f da db) := by
 intro F H σ E fp L R r' e Q q
 unfold cq_ at e
 split at e
 ·next a b ea eb =>
  split at e
  ·next s t es et =>
   obtain ⟨c, ec, rfl⟩ := Option.map_eq_some_iff.mp e
   refine ha L R ea fun x F1 H1 f1 g1 r1 n1 o1 => hb L (R.grow g1) eb fun y F2 H2 f2 g2 r2 n2 o2 => ?_
   have R2 := (R.grow g1).grow g2
   obtain ⟨k1, w1⟩ := (r1.grow (R.grow g1) g2).own R2 es
   obtain ⟨k2, w2⟩ := r2.own R2 et
   exact hr R2.sub w1 w2 ec fun v F' H' fr g o nd of => q v F' H' fr (by simpa using (g1.seq0 g2).drop.seq0 g) o nd of
  ·cases e
 ·cases e
def i7_ : S -> S -> Option S
 | .dat (.tuple a), .dat (.tuple b) => if a.length + b.length < 100000 then some (.dat (.tuple (a ++ b))) else none
 | _, _ => none
theorem DqAll.append : ∀ {vs ws : List V} {ds es : List PyData}, DqAll K F vs ds -> DqAll K F ws es -> DqAll K F (vs ++ ws) (ds ++ es)
 | _, _, _, _, .nil, h => h
 | _, _, _, _, .cons a t, h => .cons a (Mv.DqAll.append t h)
theorem m0_ : ou_ K (mR_ K) i7_ := by
 intro F H x y a b c f1 f2 sub o1 o2 e Q m
 unfold i7_ at e
 split at e
 ·next a b =>
  split at e
  ·next hl =>
   cases e
   have d1 := (o1.dat_inv rfl).1
   have d2 := (o2.dat_inv rfl).1
   obtain ⟨p, xs, rfl, h1, l1⟩ := Mv.Dq.tuple_inv d1
   obtain ⟨p', ys, rfl, h2, l2⟩ := Mv.Dq.tuple_inv d2
   refine ⟨p, p', xs, ys, rfl, rfl, SqT.mono sub h1, SqT.mono sub h2, by rw [Mv.DqAll.len l1, Mv.DqAll.len l2, sizeLine_eq]; omega, fun z => ?_, fun _ z => ?_, fun _ _ => jU_ sub (Mv.DqAll.append l1 l2) m⟩
   ·subst z
    cases l1
    exact hc_ sub d2 m
   ·subst z
    cases l2
    rw [List.append_nil] at m
    exact hc_ sub d1 m
  ·cases e
 ·cases e
def cutD {α : Type} (xs : List α) (lo hi : Option Int) : List α := (xs.drop (HT.sIx xs.length 0 lo)).take (HT.sIx xs.length xs.length hi - HT.sIx xs.length 0 lo)
theorem DqAll.drop : ∀ (k : Nat) {vs : List V} {ds : List PyData}, DqAll K F vs ds -> DqAll K F (vs.drop k) (ds.drop k)
 | 0, _, _, h => by simpa using h
 | k + 1, _, _, .nil => by simpa using DqAll.nil
 | k + 1, _, _, .cons _ t => by simpa using Mv.DqAll.drop k t
theorem DqAll.take : ∀ (k : Nat) {vs : List V} {ds : List PyData}, DqAll K F vs ds -> DqAll K F (vs.take k) (ds.take k)
 | 0, _, _, h => by simpa using DqAll.nil
 | k + 1, _, _, .nil => by simpa using DqAll.nil
 | k + 1, _, _, .cons a t => by simpa using DqAll.cons a (Mv.DqAll.take k t)
theorem DqAll.cut (l : DqAll K F xs ds) (lo hi : Option Int) : DqAll K F (cutV xs lo hi) (cutD ds lo hi) := by
 unfold cutV cutD
 rw [Mv.DqAll.len l]
 exact Mv.DqAll.take _ (Mv.DqAll.drop _ l)
def EvO (K : PySem.W.Frag) (n : Nat) (as : Ro) (t : TO) (d : En -> Option (Option Int)) : Prop :=
 ∀ {F H : Hp} {σ : L2.St} {E : En} {fp : List Addr}, σ.length = n -> Rep K F H (σ ++ as) E fp -> ∀ {o : Option Int}, d E = some o -> ∀ {Q : Option Int -> Hp -> Prop},
  (∀ F' H', Grow F H [] F' H' [] -> Q o H') -> t σ H Q
def ax_ (_ : En) : Option (Option Int) := some none
def aV_ (d : En -> Option Rs) (E : En) : Option (Option Int) := match d E with
 | some (.val (.dat (.int i))) => some (some i)
 | _ => none
theorem bk_ : EvO K n as tNoPart ax_ := by
 intro F H σ E fp L R o e Q q
 cases e
 exact q F H (.refl R.sub [])
theorem bY_ (h : EvP K n as te d) : EvO K n as (tPart te) (aV_ d) := by
 intro F H σ E fp L R o e Q q
 unfold aV_ at e
 split at e
 ·next i ei =>
  cases e
  refine h L R ei fun v F1 H1 f1 g1 a1 n1 o1 => ?_
  cases (Own.dat_inv (show Own K F1 H1 v _ f1 from a1) rfl).1
  exact ⟨i, rfl, q F1 H1 g1.drop⟩
 ·cases e
def p7_ (K : PySem.W.Frag) (r : V -> Option Int -> Option Int -> Hp -> VK -> Prop) (f : S -> Option Int -> Option Int -> Option S) : Prop :=
 ∀ {F H : Hp} {x : V} {a c : S} {lo hi : Option Int} {f1 : List Addr}, (∀ a o, F a = some o -> H a = some o) -> Own K F H x a f1 -> f a lo hi = some c -> ∀ {Q : VK}, Mk K F H c Q -> r x lo hi H Q
def dSl (f : S -> Option Int -> Option Int -> Option S) (d : En -> Option Rs) (dl dh : En -> Option (Option Int)) (E : En) : Option Rs := match d E, dl E, dh E with
 | some r, some l, some h => match r.at E with
  | some s => (f s l h).map .val
  | none => none
 | _, _, _ => none
theorem dd_ {r : V -> Option Int -> Option Int -> Hp -> VK -> Prop} {f : S -> Option Int -> Option Int -> Option S} {tl th : TO} {dl dh : En -> Option (Option Int)} (hr : p7_ K r f) (h : EvP K n as te d) (hl : EvO K n as tl dl) (hh : EvO K n as th dh) : EvP K n as (tSl r te tl th) (dSl f d dl dh) := by
 intro F H σ E fp L R r' e Q q
 unfold dSl at e
 split at e
 ·next r0 l h0 er el eh =>
  split at e
  ·next s es =>
   obtain ⟨c, ec, rfl⟩ := Option.map_eq_some_iff.mp e
   refine h L R er fun x F1 H1 f1 g1 r1 n1 o1 => hl L (R.grow g1) el fun F2 H2 g2 => hh L ((R.grow g1).grow g2) eh fun F3 H3 g3 => ?_
   have R3 := ((R.grow g1).grow g2).grow g3
   obtain ⟨k1, w1⟩ := ((r1.grow (R.grow g1) g2).grow ((R.grow g1).grow g2) g3).own R3 es
   exact hr R3.sub w1 ec fun v F' H' fr g o nd of => q v F' H' fr (by simpa using ((g1.seq0 g2).drop.seq0 g3).drop.seq0 g) o nd of
  ·cases e
 ·cases e
def c8_ (s : S) (lo hi : Option Int) : Option S := (s.seqL).map fun ds => .lst ((cutD ds lo hi).map S.dat)
theorem ov_ : p7_ K (rSlL K) c8_ := by
 intro F H x a c lo hi f1 sub o e Q m
 obtain ⟨ds, hd, rfl⟩ := Option.map_eq_some_iff.mp e
 obtain ⟨p, xs, rfl, hq, da⟩ := o.sqL sub hd
 exact ⟨p, xs, rfl, hq, hb_ sub (ea_ (Mv.DqAll.cut da lo hi)) m⟩
inductive OwnE (K : PySem.W.Frag) (F H : Hp) : List V -> List S -> Prop
 | nil : OwnE K F H [] []
 | cons {v : V} {vs : List V} {s : S} {ss : List S} {f : List Addr} : Own K F H v s f -> OwnE K F H vs ss -> OwnE K F H (v :: vs) (s :: ss)
def lq_ (E : En) : List Rs -> Option (List S)
 | [] => some []
 | r :: rs => match r.at E, lq_ E rs with
  | some s, some ss => some (s :: ss)
  | _, _ => none
theorem RsAll.owns {rs : List Rs} (R : Rep K F H ρ E fp) (a : RsAll K F H ρ E vs rs fr) (h : lq_ E rs = some ss) : OwnE K F H vs ss := by
 induction a generalizing ss with
 | nil => cases h; exact .nil
 | @cons v vs r rs f g a t ih =>
  simp only [lq_] at h
  split at h
  ·next d ds' e1 e2 =>
   cases h
   obtain ⟨f, o⟩ := a.own R e1
   exact .cons o (ih e2)
  ·cases h
def pL_ (K : PySem.W.Frag) (r : List V -> Hp -> VK -> Prop) (f : List S -> Option S) : Prop :=
 ∀ {F H : Hp} {vs : List V} {ss : List S} {c : S}, (∀ a o, F a = some o -> H a = some o) -> OwnE K F H vs ss -> f ss = some c -> ∀ {Q : VK}, Mk K F H c Q -> r vs H Q
def dCS (f : List S -> Option S) (dr : En -> Option (List Rs)) (E : En) : Option Rs := match dr E with
 | some rs => match lq_ E rs with
  | some ss => (f ss).map .val
  | none => none
 | none => none
theorem p8_ {r : List V -> Hp -> VK -> Prop} {f : List S -> Option S} (hr : pL_ K r f) (h : EvA K n as tr dr) : EvP K n as (tCB r tr) (dCS f dr) := by
 intro F H σ E fp L R r1 e Q q
 unfold dCS at e
 split at e
 ·next rs er =>
  split at e
  ·next ss es =>
   obtain ⟨c, ec, rfl⟩ := Option.map_eq_some_iff.mp e
   refine h L R er fun vs F1 H1 f1 g1 a1 n1 o1 => hr (R.grow g1).sub (a1.owns (R.grow g1) es) ec fun v F' H' fr g o nd of => q v F' H' fr (by simpa using g1.drop.seq0 g) o nd of
  ·cases e
 ·cases e
def eCS (f : List S -> Option S) (d : En -> Option (S × En)) (E : En) : Option (S × En) := match d E with
 | some (s, E') => (f [s]).map (·, E')
 | none => none
theorem p9_ {r : List V -> Hp -> VK -> Prop} {f : List S -> Option S} (hr : pL_ K r f) (h : EvE K n as te de) : EvE K n as (tCB r (tCons te tNil)) (eCS f de) := by
 intro F H σ E fp L R s E' e Q q
 unfold eCS at e
 split at e
 ·next s1 E1 ed =>
  obtain ⟨c, ec, e2⟩ := Option.map_eq_some_iff.mp e
  cases e2
  refine h L R ed fun v F1 H1 fr fp1 g1 R1 o1 nd1 of1 => hr R1.sub (.cons o1 .nil) ec fun w F' H' f2 g o nd of => ?_
  have R2 := R1.grow g
  exact q w F' H' f2 fp1 ((g1.less fun a m => List.mem_append_right _ m).trans (g.ours fp1)) R2 o (R1.apart_new g nd) of
 ·cases e
def i8_ : List S -> Option S
 | [s] => match (s.seqL <|> s.seqT) with
  | some ds => some (.lst (ds.map S.dat))
  | none => none
 | _ => none
theorem OwnE.one (o : OwnE K F H vs [s]) : ∃ v f, vs = [v] /\ Own K F H v s f := by
 cases o with
 | cons a t => cases t; exact ⟨_, _, rfl, a⟩
theorem m1_ : pL_ K (fun xs H Q => ∃ p ys, xs = [.ref p] /\ (SqL K H p ys ∨ SqT K H p ys) /\ ∀ l, H l = none -> Q (.ref l) (upd H l (.lst ys))) i8_ := by
 intro F H vs ss c sub o e Q m
 unfold i8_ at e
 split at e
 ·next s =>
  split at e
  ·next ds hd =>
   cases e
   obtain ⟨v, f, rfl, o'⟩ := o.one
   clear o
   have o := o'
   obtain ⟨p, xs, rfl, hq, da⟩ := o.sq sub hd
   exact ⟨p, xs, rfl, hq, hb_ sub (ea_ da) m⟩
  ·cases e
 ·cases e
def fTuple : List S -> Option S
 | [s] => match (s.seqL <|> s.seqT) with
  | some ds => some (.dat (.tuple ds))
  | none => none
 | _ => none
theorem gm_ : pL_ K (jI_ K) fTuple := by
 intro F H vs ss c sub o e Q m
 unfold fTuple at e
 split at e
 ·next s =>
  split at e
  ·next ds hd =>
   cases e
   obtain ⟨v, f, rfl, o'⟩ := o.one
   clear o
   have o := o'
   cases h : s.seqL with
   | some ds' =>
    rw [h] at hd
    cases hd
    obtain ⟨p, xs, rfl, hq, da⟩ := o.sqL sub h
    exact ⟨p, xs, rfl, .inl ⟨hq, jU_ sub da m⟩⟩
   | none =>
    rw [h] at hd
    have h2 : s.seqT = some ds := hd
    have dp : Dq K F v (.tuple ds) := by
     cases s with
     | dat d => cases d with
      | tuple ds' => cases h2; exact (o.dat_inv rfl).1
      | _ => cases h2
     | _ => cases h2
    obtain ⟨p, xs, rfl, hq, da⟩ := Mv.Dq.tuple_inv dp
    exact ⟨p, xs, rfl, .inr ⟨SqT.mono sub hq, hc_ sub dp m⟩⟩
  ·cases e
 ·cases e
def tupD (E : En) : List Rs -> Option (List PyData)
 | [] => some []
 | .val (.dat d) :: rs => (tupD E rs).map (d :: ·)
 | _ => none
def pM_ (dr : En -> Option (List Rs)) (E : En) : Option Rs := match dr E with
 | some rs => (tupD E rs).map fun ds => .val (.dat (.tuple ds))
 | none => none
theorem RsAll.tupD {rs : List Rs} (a : RsAll K F H ρ E vs rs fr) (h : tupD E rs = some ds) : DqAll K F vs ds := by
 induction a generalizing ds with
 | nil => cases h; exact .nil
 | @cons v vs r rs f g a t ih => cases r with
  | pl p => cases h
  | val s => cases s with
   | dat d =>
    obtain ⟨ds', h1, rfl⟩ := Option.map_eq_some_iff.mp h
    exact .cons (Own.dat_inv (show Own K F H v (.dat d) f from a) rfl).1 (ih h1)
   | _ => cases h
theorem RsAll.len {rs : List Rs} (a : RsAll K F H ρ E vs rs fr) : vs.length = rs.length := by
 induction a with
 | nil => rfl
 | cons _ _ ih => simp only [List.length_cons, ih]
def aS_ (dr : En -> Option (List Rs)) (E : En) : Option Rs := match dr E with
 | some rs => if rs.length < 1000 then pM_ dr E else none
 | none => none
theorem de_ (h : EvA K n as tr dr) : EvP K n as (mT_ tr) (aS_ dr) := by
 intro F H σ E fp L R r1 e Q q
 unfold aS_ at e
 split at e
 ·next rs er =>
  split at e
  ·next hl =>
   unfold pM_ at e
   rw [er] at e
   obtain ⟨ds, hd, rfl⟩ := Option.map_eq_some_iff.mp e
   refine h L R er fun vs F1 H1 f1 g1 a1 n1 o1 => ⟨by rw [a1.len, sizeLine_eq]; omega, ?_⟩
   exact jU_ (R.grow g1).sub (a1.tupD hd) fun v F' H' fr g o nd of => q v F' H' fr (by simpa using g1.drop.seq0 g) o nd of
  ·cases e
 ·cases e
def lstS : List Rs -> Option (List S)
 | [] => some []
 | .val s :: rs => (lstS rs).map (s :: ·)
 | _ => none
def ba_ (dr : En -> Option (List Rs)) (E : En) : Option Rs := match dr E with
 | some rs => if rs.length < 1000 then (lstS rs).map fun ss => .val (.lst ss) else none
 | none => none
theorem RsAll.lstS {rs : List Rs} (a : RsAll K F H ρ E vs rs fr) (h : lstS rs = some ss) : OwnL K F H vs ss fr := by
 induction a generalizing ss with
 | nil => cases h; exact .nil
 | @cons v vs r rs f g a t ih => cases r with
  | pl p => cases h
  | val s =>
   obtain ⟨ss', h1, rfl⟩ := Option.map_eq_some_iff.mp h
   exact .cons a (ih h1)
theorem bZ_ (h : EvA K n as tr dr) : EvP K n as (tLst tr) (ba_ dr) := by
 intro F H σ E fp L R r1 e Q q
 unfold ba_ at e
 split at e
 ·next rs er =>
  split at e
  ·next hl =>
   obtain ⟨ss, hs, rfl⟩ := Option.map_eq_some_iff.mp e
   refine h L R er fun vs F1 H1 f1 g1 a1 n1 o1 => ⟨by rw [a1.len, sizeLine_eq]; omega, fun p hp => ?_⟩
   have R1 := R.grow g1
   have g : Grow F1 H1 [] F1 (upd H1 p (.lst vs)) [p] := Grow.alloc R1.sub hp
   have o := a1.lstS hs
   have np : p ∉ f1 := fun m => by obtain ⟨w, hw⟩ := o.there p m; rw [hp] at hw; cases hw
   refine q _ F1 _ (p :: f1) ?_ (cN_ (o.frame (fun _ _ h => h) g.sub fun a m u e => g.keep a u e (fun z => nomatch z))) (List.nodup_cons.mpr ⟨np, n1⟩) fun a m => ?_
   ·have := g1.seq0 g
    exact this.less fun a m => by
     rcases List.mem_cons.mp m with rfl | m
     ·exact List.mem_append_right _ List.mem_cons_self
     ·exact List.mem_append_left _ m
   ·rcases List.mem_cons.mp m with rfl | m
    ·exact dz_ R1.sub hp
    ·exact o1 a m
  ·cases e
 ·cases e
variable {w : V}
variable {W : WXm}
theorem jV_ {i : Nat} {r : Rs} (R : Rep K F H ρ E fp) (hv : ρ[i]? = some (some v)) (e : ab_ i E = some r) : RsAt K F H ρ E v r [] := by
 unfold ab_ at e
 cases he : E[i]? with
 | none => rw [he] at e; cases e
 | some sl =>
  rw [he] at e
  cases sl with
  | no => cases e
  | bor p =>
   cases e
   obtain ⟨v', h1, h2, h3⟩ := R.bor i p he
   rw [hv] at h1
   cases h1
   exact ⟨rfl, h2, h3⟩
  | own s =>
   have g : aZ_ E [i] = some s := by simp only [aZ_, he, S.get_nil]
   obtain ⟨u, g1, g2, e1, o, c, _⟩ := R.core.take g
   have eu : u = v := by simp only [aO_, hv, bH_] at e1; exact (Option.some.inj e1).symm
   subst eu
   have pl : some (Rs.pl [i]) = some r -> RsAt K F H ρ E u r [] := fun e' => by
    have e2 := Option.some.inj e'
    subst e2
    exact ⟨rfl, e1, by rw [g]; rfl⟩
   cases s with
   | dat d => cases e; exact .dat (o.dat_inv rfl).1
   | con w =>
    cases e
    obtain ⟨rfl, _⟩ := o.con_inv rfl
    exact .con
   | lst _ => exact pl e
   | dct _ _ => exact pl e
   | ins _ _ => exact pl e
   | ext _ => exact pl e
   | tup _ => exact pl e
def tV (v : V) : TE := fun _ H Q => Q v H
def tVs (vs : List V) : TA := fun _ H QA => QA vs H
def dGh (k j : Nat) (E : En) : Option Rs := if j < k then ab_ (E.length - k + j) E else none
theorem ow_ {σ : L2.St} (L : σ.length = n) (R : Rep K F H (σ ++ (as ++ vs.map some)) E fp) {j : Nat} (hj : vs[j]? = some v) : (σ ++ (as ++ vs.map some))[E.length - vs.length + j]? = some (some v) := by
 have len := R.core.len
 rw [List.length_append, List.length_append, List.length_map] at len
 have jl := (List.getElem?_eq_some_iff.mp hj).1
 rw [List.getElem?_append_right (by omega), List.getElem?_append_right (by omega), List.getElem?_map]
 rw [show E.length - vs.length + j - σ.length - as.length = j by omega, hj]; rfl
theorem qI_ {j : Nat} (hj : vs[j]? = some v) : EvP K n (as ++ vs.map some) (tV v) (dGh vs.length j) := by
 intro F H σ E fp L R r e Q q
 unfold dGh at e
 rw [if_pos (List.getElem?_eq_some_iff.mp hj).1] at e
 exact q v F H [] (.refl R.sub []) (jV_ R (ow_ L R hj) e) List.nodup_nil (fun _ m => nomatch m)
def ghs (k : Nat) (E : En) : Nat -> Nat -> Option (List Rs)
 | _, 0 => some []
 | j, m + 1 => match ab_ (E.length - k + j) E, ghs k E (j + 1) m with
  | some r, some rs => some (r :: rs)
  | _, _ => none
def ct_ (k : Nat) (E : En) : Option (List Rs) := ghs k E 0 k
theorem jW_ (k : Nat) : ∀ {m j : Nat} {rs : List Rs}, ghs k E j m = some rs -> rs.length = m
 | 0, _, _, e => by cases e; rfl
 | m + 1, j, rs, e => by
  simp only [ghs] at e
  split at e
  ·next r rs' e1 e2 => cases e; simp only [List.length_cons, jW_ k e2]
  ·cases e
theorem ox_ : EvA K n (as ++ vs.map some) (tVs vs) (ct_ vs.length) := by
 intro F H σ E fp L R rs e Q q
 have go : ∀ (m j : Nat) (rs : List Rs), ghs vs.length E j m = some rs -> j + m = vs.length -> RsAll K F H (σ ++ (as ++ vs.map some)) E (vs.drop j) rs [] := by
  intro m
  induction m with
  | zero =>
   intro j rs e hj
   cases e
   rw [List.drop_eq_nil_of_le (by omega)]
   exact .nil
  | succ m ih =>
   intro j rs e hj
   simp only [ghs] at e
   split at e
   ·next r rs' e1 e2 =>
    cases e
    have hv : vs[j]? = some (vs[j]'(by omega)) := List.getElem?_eq_getElem _
    rw [List.drop_eq_getElem_cons (by omega)]
    exact RsAll.cons (f := []) (g := []) (jV_ R (ow_ L R hv) e1) (ih (j + 1) rs' e2 (by omega))
   ·cases e
 have := go vs.length 0 rs e (by omega)
 rw [List.drop_zero] at this
 exact q vs F H [] (.refl R.sub []) this List.nodup_nil (fun _ m => nomatch m)
def EvL (K : PySem.W.Frag) (n : Nat) (as : Ro) (tr : TA) (dl : En -> Option (Nat × En)) : Prop :=
 ∀ {F H : Hp} {σ : L2.St} {E : En} {fp : List Addr}, σ.length = n -> Rep K F H (σ ++ as) E fp -> ∀ {k : Nat} {E' : En}, dl E = some (k, E') -> ∀ {Q : List V -> Hp -> Prop},
  (∀ vs F' H' fp', vs.length = k -> Grow F H fp F' H' fp' -> Rep K F' H' (σ ++ (as ++ vs.map some)) E' fp' -> Q vs H') -> tr σ H Q
def aJ_ (E : En) : Option (Nat × En) := some (0, E)
theorem bw_ : EvL K n as tNil aJ_ := by
 intro F H σ E fp L R k E' e Q q
 cases e
 exact q [] F H fp rfl (.refl R.sub fp) (by simpa using R)
def up1 (o : Option (Nat × En)) : Option (Nat × En) := o.map fun p => (p.1 + 1, p.2)
variable {dl : En -> Option (Nat × En)}
def af_ (de : En -> Option (S × En)) (dl : En -> Option (Nat × En)) (E : En) : Option (Nat × En) := match de E with
 | some (s, E1) => up1 (dl (E1 ++ [.own s]))
 | none => none
theorem aA_ (ha : EvE K n as ta de) (hr : ∀ as, EvL K n as tr dl) : EvL K n as (tCons ta tr) (af_ de dl) := by
 intro F H σ E fp L R k E' e Q q
 unfold af_ at e
 split at e
 ·next s E1 ee =>
  obtain ⟨⟨k1, E2⟩, e2, e3⟩ := Option.map_eq_some_iff.mp e
  cases e3
  refine ha L R ee fun v F1 H1 fr fp1 g1 R1 ov nd of => hr (as ++ [some v]) L (R1.push ov nd of) e2 fun vs F2 H2 fp2 hk g2 R2 => ?_
  exact q (v :: vs) F2 H2 fp2 (by rw [List.length_cons, hk]) (g1.trans g2) (by simpa using R2)
 ·cases e
def an_ (da : En -> Option Rs) (dl : En -> Option (Nat × En)) (E : En) : Option (Nat × En) := match da E with
 | some (.val s) => up1 (dl (E ++ [.own s]))
 | some (.pl p) => up1 (dl (E ++ [.bor p]))
 | none => none
theorem aI_ (ha : EvP K n as ta da) (hr : ∀ as, EvL K n as tr dl) : EvL K n as (tCons ta tr) (an_ da dl) := by
 intro F H σ E fp L R k E' e Q q
 unfold an_ at e
 split at e
 ·next s ee =>
  obtain ⟨⟨k1, E2⟩, e2, e3⟩ := Option.map_eq_some_iff.mp e
  cases e3
  refine ha L R ee fun v F1 H1 fr g1 a nd of => hr (as ++ [some v]) L ((R.grow g1).push a (R.apart_new g1 nd) of) e2 fun vs F2 H2 fp2 hk g2 R2 => ?_
  exact q (v :: vs) F2 H2 fp2 (by rw [List.length_cons, hk]) ((g1.ours fp).trans g2) (by simpa using R2)
 ·next p ee =>
  obtain ⟨⟨k1, E2⟩, e2, e3⟩ := Option.map_eq_some_iff.mp e
  cases e3
  refine ha L R ee fun v F1 H1 fr g1 a nd of => ?_
  obtain ⟨a1, a2, a3⟩ := a
  subst a1
  refine hr (as ++ [some v]) L ((R.grow g1).hold a2 a3) e2 fun vs F2 H2 fp2 hk g2 R2 => ?_
  exact q (v :: vs) F2 H2 fp2 (by rw [List.length_cons, hk]) (g1.mine.trans g2) (by simpa using R2)
 ·cases e
def bh_ (dl : En -> Option (Nat × En)) (dc : Nat -> En -> Option (S × En)) (E : En) : Option (S × En) := match dl E with
 | some (k, E1) => match dc k E1 with
  | some (s, E2) => some (s, stripN k E2)
  | none => none
 | none => none
theorem m2_ {C : List V -> Hp -> VK -> Prop} {dcc : Nat -> En -> Option (S × En)} (hl : EvL K n as tr dl) (hc : ∀ vs : List V, EvE K n (as ++ vs.map some) (fun _ H Q => C vs H Q) (dcc vs.length)) :
  EvE K n as (fun σ H Q => tr σ H fun vs H1 => C vs H1 Q) (bh_ dl dcc) := by
 intro F H σ E fp L R s E' e Q q
 unfold bh_ at e
 split at e
 ·next k E1 el =>
  split at e
  ·next s2 E2 ec =>
   cases e
   refine hl L R el fun vs F1 H1 fp1 hk g1 R1 => ?_
   subst hk
   refine hc vs L R1 ec fun v F2 H2 fr fp2 g2 R2 ov nd of => ?_
   obtain ⟨fq, R3, sb⟩ := R2.stripN vs.length rfl
   refine q v F2 H2 fr fq ((g1.trans g2).less fun a m => ?_) R3 ov ?_ of
   ·exact List.mem_append.mpr ((List.mem_append.mp m).imp id (sb a))
   ·exact List.nodup_append.mpr ⟨(List.nodup_append.mp nd).1, R3.nd, fun a m b m2 => (List.nodup_append.mp nd).2.2 a m b (sb b m2)⟩
  ·cases e
 ·cases e
variable {r : List V -> Hp -> VK -> Prop}
def aT_ (k m : Nat) (d : En -> Option (S × En)) (E : En) : Option (S × En) := if k = m then d E else none
theorem eq_ {m : Nat} {g : List S -> Option (S × List S)} {EX : XK} (hl : EvL K n as tr dl) : EvE K n as (tCall (dO_ K m g) [] EX tr) (bh_ dl fun k => aT_ k m (ag_ g (ct_ k))) := by
 have hc : ∀ vs : List V, EvE K n (as ++ vs.map some) (fun _ H Q => dO_ K m g (vs ++ []) H Q EX) (aT_ vs.length m (ag_ g (ct_ vs.length))) := by
  intro vs F H σ E fp L R s E' e Q q
  unfold aT_ at e
  by_cases hk : vs.length = m
  ·rw [if_pos hk] at e
   exact aD_ (tr := tVs vs) (EX := EX) ox_ (fun E rs h => (jW_ _ h).trans hk) L R e q
  ·rw [if_neg hk] at e
   cases e
 intro F H σ E fp L R s E' e Q q
 exact m2_ (C := fun vs H Q => dO_ K m g (vs ++ []) H Q EX) (dcc := fun k => aT_ k m (ag_ g (ct_ k))) hl hc L R e q
theorem b3_ {r2 : R2} {dop : (En -> Option Rs) -> (En -> Option Rs) -> En -> Option Rs} (hp : ∀ {as : Ro} {ta tb : TE} {da db : En -> Option Rs}, EvP K n as ta da -> EvP K n as tb db -> EvP K n as (tOp r2 ta tb) (dop da db)) (hl : EvL K n as (tCons ta (tCons tb tNil)) dl) :
  EvE K n as (tOp r2 ta tb) (bh_ dl fun k => aT_ k 2 (ae_ (dop (dGh k 0) (dGh k 1)))) := by
 have hc : ∀ vs : List V, EvE K n (as ++ vs.map some) (fun _ H Q => match vs with | [x, y] => r2 x y H Q | _ => False) (aT_ vs.length 2 (ae_ (dop (dGh vs.length 0) (dGh vs.length 1)))) := by
  intro vs F H σ E fp L R s E' e Q q
  unfold aT_ at e
  split at e
  ·next hk =>
   match vs, hk with
   | [x, y], _ => exact aq_ (hp (ta := tV x) (tb := tV y) (qI_ (vs := [x, y]) rfl) (qI_ (vs := [x, y]) rfl)) L R e q
  ·cases e
 intro F H σ E fp L R s E' e Q q
 exact m2_ (tr := tCons ta (tCons tb tNil)) (C := fun vs H Q => match vs with | [x, y] => r2 x y H Q | _ => False) (dcc := fun k => aT_ k 2 (ae_ (dop (dGh k 0) (dGh k 1)))) hl hc L R e q
theorem Rep.pop {σ : L2.St} {E0 : En} (R : Rep K F H (σ ++ (as ++ [some w])) (E0 ++ [.own s]) fp) :
  ∃ f1 f2, Own K F H w s f2 /\ Rep K F H (σ ++ as) (E0.map (aW_ E0.length)) f1 /\ fp.Perm (f2 ++ f1) := by
 obtain ⟨f, l, pm⟩ := R.core.own
 have len : E0.length = (σ ++ as).length := by
  have := R.core.len
  simp only [List.length_append, List.length_cons, List.length_nil] at this ⊢
  omega
 rw [<- List.append_assoc, bW_ len, ce_] at l
 obtain ⟨f1, f2, rfl, l1, l2⟩ := l.split (by rw [da_ len]; unfold bU_; rw [List.length_map])
 have ow : ∃ f2', f2 = f2' /\ Own K F H w s f2' := by
  cases l2 with
  | cons a t => cases t; exact ⟨_, by simp, a⟩
 obtain ⟨f2', rfl, ow⟩ := ow
 have pm2 : fp.Perm (f2 ++ f1) := pm.trans List.perm_append_comm
 have nd := pm2.nodup_iff.mp R.nd
 refine ⟨f1, f2, ow, ⟨⟨by rw [List.length_map]; exact len, ⟨f1, by rw [bO_]; exact l1, List.Perm.refl _⟩, fun j z hj => ?_⟩, R.sub, (List.nodup_append.mp nd).2.1, fun a m => R.off a (pm2.mem_iff.mpr (List.mem_append_right _ m)), fun j p hb => ?_⟩, pm2⟩
 ·have hj' := (cx_ E0 j z).mp hj
  have jl := (List.getElem?_eq_some_iff.mp hj').1
  obtain ⟨v, hv⟩ := R.core.set j z (by rw [List.getElem?_append_left jl]; exact hj')
  exact ⟨v, by rw [<- List.append_assoc, List.getElem?_append_left (by omega)] at hv; exact hv⟩
 ·rw [List.getElem?_map] at hb
  cases hE : E0[j]? with
  | none => rw [hE] at hb; cases hb
  | some sl =>
   rw [hE] at hb
   cases sl with
   | no => cases hb
   | own z => cases hb
   | bor q =>
    simp only [Option.map_some, aW_, Option.some.injEq] at hb
    by_cases hq : q.head? = some E0.length
    ·rw [if_pos hq] at hb; cases hb
    ·rw [if_neg hq] at hb
     cases hb
     have jl := (List.getElem?_eq_some_iff.mp hE).1
     obtain ⟨v, e1, e2, e3⟩ := R.bor j p (by rw [List.getElem?_append_left jl]; exact hE)
     refine ⟨v, by rw [<- List.append_assoc, List.getElem?_append_left (by omega)] at e1; exact e1, ?_, ?_⟩
     ·cases p with
      | nil => cases e2
      | cons i p =>
       unfold aO_ at e2 ⊢
       dsimp only at e2 ⊢
       rw [<- List.append_assoc] at e2
       by_cases hi : i < (σ ++ as).length
       ·rw [List.getElem?_append_left hi] at e2; exact e2
       ·exfalso
        have : i ≠ E0.length := fun z => hq (by rw [z]; rfl)
        rw [List.getElem?_eq_none_iff.mpr (by simp only [List.length_append, List.length_cons, List.length_nil] at len hi ⊢; omega)] at e2
        cases e2
     ·cases p with
      | nil => cases e3
      | cons i p =>
       obtain ⟨t, ht⟩ := Option.isSome_iff_exists.mp e3
       obtain ⟨i', q', s', he, ei, hg⟩ := bl_ ht
       cases he
       have hi : i ≠ E0.length := fun z => hq (by rw [z]; rfl)
       have hl := (List.getElem?_eq_some_iff.mp ei).1
       rw [List.length_append, List.length_cons, List.length_nil] at hl
       rw [List.getElem?_append_left (by omega)] at ei
       have := (cx_ (i := E0.length) E0 i s').mpr ei
       simp only [aZ_, this, hg]; rfl
def jX_ : Nat -> En -> Option (List S × En)
 | 0, E => some ([], E)
 | k + 1, E => match E.getLast? with
  | some (.own s) => match jX_ k (E.dropLast.map (aW_ (E.length - 1))) with
   | some (ss, E') => some (ss ++ [s], E')
   | none => none
  | _ => none
theorem Rep.popN {σ : L2.St} : ∀ (k : Nat) {vs : List V} {E E' : En} {ss : List S} {fp : List Addr}, vs.length = k -> Rep K F H (σ ++ (as ++ vs.map some)) E fp -> jX_ k E = some (ss, E') →
  ∃ f1 f2, OwnL K F H vs ss f2 /\ Rep K F H (σ ++ as) E' f1 /\ fp.Perm (f2 ++ f1)
 | 0, vs, E, E', ss, fp, h, R, e => by
  have : vs = [] := List.eq_nil_of_length_eq_zero h
  subst this
  cases e
  exact ⟨fp, [], .nil, by simpa using R, by simp⟩
 | k + 1, vs, E, E', ss, fp, h, R, e => by
  rcases List.eq_nil_or_concat vs with z | ⟨ys, w, rfl⟩
  ·rw [z] at h; cases h
  ·rw [List.concat_eq_append] at h
   rw [List.concat_eq_append, List.map_append, <- List.append_assoc as] at R
   simp only [jX_] at e
   split at e
   ·next s hs =>
    split at e
    ·next ss1 E1 e1 =>
     cases e
     have hE : E = E.dropLast ++ [.own s] := by
      rcases List.eq_nil_or_concat E with z | ⟨E0, z, rfl⟩
      ·rw [z] at hs; cases hs
      ·rw [List.concat_eq_append] at hs ⊢
       rw [List.getLast?_concat] at hs
       cases hs
       rw [List.dropLast_concat]
     rw [hE] at R
     obtain ⟨g1, g2, ow, R1, p1⟩ := Rep.pop (as := as ++ ys.map some) R
     rw [show E.length - 1 = E.dropLast.length by simp] at e1
     obtain ⟨h1, h2, l, R2, p2⟩ := Rep.popN k (vs := ys) (by simpa using h) R1 e1
     refine ⟨h1, h2 ++ g2, by rw [List.concat_eq_append]; simpa using l.append (OwnL.cons (K := K) (F := F) (H := H) ow .nil), R2, ?_⟩
     refine p1.trans ((List.Perm.append_left g2 p2).trans ?_)
     rw [<- List.append_assoc]
     exact List.Perm.append_right h1 List.perm_append_comm
    ·cases e
   ·cases e
def ek_ (dl : En -> Option (Nat × En)) (E : En) : Option (S × En) := match dl E with
 | some (k, E1) => if k < 1000 then match jX_ k E1 with
   | some (ss, E2) => some (.lst ss, E2)
   | none => none
  else none
 | none => none
theorem i9_ (hl : EvL K n as tr dl) : EvE K n as (tLst tr) (ek_ dl) := by
 intro F H σ E fp L R s E' e Q q
 unfold ek_ at e
 split at e
 ·next k E1 el =>
  split at e
  ·next hk =>
   split at e
   ·next ss E2 ep =>
    cases e
    refine hl L R el fun vs F1 H1 fp1 hk2 g1 R1 => ?_
    subst hk2
    refine ⟨by rw [sizeLine_eq]; omega, fun p hp => ?_⟩
    obtain ⟨h1, h2, l, R2, pm⟩ := R1.popN vs.length rfl ep
    have nd := pm.nodup_iff.mp R1.nd
    have g : Grow F1 H1 [] F1 (upd H1 p (.lst vs)) [p] := Grow.alloc R1.sub hp
    have np : p ∉ h2 ++ h1 := fun m => by obtain ⟨w, hw⟩ := R1.there p (pm.mem_iff.mpr m); rw [hp] at hw; cases hw
    have R3 := R2.grow g
    refine q _ F1 _ (p :: h2) h1 ?_ R3 (cN_ (l.frame (fun _ _ h => h) g.sub fun a m u e => g.keep a u e (fun z => nomatch z))) (by simpa using List.nodup_cons.mpr ⟨np, nd⟩) fun a m => ?_
    ·refine (g1.trans (g.ours fp1)).less fun a m => ?_
     rcases List.mem_cons.mp m with rfl | m
     ·exact List.mem_append_left _ (List.mem_singleton.mpr rfl)
     ·exact List.mem_append_right _ (pm.mem_iff.mpr m)
    ·rcases List.mem_cons.mp m with rfl | m
     ·exact dz_ R1.sub hp
     ·exact R1.off a (pm.mem_iff.mpr (List.mem_append_left _ m))
   ·cases e
  ·cases e
 ·cases e
def ja_ (i : Int) (t s : S) : Option (S × S) := match t with
 | .lst ss => match ixN ss.length i with
  | some j => some (.lst (ss.set j s), .dat .none)
  | none => none
 | _ => none
def oy_ (i : Int) (u y : V) (H : Hp) (Q : VK) : Prop := ∃ p xs j, u = .ref p /\ H p = some (.lst xs) /\ ixN xs.length i = some j /\ Q .non (upd H p (.lst (xs.set j y)))
theorem m3_ (i : Int) : Nd1 K (oy_ i) (ja_ i) := by
 intro F H u y t s t' c fp1 fr sub ot os nd of e Q q
 unfold ja_ at e
 split at e
 ·next ss =>
  split at e
  ·next j hj =>
   cases e
   obtain ⟨a, vs, fq, rfl, hH, l, rfl⟩ := ot.lst_inv rfl
   have na : a ∉ fr := fun m => (List.nodup_append.mp nd).2.2 a m a List.mem_cons_self rfl
   have nq : a ∉ fq := (List.nodup_cons.mp (List.nodup_append.mp nd).2.1).1
   have fa : F a = none := of a (List.mem_append_right _ List.mem_cons_self)
   have jl : j < vs.length := by rw [l.length]; exact oi_ hj
   refine ⟨a, vs, j, rfl, hH, by rw [l.length]; exact hj, ?_⟩
   obtain ⟨g1, g2, g, l2, p1, p2⟩ := l.repl jl os
   have ndf := List.nodup_append.mp nd
   have ndq := (List.nodup_cons.mp ndf.2.1).2
   have hg : ∀ b ∈ g, b ∈ fr ∨ b ∈ fq := fun b m => (List.mem_append.mp (p1.mem_iff.mp m)).imp id fun m => p2.mem_iff.mpr (List.mem_append_right _ m)
   have ng : g.Nodup := p1.nodup_iff.mpr (List.nodup_append.mpr ⟨ndf.1, (List.nodup_append.mp (p2.nodup_iff.mp ndq)).2.1, fun b m c m2 e => ndf.2.2 b m c (List.mem_cons_of_mem _ (p2.mem_iff.mpr (List.mem_append_right _ m2))) e⟩)
   have nag : a ∉ g := fun m => (hg a m).elim na nq
   have g0 : Grow F H [a] F (upd H a (.lst (vs.set j y))) [a] := Grow.write sub fa
   refine q .non F _ [] (a :: g) (g0.wide (fun b m => by rw [List.mem_singleton.mp m]; exact List.mem_append_right _ List.mem_cons_self) fun b m => ?_) (cN_ (l2.off sub fa nag)) (.dat .non) ?_ fun b m => ?_
   ·left
    rw [List.nil_append] at m
    rcases List.mem_cons.mp m with rfl | m
    ·exact List.mem_append_right _ List.mem_cons_self
    ·exact (hg b m).elim (fun m => List.mem_append_left _ m) fun m => List.mem_append_right _ (List.mem_cons_of_mem _ m)
   ·rw [List.nil_append]; exact List.nodup_cons.mpr ⟨nag, ng⟩
   ·rw [List.nil_append] at m
    rcases List.mem_cons.mp m with rfl | m
    ·exact fa
    ·exact (hg b m).elim (fun m => of b (List.mem_append_left _ m)) fun m => of b (List.mem_append_right _ (List.mem_cons_of_mem _ m))
  ·cases e
 ·cases e
def eV_ (da db : En -> Option Rs) (de : En -> Option (S × En)) (E : En) : Option Out := match de E with
 | some (s, E1) => match da E1, db E1 with
  | some (.pl p), some (.val (.dat (.int i))) => jT_ (ja_ i) E1 p s
  | _, _ => none
 | none => none
theorem mk_ (ha : EvP K n as ta da) (hb : EvP K n as tb db) (he : EvE K n as te de) : EvS K n as W (tAsg te (gSub ta tb rSetL)) (eV_ da db de) := by
 intro F H σ E fp L R o e D g
 unfold eV_ at e
 split at e
 ·next s E1 ee =>
  split at e
  ·next p i ea eb =>
   refine he L R ee fun v F1 H1 fr fp1 g1 R1 ov nd of => ha L R1 ea fun x F2 H2 f2 g2 r2 n2 o2 => hb L (R1.grow g2) eb fun y F3 H3 f3 g3 r3 n3 o3 => ?_
   have R3 := (R1.grow g2).grow g3
   have g23 : Grow F1 H1 [] F3 H3 [] := (g2.seq0 g3).drop
   have ov3 : Own K F3 H3 v s fr := ov.grow g23 fun _ _ m => nomatch m
   have of3 : ∀ a ∈ fr, F3 a = none := fun a m => by
    obtain ⟨o, eo⟩ := ov.there a m
    exact g23.off a (by rw [eo]; exact fun z => nomatch z) (fun z => nomatch z) (of a m)
   have r2' := r2.grow (R1.grow g2) g3
   cases (Own.dat_inv (show Own K F3 H3 y _ f3 from r3) rfl).1
   unfold jT_ at e
   split at e
   ·next t et =>
    split at e
    ·next t' c eo =>
     cases e
     have gg : Grow F H fp F3 H3 (fr ++ fp1) := by
      have := g1.trans (g23.ours (fr ++ fp1))
      simpa using this
     have fin := p4_ (m3_ i) R3 r2' ov3 nd of3 et eo (Q := fun _ H4 => D.nx σ H4) fun v F' H' fv fp' g4 R4 ov4 nd4 of4 => ?_
     ·obtain ⟨a, ys, j, rfl, hp, hj, hq⟩ := fin
      exact ⟨a, ys, i, j, rfl, rfl, hp, hj, hq⟩
     ·exact g σ F' H' fp' L ((gg.trans g4).less fun a m => List.mem_append_right _ m) R4
    ·cases e
   ·cases e
  ·cases e
 ·cases e
def hV_ (op : S -> S -> Option (S × S)) (da : En -> Option Rs) (db : En -> Option (S × En)) (E : En) : Option (S × En) := match da E with
 | some (.pl p) => match aZ_ E p with
  | some (.lst _) => match db (E ++ [.bor p]) with
   | some (s, E1) => match E1.getLast? with
    | some (.bor p') => match aZ_ E1 p' with
     | some t => match op t s with
      | some (t', c) => some (c, strip1 (bV_ (bA_ E1 p' t') p'))
      | none => none
     | none => none
    | _ => none
   | none => none
  | _ => none
 | _ => none
theorem oz_ {r : V -> List V -> Hp -> VK -> Prop} {op : S -> S -> Option (S × S)} (hr : Nd1 K (fun u y H Q => r u [y] H Q) op) (ha : EvP K n as ta da) (hb : ∀ as, EvE K n as tb de) : EvE K n as (tBM K "list" r ta (tCons tb tNil)) (hV_ op da de) := by
 intro F H σ E fp L R s0 E0 e Q q
 unfold hV_ at e
 split at e
 ·next p ea =>
  split at e
  ·next ss es =>
   split at e
   ·next s E1 e1 =>
    split at e
    ·next p' hl =>
     split at e
     ·next t ht =>
      split at e
      ·next t' c ho =>
       cases e
       refine ha L R ea fun u F1 H1 f1 g1 a1 n1 o1 => ?_
       have R1 := R.grow g1
       obtain ⟨fq, ow⟩ := a1.own R1 (show (Rs.pl p).at E = some (.lst ss) from es)
       obtain ⟨a, xs, _, rfl, hH, _⟩ := ow.lst_inv rfl
       obtain ⟨z1, z2, z3⟩ := a1
       subst z1
       refine ⟨ix_ hH, hb (as ++ [some (.ref a)]) L (R1.hold z2 z3) e1 fun y F2 H2 fr fp2 g2 R2 ov nd of => ?_⟩
       have len := R2.core.len
       rw [List.getLast?_eq_getElem?] at hl
       obtain ⟨w, e3, e4, e5⟩ := R2.bor _ _ hl
       have : (σ ++ (as ++ [some (V.ref a)]))[E1.length - 1]? = some (some (.ref a)) := by
        rw [<- List.append_assoc, List.getElem?_append_right (by rw [len]; simp), len]
        simp
       rw [this] at e3
       cases e3
       refine p4_ hr R2 (u := .ref a) (f1 := []) ⟨rfl, e4, e5⟩ ov nd of ht ho fun v F' H' fv fp' g R' ov' nd' of' => ?_
       obtain ⟨fz, R4, sb⟩ := R'.strip1
       refine q v F' H' fv fz ((g1.mine.trans (g2.trans g)).less fun b m => (List.mem_append.mp m).elim (fun m => List.mem_append_left _ m) fun m => List.mem_append_right _ (sb b m)) R4 ov' ?_ of'
       exact List.nodup_append.mpr ⟨(List.nodup_append.mp nd').1, R4.nd, fun b m d m2 => (List.nodup_append.mp nd').2.2 b m d (sb d m2)⟩
      ·cases e
     ·cases e
    ·cases e
   ·cases e
  ·cases e
 ·cases e
def df_ (de : En -> Option (S × En)) (E : En) : Option Src := match de E with
 | some (.dat (.int j), E1) => if j < 2 ^ 62 /\ -(2 ^ 62) <= j then some ⟨E1, [], fun _ i => some (if i < j.toNat then some (.val (.dat (.int (i : Nat)))) else none), j.toNat⟩ else none
 | _ => none
theorem iz_ (h : EvE K n as te de) : EvI K n as (iRng1 (tCons te tNil)) (df_ de) := by
 intro F H σ E fp L R c e Rr q
 unfold df_ at e
 split at e
 ·next j E1 ed =>
  split at e
  ·next hj =>
   cases e
   refine h L R ed fun v F1 H1 fr fp1 g1 R1 ov nd of => ?_
   cases (Own.dat_inv ov rfl).1
   refine ⟨j, rfl, hj.2, hj.1, q _ F1 H1 [] fp1 (g1.less fun a m => List.mem_append_right _ m) (by simpa using R1) rfl fun F2 H2 σ2 E2 fp2 L2 g2 R2 i => ⟨fun r hr => ?_, fun hr => ?_⟩⟩
   ·have hr := Option.some.inj hr
    by_cases hi : i < j.toNat
    ·rw [if_pos hi] at hr
     cases hr
     refine ⟨hi, fun x H' hy => ⟨hy.1, ?_⟩⟩
     rw [hy.2]
     have : (0 : Int) + (i : Int) = ((i : Nat) : Int) := by omega
     rw [this]
     exact .dat (.int _)
    ·rw [if_neg hi] at hr; cases hr
   ·have hr := Option.some.inj hr
    by_cases hi : i < j.toNat
    ·rw [if_pos hi] at hr; cases hr
    ·exact Nat.le_of_not_lt hi
  ·cases e
 ·cases e
open PySem.W (alike alikeAll AlikeAll minD)
variable {dtf : En -> Option (Bool × En)}
theorem he_ {i : Nat} : ∀ {ρ : Ro} {E : En} {v : Option V}, E.length = ρ.length -> ρ[i]? = some v -> a8_ ρ (ak_ E i .no) = (a8_ ρ E).set i (.con (v.getD .non)) := by
 intro ρ E v l h
 have hi := (List.getElem?_eq_some_iff.mp h).1
 have e1 : ρ = ρ.set i v := by
  apply List.ext_getElem?
  intro j
  by_cases ij : i = j
  ·subst ij; rw [List.getElem?_set_self hi, h]
  ·rw [List.getElem?_set_ne ij]
 have := dw_ (ρ := ρ) (E := E.map (aW_ i)) (i := i) (v := v) (e := .no) (by rw [List.length_map]; exact l)
 rw [<- e1, bO_] at this
 unfold ak_
 rw [this]
 rfl
theorem Rep.takeSlot {i : Nat} (R : Rep K F H ρ E fp) (hE : E[i]? = some (Sl.own s)) (hv : ρ[i]? = some (some v)) :
  ∃ fr fq, Own K F H v s fr /\ Rep K F H ρ (ak_ E i .no) fq /\ fp.Perm (fr ++ fq) := by
 obtain ⟨f, l, pm⟩ := R.core.own
 have len := R.core.len
 obtain ⟨x, g1, g2, e1, o1, l2, p1⟩ := l.take (cc_ len hE)
 have ex : x = v := by
  unfold bU_ at e1
  rw [List.getElem?_map, hv] at e1
  simpa using e1.symm
 subst ex
 have hi := (List.getElem?_eq_some_iff.mp hv).1
 have pm2 : fp.Perm (g1 ++ g2) := pm.trans p1
 have nd := pm2.nodup_iff.mp R.nd
 have hEl : i < E.length := by omega
 refine ⟨g1, g2, o1, ⟨⟨by unfold ak_; rw [List.length_set, List.length_map]; exact len, ⟨g2, ?_, List.Perm.refl _⟩, fun j z hj => ?_⟩, R.sub, (List.nodup_append.mp nd).2.1, fun a m => R.off a (pm2.mem_iff.mpr (List.mem_append_right _ m)), fun j p hb => ?_⟩, pm2⟩
 ·rw [he_ len hv]; exact l2
 ·by_cases ij : i = j
  ·subst ij; exact ⟨_, hv⟩
  ·unfold ak_ at hj
   rw [List.getElem?_set_ne ij] at hj
   exact R.core.set j z ((cx_ E j z).mp hj)
 ·by_cases ij : i = j
  ·subst ij
   unfold ak_ at hb
   rw [List.getElem?_set_self (by rw [List.length_map]; exact hEl)] at hb
   cases hb
  ·unfold ak_ at hb
   rw [List.getElem?_set_ne ij, List.getElem?_map] at hb
   cases hE2 : E[j]? with
   | none => rw [hE2] at hb; cases hb
   | some sl =>
    rw [hE2] at hb
    cases sl with
    | no => cases hb
    | own w => cases hb
    | bor q =>
     simp only [Option.map_some, aW_, Option.some.injEq] at hb
     by_cases hq : q.head? = some i
     ·rw [if_pos hq] at hb; cases hb
     ·rw [if_neg hq] at hb
      cases hb
      obtain ⟨w, e1, e2, e3⟩ := R.bor j _ hE2
      exact ⟨w, e1, e2, by rw [ge_ hq]; exact e3⟩
def c6_ (i : Nat) (E : En) : Option (S × En) := match E[i]? with
 | some (.own s) => some (s, ak_ E i .no)
 | _ => none
theorem hf_ {i : Nat} (hi : i < n) : EvE K n as (tVar i) (c6_ i) := by
 intro F H σ E fp L R s0 E0 e Q q
 unfold c6_ at e
 split at e
 ·next s he =>
  cases e
  obtain ⟨v, hv⟩ := R.core.set i _ he
  have hv' : σ[i]? = some (some v) := by rwa [List.getElem?_append_left (by omega)] at hv
  obtain ⟨fr, fq, ow, R2, pm⟩ := R.takeSlot he hv
  exact ⟨v, hv', q v F H fr fq ((Grow.refl R.sub fp).less fun a m => pm.mem_iff.mpr m) R2 ow (pm.nodup_iff.mp R.nd) fun a m => R.off a (pm.mem_iff.mpr (List.mem_append_left _ m))⟩
 ·cases e
theorem aB_ : ∀ E rs, ai_ E = some rs -> rs.length = 0 := fun E rs h => by cases h; rfl
theorem al_ {m : Nat} (h : ∀ E rs, dr E = some rs -> rs.length = m) : ∀ E rs, aa_ da dr E = some rs -> rs.length = m + 1 := fun E rs e => by
 unfold aa_ at e
 split at e
 ·next a r ea er => cases e; rw [List.length_cons, h E r er]
 ·cases e
def hg_ (dt : En -> Option (Bool × En)) (da db : En -> Option (S × En)) (E : En) : Option (S × En) := match dt E with
 | some (true, E1) => da E1
 | some (false, E1) => db E1
 | none => none
theorem lr_ (ht : hI_ K n as tt dte) (ha : EvE K n as ta de) (hb : EvE K n as tb df) : EvE K n as (tIf tt ta tb) (hg_ dte de df) := by
 intro F H σ E fp L R s E' e Q q
 unfold hg_ at e
 split at e
 ·next E1 et => exact ht L R et fun F1 H1 fp1 g1 R1 => iteT (ha L R1 e fun v F2 H2 fr fp2 g2 => q v F2 H2 fr fp2 (g1.trans g2))
 ·next E1 et => exact ht L R et fun F1 H1 fp1 g1 R1 => iteF (hb L R1 e fun v F2 H2 fr fp2 g2 => q v F2 H2 fr fp2 (g1.trans g2))
 ·cases e
def m4_ (_ : List S) : Option (S × List S) := none
theorem m5_ {P : Program} {w : World} {mg : Str -> Option Value} {base : Heap} {CX : CXT} {k : Nat} {f : Addr} {fd : FuncData} {ps : List Str} : FnOk P w K mg base CX k f fd ps (dO_ K ps.length m4_) :=
 ⟨fun vs H Q E h => h.1, fun A outer s H args us vs Q E hr he hb hv h => by
  obtain ⟨_, F, ss, fp, s, ss', sub, l, nd, of, hg, q⟩ := h
  cases hg⟩
end Mv
namespace L2
open PySem PySem.Spec PyProof.Rows
end L2
namespace Mv
open PySem PySem.Spec PyProof.Rows L2
variable {X : Cx} {K : PySem.W.Frag} {e : Expr}
theorem hJ_ {t : PySem.W.Frag -> TE} (h : PE X e (t X.K)) (hK : X.K = K := by rfl) : PE X e (t K) := hK ▸ h
def dE_ (K : PySem.W.Frag) : List V -> Hp -> VK -> Prop := fun xs H Q => ∃ p ys, xs = [.ref p] /\ (SqL K H p ys ∨ SqT K H p ys) /\ Q (.int ys.length) H
theorem a5_ : CallR X (.builtin "len") (dE_ X.K) := call_len_seq
def iA_ (K : PySem.W.Frag) : List V -> Hp -> VK -> Prop := fun xs H Q => ∃ p ys, xs = [.ref p] /\ (SqL K H p ys ∨ SqT K H p ys) /\ ∀ l, H l = none -> Q (.ref l) (upd H l (.lst ys))
theorem jb_ : CallR X (.type "list") (iA_ X.K) := call_list_of
variable {n : Nat} {as : Ro} {te : TE} {tl th : TO} {d : En -> Option Rs} {dl dh : En -> Option (Option Int)} {dn : En -> Option (Nat × En)} {dlo dhi : En -> Option (Option Int × En)}
theorem b6_ (h : EvP K n as te d) (hl : EvO K n as tl dl) (hh : EvO K n as th dh) : EvP K n as (tSl (rSlL K) te tl th) (dSl c8_ d dl dh) := dd_ (r := rSlL K) (f := c8_) (@ov_ K) h hl hh
variable {E E' E1 E2 : En} {s t : S} {d1 d2 : En -> Option Out} {dt : En -> Option (Bool × En)}
theorem m6_ (h : d1 E = some (.nx E1)) : aE_ d1 d2 E = d2 E1 := by unfold aE_; rw [h]
theorem ad_ {r : Option Out} (h : d1 E = some (.nx E1)) (h2 : d2 E1 = r) : aE_ d1 d2 E = r := by rw [m6_ h]; exact h2
theorem aU_ {n : Nat} {ss ss' : List S} (h : d1 (entry n ss) = some (.rt s E)) (h2 : cD_ (E.drop n) = some ss') : fnG n d1 ss = some (s, ss') := by unfold fnG; rw [h]; simp only [h2]; rfl
theorem oA_ {n : Nat} {ss ss' : List S} (h : d1 (entry n ss) = some (.nx E)) (h2 : cD_ (E.drop n) = some ss') : fnG n d1 ss = some (.dat .none, ss') := by unfold fnG; rw [h]; simp only [h2]; rfl
theorem bu_ (h : d1 E = some (.rt s E1)) : aE_ d1 d2 E = some (.rt s E1) := by unfold aE_; rw [h]
theorem ls_ (h : dt E = some (true, E1)) : dIf dt d1 d2 E = d1 E1 := by unfold dIf; rw [h]
theorem jY_ (h : dt E = some (false, E1)) : dIf dt d1 d2 E = d2 E1 := by unfold dIf; rw [h]
theorem cu_ {r : Option Out} (h : dt E = some (true, E1)) (h2 : d1 E1 = r) : dIf dt d1 d2 E = r := by rw [ls_ h]; exact h2
theorem bF_ {r : Option Out} (h : dt E = some (false, E1)) (h2 : d2 E1 = r) : dIf dt d1 d2 E = r := by rw [jY_ h]; exact h2
theorem fk_ {rd : En -> Nat -> Option (Option Rs)} {bd : Rs -> En -> Option En} {db : En -> Option Out} {fuel i : Nat} (h : rd E i = some none) : dLoop rd bd db fuel i E = some (.nx E) := by
 rw [dLoop.eq_def]; simp only [h]
theorem gn_ {rd : En -> Nat -> Option (Option Rs)} {bd : Rs -> En -> Option En} {db : En -> Option Out} {fuel i : Nat} {r : Rs} (h : rd E i = some (some r)) (hb : bd r E = some E1) (hd : db E1 = some (.nx E2)) : dLoop rd bd db (fuel + 1) i E = dLoop rd bd db fuel (i + 1) E2 := by
 rw [dLoop.eq_def]; simp only [h, hb, hd]
theorem er_ {rd : En -> Nat -> Option (Option Rs)} {j : Nat} {de : En -> Option (S × En)} {fuel i : Nat} {acc : List S} (h : rd E i = some none) : dLcLoop rd j dt de fuel i acc E = some (acc, E) := by
 rw [dLcLoop.eq_def]; simp only [h]
theorem es_ {rd : En -> Nat -> Option (Option Rs)} {j : Nat} {de : En -> Option (S × En)} {fuel i : Nat} {acc : List S} {r : Rs} {E3 : En} (h : rd E i = some (some r)) (hb : au_ j r E = some E1) (ht : dt E1 = some (true, E2)) (he : de E2 = some (s, E3)) (hl : acc.length < 100000) :
  dLcLoop rd j dt de (fuel + 1) i acc E = dLcLoop rd j dt de fuel (i + 1) (acc ++ [s]) (ak_ E3 j .no) := by
 rw [dLcLoop.eq_def]; simp only [h, hb, ht, he, if_pos hl]
theorem jZ_ {rd : En -> Nat -> Option (Option Rs)} {j : Nat} {de : En -> Option (S × En)} {fuel i : Nat} {acc : List S} {r : Rs} (h : rd E i = some (some r)) (hb : au_ j r E = some E1) (ht : dt E1 = some (false, E2)) :
  dLcLoop rd j dt de (fuel + 1) i acc E = dLcLoop rd j dt de fuel (i + 1) acc (ak_ E2 j .no) := by
 rw [dLcLoop.eq_def]; simp only [h, hb, ht]
def tI (ns : List Int) : S := .dat (.tuple (ns.map .int))
def lI (ns : List Int) : S := .lst (ns.map fun i => .dat (.int i))
theorem eCall_go {g : List S -> Option (S × List S)} {dr : En -> Option (List Rs)} {rs : List Rs} {ss ss' : List S} (h1 : dr E = some rs) (h2 : bf_ rs = true) (h3 : hQ_ E rs = some ss) (h4 : g ss = some (s, ss')) : ag_ g dr E = some (s, bK_ (aF_ E rs ss') rs) := by
 unfold ag_
 simp only [h1, if_pos h2, h3, h4]
theorem m7_ {i : Nat} {de : En -> Option (S × En)} (h : de E = some (s, E1)) : cd_ i de E = some (.nx (ak_ E1 i (.own s))) := by unfold cd_; rw [h]
theorem j0_ {α : Type} {xs : List α} {k : Nat} (h : k <= xs.length) : cutD xs (some (k : Int)) none = xs.drop k := by
 unfold cutD
 rw [HT.sIx_nat, HT.sIx_none, Nat.min_eq_left h, List.take_of_length_le]
 rw [List.length_drop]; exact Nat.le_refl _
theorem am_ {da : En -> Option Rs} {dr : En -> Option (List Rs)} {r : Rs} {rs : List Rs} (h : da E = some r) (h2 : dr E = some rs) : aa_ da dr E = some (r :: rs) := by unfold aa_; rw [h, h2]
theorem fU_ {n j : Nat} (hj : j < n) : ixN n (j : Int) = some j := by
 unfold ixN
 rw [if_pos (Int.natCast_nonneg j), if_pos (by exact_mod_cast hj)]; rfl
end Mv
namespace Mv
open PySem PySem.Spec PyProof.Rows L2
variable {E E' E1 E2 : En} {s t : S}
theorem m8_ {rd : En -> Nat -> Option (Option Rs)} {j : Nat} {de : En -> Option (S × En)} {E : En} (out : Nat -> S) (n : Nat) (hn : n < 100000)
  (hs : ∀ i, i < n -> ∃ r E1 E3, rd E i = some (some r) /\ au_ j r E = some E1 /\ de E1 = some (out i, E3) /\ ak_ E3 j .no = E) (he : rd E n = some none) :
  ∀ (m i fuel : Nat) (acc : List S), i + m = n -> m <= fuel -> acc.length = i -> dLcLoop rd j cs_ de fuel i acc E = some (acc ++ (List.range' i m).map out, E) := by
 intro m
 induction m with
 | zero =>
  intro i fuel acc hi _ _
  have : i = n := by omega
  subst this
  rw [er_ he]; simp
 | succ m ih =>
  intro i fuel acc hi hf ha
  cases fuel with
  | zero => omega
  | succ fuel =>
   obtain ⟨r, E1, E3, h1, h2, h3, h4⟩ := hs i (by omega)
   rw [es_ h1 h2 rfl h3 (by omega), h4, ih (i + 1) fuel (acc ++ [out i]) (by omega) (by omega) (by simp [ha])]
   simp [List.range'_succ]
theorem oB_ {ns : List Int} {i : Nat} {h : Int} (h3 : ns[i]? = some h) : rdD (ns.map .int) E i = some (some (.val (.dat (.int h)))) := by
 unfold rdD
 simp [List.getElem?_map, h3]
theorem j1_ {ns : List Int} {i : Nat} (h3 : ns.length <= i) : rdD (ns.map .int) E i = some none := by
 unfold rdD
 simp [List.getElem?_map, List.getElem?_eq_none_iff.mpr h3]
theorem jc_ {α β : Type} (f : α -> β) (xs : List α) (out : Nat -> β) (h : ∀ i a, xs[i]? = some a -> out i = f a) : (List.range' 0 xs.length).map out = xs.map f := by
 apply List.ext_getElem?
 intro i
 rw [List.getElem?_map, List.getElem?_map]
 by_cases hi : i < xs.length
 ·have e : (List.range' 0 xs.length)[i]? = some i := by rw [List.getElem?_range' (by omega)]; simp
  rw [e, List.getElem?_eq_getElem hi]
  simp [h i xs[i] (List.getElem?_eq_getElem hi)]
 ·have e : (List.range' 0 xs.length)[i]? = none := List.getElem?_eq_none_iff.mpr (by simp; omega)
  rw [e, List.getElem?_eq_none_iff.mpr (by omega)]; rfl
theorem hh_ (n : Nat) : bq_ (List.replicate n (PyData.bool true)) = some (List.replicate n true) := by
 induction n with
 | zero => rfl
 | succ n ih => rw [List.replicate_succ, List.replicate_succ]; simp [bq_, ih]
theorem eb_ : ∀ (ds : List PyData), S.toDs (ds.map S.dat) = some ds
 | [] => rfl
 | d :: ds => by simp [S.toDs, S.toD, eb_ ds]
theorem j2_ {n : Nat} : jP_ [.list (List.replicate n (.bool true))] = some (.bool true) := by
 simp [jP_, hh_]
variable {de df : En -> Option (S × En)} {a c : PyData}
theorem go_ {r : Option (S × En)} (h : de E = some (.dat (.bool true), E1)) (h2 : df E1 = r) : cf_ de df E = r := by unfold cf_; rw [h]; exact h2
theorem m9_ {f : List PyData -> Option PyData} (h : de E = some (s, E1)) (h2 : s.toD = some a) (h3 : f [a] = some c) : jv_ f de E = some (.dat c, E1) := by unfold jv_; rw [h]; simp only [h2, h3]; rfl
theorem eCS_go {f : List S -> Option S} (h : de E = some (s, E1)) (h3 : f [s] = some t) : eCS f de E = some (t, E1) := by unfold eCS; rw [h]; simp only [h3]; rfl
theorem aQ_ (h : de E = some (s, E1)) : aY_ de E = some (.rt s E1) := by unfold aY_; rw [h]
theorem gp_ (h : de E = some (s, E1)) : cr_ de E = some (.nx E1) := by unfold cr_; rw [h]
theorem bQ_ {b : Bool} (h : de E = some (.dat (.bool b), E1)) : bb_ de E = some (b, E1) := by unfold bb_; rw [h]
theorem dg_ {dt : En -> Option (Bool × En)} {b : Bool} (h : dt E = some (b, E1)) : dG_ dt E = some (!b, E1) := by unfold dG_; rw [h]; rfl
theorem j3_ {dt du : En -> Option (Bool × En)} {r : Option (Bool × En)} (h : dt E = some (false, E1)) (h2 : du E1 = r) : eOr dt du E = r := by unfold eOr; rw [h]; exact h2
theorem iB_ {src : En -> Option Src} {j : Nat} {dt : En -> Option (Bool × En)} {acc : List S} {c : Src} (h : src E = some c) (h2 : dLcLoop c.rd j dt de c.fuel 0 [] (ak_ (c.env ++ c.exE) j .no) = some (acc, E1)) : eLc src j dt de E = some (.lst acc, cz_ c E1) := by
 unfold eLc; rw [h]; simp only [h2]
theorem cE_ {src : En -> Option Src} {bd : Rs -> En -> Option En} {db : En -> Option Out} {c : Src} (h : src E = some c) (h2 : dLoop c.rd bd db c.fuel 0 (c.env ++ c.exE) = some (.nx E1)) : d8_ src bd db E = some (.nx (cz_ c E1)) := by
 unfold d8_; rw [h]; simp only [h2]; rfl
theorem j4_ {rd : En -> Nat -> Option (Option Rs)} {bd : Rs -> En -> Option En} {db : En -> Option Out} (env : Nat -> En) (n : Nat) (hs : ∀ i, i < n -> ∃ r E1, rd (env i) i = some (some r) /\ bd r (env i) = some E1 /\ db E1 = some (.nx (env (i + 1)))) (he : rd (env n) n = some none) :
  ∀ (m i fuel : Nat), i + m = n -> m <= fuel -> dLoop rd bd db fuel i (env i) = some (.nx (env n)) := by
 intro m
 induction m with
 | zero =>
  intro i fuel hi _
  have : i = n := by omega
  subst this; exact fk_ he
 | succ m ih =>
  intro i fuel hi hf
  cases fuel with
  | zero => omega
  | succ fuel =>
   obtain ⟨r, E1, h1, h2, h3⟩ := hs i (by omega)
   rw [gn_ h1 h2 h3]
   exact ih (i + 1) fuel (by omega) (by omega)
theorem e8_ {rd : En -> Nat -> Option (Option Rs)} {bd : Rs -> En -> Option En} {db : En -> Option Out} (J : Nat -> En -> Prop) (n : Nat) (hs : ∀ i E, i < n -> J i E -> ∃ r E1 E2, rd E i = some (some r) /\ bd r E = some E1 /\ db E1 = some (.nx E2) /\ J (i + 1) E2) (he : ∀ E, J n E -> rd E n = some none) :
  ∀ (m i fuel : Nat) (E : En), i + m = n -> m <= fuel -> J i E -> ∃ E', dLoop rd bd db fuel i E = some (.nx E') /\ J n E' := by
 intro m
 induction m with
 | zero =>
  intro i fuel E hi _ hJ
  have : i = n := by omega
  subst this; exact ⟨E, fk_ (he E hJ), hJ⟩
 | succ m ih =>
  intro i fuel E hi hf hJ
  cases fuel with
  | zero => omega
  | succ fuel =>
   obtain ⟨r, E1, E2, h1, h2, h3, h4⟩ := hs i E (by omega) hJ
   rw [gn_ h1 h2 h3]
   exact ih (i + 1) fuel E2 (by omega) (by omega) h4
theorem oC_ {rd : En -> Nat -> Option (Option Rs)} {j : Nat} {de : En -> Option (S × En)} (J : Nat -> List S -> En -> Prop) (n : Nat) (hn : n < 100000)
  (hs : ∀ i acc E, i < n -> J i acc E -> ∃ r E1 s E3, rd E i = some (some r) /\ au_ j r E = some E1 /\ de E1 = some (s, E3) /\ J (i + 1) (acc ++ [s]) (ak_ E3 j .no)) (he : ∀ acc E, J n acc E -> rd E n = some none) :
  ∀ (m i fuel : Nat) (acc : List S) (E : En), i + m = n -> m <= fuel -> acc.length = i -> J i acc E -> ∃ acc' E', dLcLoop rd j cs_ de fuel i acc E = some (acc', E') /\ J n acc' E' := by
 intro m
 induction m with
 | zero =>
  intro i fuel acc E hi _ _ hJ
  have : i = n := by omega
  subst this; exact ⟨acc, E, er_ (he acc E hJ), hJ⟩
 | succ m ih =>
  intro i fuel acc E hi hf ha hJ
  cases fuel with
  | zero => omega
  | succ fuel =>
   obtain ⟨r, E1, s, E3, h1, h2, h3, h4⟩ := hs i acc E (by omega) hJ
   rw [es_ h1 h2 rfl h3 (by omega)]
   exact ih (i + 1) fuel (acc ++ [s]) _ (by omega) (by omega) (by simp [ha]) h4
theorem cg_ {d : En -> Option Rs} {j : Int} (h : d E = some (.val (.dat (.int j)))) (h1 : 0 <= j) (h2 : j < 1000000) : by_ d E = some ⟨E, [], fun _ i => some (if i < j.toNat then some (.val (.dat (.int (i : Nat)))) else none), j.toNat⟩ := by
 unfold by_
 rw [h]
 exact if_pos ⟨by omega, by omega⟩
theorem fV_ {d : En -> Option (S × En)} {j : Int} (h : d E = some (.dat (.int j), E1)) (h1 : 0 <= j) (h2 : j < 1000000) : df_ d E = some ⟨E1, [], fun _ i => some (if i < j.toNat then some (.val (.dat (.int (i : Nat)))) else none), j.toNat⟩ := by
 unfold df_
 rw [h]
 exact if_pos ⟨by omega, by omega⟩
theorem iC_ {n i : Nat} (h : i < n) : (fun (_ : En) (i : Nat) => (some (if i < n then some (Rs.val (.dat (.int (i : Nat)))) else none) : Option (Option Rs))) E i = some (some (.val (.dat (.int (i : Nat))))) := by
 show some (if i < n then _ else _) = _
 rw [if_pos h]
theorem gq_ {n : Nat} : (fun (_ : En) (i : Nat) => (some (if i < n then some (Rs.val (.dat (.int (i : Nat)))) else none) : Option (Option Rs))) E n = some none := by
 show some (if n < n then _ else _) = _
 rw [if_neg (by omega)]
end Mv
namespace Mv
open PySem PySem.Spec PyProof.Rows L2
variable {X : Cx} {K : PySem.W.Frag} {F F' F1 F2 F3 H H' H1 H2 H3 : Hp} {v u x y w : V} {vs ws xs : List V} {s t c : S} {ss tts : List S} {fp fq fr fp' fp1 fp2 f1 f2 : List Addr} {ρ as : Ro} {E E' : En} {n : Nat}
variable {W : WXm} {te ta tb tc tk tv td : TE} {d da db dc dk dv : En -> Option Rs} {tr : TA} {dr : En -> Option (List Rs)} {de df : En -> Option (S × En)} {dl : En -> Option (Nat × En)} {ds : List PyData} {Q : VK}
def lc_ : S -> S -> Option S
 | .lst a, .dat (.int k) => match bc_ a with
  | some _ => if 0 <= k /\ k < 100000 /\ a.length * k.toNat < 100000 then some (.lst (List.replicate k.toNat a).flatten) else none
  | none => none
 | _, _ => none
theorem OwnL.rep (l : OwnL K F H vs ss []) : ∀ (k : Nat), OwnL K F H (List.replicate k vs).flatten (List.replicate k ss).flatten []
 | 0 => .nil
 | k + 1 => by
  rw [List.replicate_succ, List.replicate_succ, List.flatten_cons, List.flatten_cons]
  simpa using l.append (OwnL.rep l k)
theorem ml_ : ou_ K rRep lc_ := by
 intro F H x y a b c f1 f2 sub o1 o2 e Q m
 unfold lc_ at e
 split at e
 ·next a k =>
  split at e
  ·next d1 e1 =>
   split at e
   ·next hl =>
    cases e
    obtain ⟨l, xs, _, rfl, hH, l1, _⟩ := o1.lst_inv rfl
    cases (o2.dat_inv rfl).1
    obtain ⟨da1, rfl⟩ := dy_ l1 e1
    refine ⟨l, k, xs, rfl, rfl, hH, by omega, by omega, by rw [l1.length, sizeLine_eq]; omega, hb_ sub (OwnL.rep l1 _) m⟩
   ·cases e
  ·cases e
 ·cases e
def fW_ (da db dx : En -> Option Rs) (E : En) : Option Rs := match da E, db E, dx E with
 | some r, some rk, some (.val (.dat d)) => match r.at E, rk.key with
  | some (.dct _ kss), some k => match kix (kss.map (·.1)) k with
   | some i => match (kss.map (·.2))[i]? with
    | some s => r.kid i s
    | none => none
   | none => some (.val (.dat d))
  | _, _ => none
 | _, _, _ => none
theorem na_ (ha : EvP K n as ta da) (hb : EvP K n as tb db) (hc : EvP K n as tc dc) : EvP K n as (tDGet2 ta tb tc) (fW_ da db dc) := by
 intro F H σ E fp L R r' e Q q
 unfold fW_ at e
 split at e
 ·next r rk d ea eb ec =>
  split at e
  ·next l kss k es ek =>
   refine ha L R ea fun x F1 H1 f1 g1 r1 n1 o1 => ?_
   have R1 := R.grow g1
   obtain ⟨fq1, ow1⟩ := r1.own R1 es
   obtain ⟨a, kvs1, u1, fq1', rfl, hH1, hk1, rd1, hkk1, ll1, _⟩ := ow1.dct_inv rfl
   refine ⟨a, rfl, .inl ⟨kvs1, rd1⟩, hb L R1 eb fun y F2 H2 f2 g2 r2 n2 o2 => hc L (R1.grow g2) ec fun z F3 H3 f3 g3 r3 n3 o3 => ?_⟩
   have R3 := (R1.grow g2).grow g3
   have r1' := (r1.grow R1 g2).grow (R1.grow g2) g3
   have ky := r2.key ek
   subst ky
   obtain ⟨fq, ow⟩ := r1'.own R3 es
   obtain ⟨a', kvs, u, fq', ea', hH, hk, rd, hkk, ll, _⟩ := ow.dct_inv rfl
   cases ea'
   have gg : Grow F H [] F3 H3 [] := (((g1.seq0 g2).drop).seq0 g3).drop
   cases hi : kix (kss.map (·.1)) k with
   | none =>
    rw [hi] at e
    cases e
    exact ⟨none, .inl ⟨kvs, k, rd, rfl, by rw [e7_, hkk, hi]; rfl⟩, q z F3 H3 f3 (((g1.seq0 g2).drop).seq0 g3) r3 n3 o3⟩
   | some i =>
    rw [hi] at e
    dsimp only at e
    split at e
    ·next s hs =>
     obtain ⟨w, f, hw, ow2⟩ := ll.nth hs
     refine ⟨some w, .inl ⟨kvs, k, rd, rfl, by rw [e7_, hkk, hi]; exact hw.symm⟩, ?_⟩
     exact q w F3 H3 [] gg (r1'.kid R3 es hH (by rw [hk]; exact hw) hs ow2 e) List.nodup_nil (fun _ m => nomatch m)
    ·cases e
  ·cases e
 ·cases e
theorem hi_ (hl : EvL K n as tr dl) : EvE K n as (mT_ tr) (bh_ dl fun k => ae_ (aS_ (ct_ k))) := by
 have hc : ∀ vs : List V, EvE K n (as ++ vs.map some) (fun _ H Q => vs.length <= sizeLine /\ ∀ (p : Addr) (ob : Obj), H p = none -> ob.dict = none -> Q (.ref p) (upd H p (.frz ob (.tup vs)))) (ae_ (aS_ (ct_ vs.length))) := by
  intro vs F H σ E fp L R s E' e Q q
  exact aq_ (de_ (tr := tVs vs) ox_) L R e q
 intro F H σ E fp L R s E' e Q q
 exact m2_ (C := fun vs H Q => vs.length <= sizeLine /\ ∀ (p : Addr) (ob : Obj), H p = none -> ob.dict = none -> Q (.ref p) (upd H p (.frz ob (.tup vs)))) (dcc := fun k => ae_ (aS_ (ct_ k))) hl hc L R e q
variable {tt : TT} {dte : En -> Option (Bool × En)}
inductive Rx where
 | rt (s : S)
 | ex (c : Nat)
def hj_ (K : PySem.W.Frag) (m : Nat) (g : List S -> Option (Rx × List S)) : Sp := fun vs H Q EX => vs.length = m /\ ∃ F ss fp r ss', (∀ a o, F a = some o -> H a = some o) /\ OwnL K F H vs ss fp /\ fp.Nodup /\ (∀ a ∈ fp, F a = none) /\ g ss = some (r, ss') ∧
 match r with
 | .rt s => ∀ v F' H' fr fp', Grow F H fp F' H' (fr ++ fp') -> OwnL K F' H' vs ss' fp' -> Own K F' H' v s fr -> (fr ++ fp').Nodup -> (∀ a ∈ fr ++ fp', F' a = none) -> Q v H'
 | .ex c => ∀ C dX F' H' fp', pK_ K c C dX F' -> Grow F H fp F' H' fp' -> OwnL K F' H' vs ss' fp' -> fp'.Nodup -> (∀ a ∈ fp', F' a = none) -> EX (.ref C) dX H'
def jw_ (n : Nat) (d : En -> Option Out) (ss : List S) : Option (Rx × List S) := match d (entry n ss) with
 | some (.rt s E) => (cD_ (E.drop n)).map (.rt s, ·)
 | some (.nx E) => (cD_ (E.drop n)).map (.rt (.dat .none), ·)
 | some (.ex c E) => (cD_ (E.drop n)).map (.ex c, ·)
 | _ => none
def gRt (g : List S -> Option (Rx × List S)) (ss : List S) : Option (S × List S) := match g ss with
 | some (.rt s, ss') => some (s, ss')
 | _ => none
theorem iD_ {m : Nat} {g : List S -> Option (Rx × List S)} (vs : List V) (H : Hp) (Q : VK) (EX : XK) (h : dO_ K m (gRt g) vs H Q EX) : hj_ K m g vs H Q EX := by
 obtain ⟨hl, F, ss, fp, s, ss', sub, l, nd, of, hg, q⟩ := h
 unfold gRt at hg
 split at hg
 ·next s2 ss2 e =>
  cases hg
  exact ⟨hl, F, ss, fp, .rt s, ss', sub, l, nd, of, e, q⟩
 ·cases hg
section
variable {P : Program} {w : World} {mg : Str -> Option Value} {base : Heap}
theorem iE_ {x qual : Str} {st : Stmt} {f : Addr} {fd : FuncData} {N ps : List Str} {k : Nat} {dd : En -> Option Out} (Fn : Fun K x qual st f fd) (Sc : FnScope N ps (defScope st))
  (body : ∀ (cdv : Value) (A : Around) (outer : List Env) (s : Shared) (H : Hp) (EX : XK) (as : Ro), Room k (A.deeper (envOfC qual (defScope st) s.heap.objs.size f cdv)) →
   ∃ t, PSs (cxOf (L2.CX P w) P w K mg base N qual (defScope st) f cdv A outer s H EX) (defBody st) t /\ EvS K N.length as (fun c d _ H => EX c d H) t dd) :
  FnOk P w K mg base (L2.CX P w) (k + 1) f fd ps (hj_ K ps.length (jw_ N.length dd)) := by
 have hps : ps.length <= N.length := by have := congrArg List.length Sc.pre; rw [List.length_take] at this; omega
 refine Fn.okX Sc (fun vs H Q E h => h.1) (fun cdv A outer s H vs Q E hr h => ?_)
 obtain ⟨hl, F, ss, fp, r, ss', sub, l, nd, of, hg, q⟩ := h
 obtain ⟨t, h1, h2⟩ := body cdv A outer s H E (vs.map some) hr
 refine ⟨t, h1, ?_⟩
 have R := Rep.entry (N := N) sub l nd of (by omega)
 have L : (start N vs).length = N.length := by rw [b5_, List.length_append, List.length_map, List.length_replicate]; omega
 unfold jw_ at hg
 split at hg
 ·next r' E' hd =>
  obtain ⟨s2, e1, e2⟩ := Option.map_eq_some_iff.mp hg
  cases e2
  refine h2 L R hd fun v σ' F' H' fr fp' L' g R' ow nd' of' => ?_
  obtain ⟨fq, l2, n2, sb⟩ := R'.args L' e1
  have nd2 : (fr ++ fq).Nodup := aG_ (List.nodup_append.mp nd').1 n2 fun a m b m2 => (List.nodup_append.mp nd').2.2 a m b (sb b m2)
  refine q v F' H' fr fq (g.less fun a m => ?_) l2 ow nd2 fun a m => ?_
  ·rcases List.mem_append.mp m with m | m
   ·exact List.mem_append_left _ m
   ·exact List.mem_append_right _ (sb a m)
  ·rcases List.mem_append.mp m with m | m
   ·exact of' a m
   ·exact R'.off a (sb a m)
 ·next E' hd =>
  obtain ⟨s2, e1, e2⟩ := Option.map_eq_some_iff.mp hg
  cases e2
  refine h2 L R hd fun σ' F' H' fp' L' g R' => ?_
  obtain ⟨fq, l2, n2, sb⟩ := R'.args L' e1
  exact q .non F' H' [] fq (g.less fun a m => sb a (by simpa using m)) l2 (.dat .non) (by simpa using n2) fun a m => R'.off a (sb a (by simpa using m))
 ·next c E' hd =>
  obtain ⟨s2, e1, e2⟩ := Option.map_eq_some_iff.mp hg
  cases e2
  refine h2 L R hd fun C dX σ' F' H' fp' hC L' g R' => ?_
  obtain ⟨fq, l2, n2, sb⟩ := R'.args L' e1
  exact q C dX F' H' fq hC (g.less sb) l2 n2 fun a m => R'.off a (sb a m)
 ·cases hg
end
def EvX (K : PySem.W.Frag) (n : Nat) (as : Ro) (W : WXm) (te : TE) (d : En -> Option (Rx × En)) : Prop :=
 ∀ {F H : Hp} {σ : L2.St} {E : En} {fp : List Addr}, σ.length = n -> Rep K F H (σ ++ as) E fp -> ∀ {r : Rx} {E' : En}, d E = some (r, E') -> ∀ {Q : VK},
  (match r with
   | .rt s => ∀ v F' H' fr fp', Grow F H fp F' H' (fr ++ fp') -> Rep K F' H' (σ ++ as) E' fp' -> Own K F' H' v s fr -> (fr ++ fp').Nodup -> (∀ a ∈ fr, F' a = none) -> Q v H'
   | .ex c => ∀ C dX F' H' fp', pK_ K c C dX F' -> Grow F H fp F' H' fp' -> Rep K F' H' (σ ++ as) E' fp' -> W (.ref C) dX σ H') -> te σ H Q
def eW_ (g : List S -> Option (Rx × List S)) (dr : En -> Option (List Rs)) (E : En) : Option (Rx × En) := match dr E with
 | some rs => if bf_ rs = true then match hQ_ E rs with
   | some ss => match g ss with
    | some (r, ss') => some (r, bK_ (aF_ E rs ss') rs)
    | none => none
   | none => none
  else none
 | none => none
theorem et_ {rs : List Rs} {fr fa fh : List Addr} {E1 : En} (R1 : Rep K F1 H1 ρ E fp) (a : RsAll K F1 H1 ρ E vs rs fr) (ok : bf_ rs = true) (nd : (fr ++ fp).Nodup) (offAll : ∀ b ∈ fr ++ fp, F1 b = none)
  (c1 : Core K F1 H1 ρ E1 fh) (pm : (fr ++ fp).Perm (fa ++ fh)) (keep : ∀ q, (aZ_ E q).isSome = true -> (∀ p, Rs.pl p ∈ rs -> a3_ p q = false) -> (aZ_ E1 q).isSome = true)
  (close : ∀ F' H' ss' fa', Core K F' H' ρ E1 fh -> OwnL K F' H' vs ss' fa' -> ∃ fz fd, Core K F' H' ρ (aF_ E rs ss') (fz ++ fh) /\ fa'.Perm (fz ++ fd))
  {ss' : List S} {fr2 fa2 : List Addr} (g2 : Grow F1 H1 fa F2 H2 (fr2 ++ fa2)) (l2 : OwnL K F2 H2 vs ss' fa2) (nd2 : (fr2 ++ fa2).Nodup) (of2 : ∀ b ∈ fr2 ++ fa2, F2 b = none) :
  ∃ fz, Rep K F2 H2 ρ (bK_ (aF_ E rs ss') rs) (fz ++ fh) /\ Grow F1 H1 (fa ++ fh) F2 H2 (fr2 ++ (fz ++ fh)) /\ (fr2 ++ (fz ++ fh)).Nodup := by
 have ndall : (fa ++ fh).Nodup := pm.nodup_iff.mp nd
 have memH : ∀ b ∈ fh, b ∈ fr ++ fp := fun b m => pm.mem_iff.mpr (List.mem_append_right _ m)
 have dj : ∀ b ∈ fh, b ∉ fa := fun b m1 m2 => (List.nodup_append.mp ndall).2.2 b m2 b m1 rfl
 have keepH : ∀ b ∈ fh, ∀ o, H1 b = some o -> H2 b = some o := fun b m o e => g2.keep b o e (dj b m)
 have c2 := c1.frame g2.f g2.sub keepH
 obtain ⟨fz, fd, c3, pz⟩ := close F2 H2 ss' fa2 c2 l2
 have subz : ∀ b ∈ fz, b ∈ fa2 := fun b m => pz.mem_iff.mpr (List.mem_append_left _ m)
 have thereH : ∀ b ∈ fh, ∃ o, H1 b = some o := c1.there
 have notnew : ∀ b ∈ fh, b ∉ fr2 ++ fa2 := fun b m m2 => by
  obtain ⟨o, eo⟩ := thereH b m
  rcases g2.new b m2 with z | z
  ·exact dj b m z
  ·rw [eo] at z; cases z
 have ndz : (fz ++ fh).Nodup := by
  have n1 := (List.nodup_append.mp nd2).2.1
  exact aG_ (List.nodup_append.mp (pz.nodup_iff.mp n1)).1 (List.nodup_append.mp ndall).2.1 fun b m c mc e => by
   subst e
   exact notnew b mc (List.mem_append_right _ (subz b m))
 have R2 : Rep K F2 H2 ρ (bK_ (aF_ E rs ss') rs) (fz ++ fh) := by
  refine ⟨cy_ c3, g2.sub, ndz, fun b m => ?_, fun i p hb => ?_⟩
  ·rcases List.mem_append.mp m with m | m
   ·exact of2 b (List.mem_append_right _ (subz b m))
   ·obtain ⟨o, eo⟩ := thereH b m
    exact g2.off b (by rw [eo]; exact fun z => nomatch z) (dj b m) (offAll b (memH b m))
  ·obtain ⟨hb1, hb2⟩ := cT_ hb
   have hb3 := dx_ hb1
   obtain ⟨w, k1, k2, k3⟩ := R1.bor i p hb3
   have k4 := keep p k3 hb2
   obtain ⟨t4, ht4⟩ := Option.isSome_iff_exists.mp k4
   refine ⟨w, k1, by rw [c1.follow_keep (fun b o e => g2.sub b o (g2.f b o e)) ht4 keepH]; exact k2, ?_⟩
   rw [cS_]
   have go : ∀ (rs : List Rs) (ss : List S) (E : En), (aZ_ E p).isSome = true -> (∀ q, Rs.pl q ∈ rs -> (aZ_ E q).isSome = true) -> bf_ rs = true -> (∀ q, Rs.pl q ∈ rs -> a3_ q p = false) -> (aZ_ (aF_ E rs ss) p).isSome = true := by
    intro rs
    induction rs with
    | nil => intro ss E h _ _ _; simpa [aF_] using h
    | cons r rs ih =>
     intro ss E h hp ok hw
     cases ss with
     | nil => cases r <;> simpa [aF_] using h
     | cons s ss =>
      cases r with
      | val _ =>
       simp only [aF_]
       exact ih ss E h (fun q m => hp q (List.mem_cons_of_mem _ m)) (by simpa only [bf_] using ok) fun q m => hw q (List.mem_cons_of_mem _ m)
      | pl q0 =>
       simp only [bf_, Bool.and_eq_true] at ok
       simp only [aF_]
       obtain ⟨t0, ht0⟩ := Option.isSome_iff_exists.mp (hp q0 List.mem_cons_self)
       exact ih ss (bA_ E q0 s) (hR_ ht0 h (hw q0 List.mem_cons_self)) (fun q m => by rw [bI_ (bX_ ok.1 m)]; exact hp q (List.mem_cons_of_mem _ m)) ok.2 fun q m => hw q (List.mem_cons_of_mem _ m)
   exact go rs ss' E k3 a.places ok hb2
 refine ⟨fz, R2, g2.wide (fun b m => List.mem_append_left _ m) fun b m => ?_, ?_⟩
 ·rcases List.mem_append.mp m with m | m
  ·exact (g2.new b (List.mem_append_left _ m)).imp (fun z => List.mem_append_left _ z) id
  ·rcases List.mem_append.mp m with m | m
   ·exact (g2.new b (List.mem_append_right _ (subz b m))).imp (fun z => List.mem_append_left _ z) id
   ·exact .inl (List.mem_append_right _ m)
 ·refine aG_ (List.nodup_append.mp nd2).1 ndz fun b m c mc e => ?_
  subst e
  rcases List.mem_append.mp mc with mc | mc
  ·exact (List.nodup_append.mp nd2).2.2 b m b (subz b mc) rfl
  ·exact notnew b mc (List.mem_append_left _ m)
theorem iF_ {m : Nat} {g : List S -> Option (Rx × List S)} (hr : EvA K n as tr dr) (hm : ∀ E rs, dr E = some rs -> rs.length = m) : EvX K n as W (tCallS (hj_ K m g) (WE W) tr) (eW_ g dr) := by
 intro F H σ E fp L R r E' e Q q
 unfold eW_ at e
 split at e
 ·next rs ers =>
  split at e
  ·next ok =>
   split at e
   ·next ss ess =>
    split at e
    ·next r' ss' eg =>
     cases e
     refine hr L R ers fun vs F1 H1 fr g1 a nd of => ?_
     have R1 := R.grow g1
     obtain ⟨fa, fh, E1, l, c1, pm, keep, close⟩ := fg_ a R1.core ok ess
     have ndn := R1
     have nda := R.apart_new g1 nd
     have ndall : (fa ++ fh).Nodup := pm.nodup_iff.mp nda
     have memA : ∀ b ∈ fa, b ∈ fr ++ fp := fun b m => pm.mem_iff.mpr (List.mem_append_left _ m)
     have offAll : ∀ b ∈ fr ++ fp, F1 b = none := fun b m => (List.mem_append.mp m).elim (of b) (R1.off b)
     have g1' : Grow F H fp F1 H1 (fa ++ fh) := (g1.ours fp).less fun b m => pm.mem_iff.mpr m
     refine ⟨by rw [l.length, gg_ ess, hm E rs ers], F1, ss, fa, r, ss', g1.sub, l, (List.nodup_append.mp ndall).1, fun b m => offAll b (memA b m), eg, ?_⟩
     cases r with
     | rt s =>
      refine fun v F2 H2 fr2 fa2 g2 l2 ow nd2 of2 => ?_
      obtain ⟨fz, R2, gg, nn⟩ := et_ R1 a ok nda offAll c1 pm keep close g2 l2 nd2 of2
      exact q v F2 H2 fr2 (fz ++ fh) (g1'.trans gg) R2 ow nn fun b m => of2 b (List.mem_append_left _ m)
     | ex c =>
      refine fun C dX F2 H2 fa2 hC g2 l2 nd2 of2 => ?_
      obtain ⟨fz, R2, gg, nn⟩ := et_ (fr2 := []) R1 a ok nda offAll c1 pm keep close g2 l2 nd2 of2
      exact q C dX F2 H2 (fz ++ fh) hC (g1'.trans gg) R2
    ·cases e
   ·cases e
  ·cases e
 ·cases e
def fl_ (d : En -> Option (Rx × En)) (E : En) : Option Out := match d E with
 | some (.rt _, E') => some (.nx E')
 | some (.ex c, E') => some (.ex c E')
 | none => none
theorem nb_ {dx : En -> Option (Rx × En)} (h : EvX K n as W te dx) : EvS K n as W (tDrop te) (fl_ dx) := by
 intro F H σ E fp L R o e D g
 unfold fl_ at e
 split at e
 ·next s E' ed =>
  cases e
  exact h L R ed fun v F1 H1 fr fp1 g1 R1 ow nd of => g σ F1 H1 fp1 L (g1.less fun a m => List.mem_append_right _ m) R1
 ·next c E' ed =>
  cases e
  exact h L R ed fun C dX F1 H1 fp1 hC g1 R1 => g C dX σ F1 H1 fp1 hC L g1 R1
 ·cases e
def j5_ (d : En -> Option (Rx × En)) (E : En) : Option Out := match d E with
 | some (.rt s, E') => some (.rt s E')
 | some (.ex c, E') => some (.ex c E')
 | none => none
theorem oD_ {dx : En -> Option (Rx × En)} (h : EvX K n as W te dx) : EvS K n as W (tRet te) (j5_ dx) := by
 intro F H σ E fp L R o e D g
 unfold j5_ at e
 split at e
 ·next s E' ed =>
  cases e
  exact h L R ed fun v F1 H1 fr fp1 g1 R1 ow nd of => g v σ F1 H1 fr fp1 L g1 R1 ow nd of
 ·next c E' ed =>
  cases e
  exact h L R ed fun C dX F1 H1 fp1 hC g1 R1 => g C dX σ F1 H1 fp1 hC L g1 R1
 ·cases e
def mm_ (c : Nat) (E : En) : Option Out := some (.ex c E)
theorem nc_ {c : Nat} {C : Addr} (hC : clsOf K c C) (hlt : c < 1000 := by decide) : EvS K n as W (fun _ σ H => W (.ref C) none σ H) (mm_ c) := by
 intro F H σ E fp L R o e D g
 cases e
 exact g C none σ F H fp (.inl ⟨hlt, hC, rfl⟩) L (.refl R.sub fp) R
end Mv
set_option maxHeartbeats 6400000
namespace PySem
open PySem.W PySem.SeqAt PyProof.Rows
end PySem
namespace L2
open PySem PySem.Spec PyProof.Rows PySem.W PySem.SeqAt
section
variable {X : Cx}
def gStar (K : PySem.W.Frag) (i j : Nat) : TG := fun v σ H Q => ∃ a x xs, v = .ref a /\ SqT K H a (x :: xs) /\ ∀ p, H p = none -> Q ((σ.set i (some x)).set j (some (.ref p))) (upd H p (.lst xs))
end
end L2
set_option maxHeartbeats 4000000
namespace Mv
open PySem PySem.Spec PyProof.Rows L2
variable {K : PySem.W.Frag} {F F' F1 F2 F3 H H' H1 H2 H3 : Hp} {v u x y w : V} {vs ws xs : List V} {s t c : S} {ss tts : List S} {fp fq fr fp' fp1 fp2 f1 f2 : List Addr} {ρ as : Ro} {E E' : En} {n : Nat}
variable {W : WXm} {te ta tb tc tk tv td : TE} {d da db dc dk dv : En -> Option Rs} {tr : TA} {dr : En -> Option (List Rs)} {de df : En -> Option (S × En)} {tt : TT} {dte : En -> Option (Bool × En)} {Q : VK} {dl : En -> Option (Nat × En)}
def qS_ (K : PySem.W.Frag) (ta : TE) : TT := fun σ H Q => ta σ H fun x H' => ∃ k, TruV K x H' k /\ Q k H'
variable {js : List Nat}
theorem ec_ (σ : L2.St) : ∀ (js : List Nat) (i : Nat), (wipe σ js)[i]? = if i ∈ js then (if i < σ.length then some none else none) else σ[i]?
 | [], i => by simp [wipe]
 | j :: js, i => by
  unfold wipe
  have ih := ec_ σ js i
  have hl := wipe_length σ js
  by_cases ij : j = i
  ·subst ij
   by_cases h : j < σ.length
   ·rw [List.getElem?_set_self (by omega)]; simp [h]
   ·rw [List.getElem?_eq_none (by rw [List.length_set]; omega)]; simp [h]
  ·rw [List.getElem?_set_ne ij, ih]
   have : i ≠ j := fun z => ij z.symm
   simp [this]
theorem j6_ (σ : L2.St) (js : List Nat) : wipe (wipe σ js) js = wipe σ js := by
 apply List.ext_getElem?
 intro i
 rw [ec_, ec_]
 by_cases h : i ∈ js
 ·simp [h, wipe_length]
 ·simp [h]
theorem iG_ {σ : L2.St} {i : Nat} {o : Option V} (h : i ∈ js) : wipe (σ.set i o) js = wipe σ js := by
 apply List.ext_getElem?
 intro k
 rw [ec_, ec_, List.length_set]
 by_cases hk : k ∈ js
 ·simp [hk]
 ·have : i ≠ k := fun z => hk (z ▸ h)
  simp [hk, List.getElem?_set_ne this]
def dh_ (E : En) : List Nat -> En
 | [] => E
 | j :: js => ak_ (dh_ E js) j .no
theorem hW_ (E : En) (i : Nat) (e : Sl) : (ak_ E i e).length = E.length := by unfold ak_; simp
theorem iH_ : ∀ {js : List Nat} {E : En}, (∀ j ∈ js, j < E.length) -> ∀ j ∈ js, (dh_ E js)[j]? = some Sl.no
 | [], _, _, _, m => nomatch m
 | i :: js, E, h, j, m => by
  have len : ∀ (l : List Nat), (dh_ E l).length = E.length := fun l => by
   induction l with
   | nil => rfl
   | cons a r ih => unfold dh_; rw [hW_, ih]
  unfold dh_
  by_cases ij : i = j
  ·subst ij
   unfold ak_
   rw [List.getElem?_set_self (by rw [List.length_map, len]; exact h i List.mem_cons_self)]
  ·have m2 : j ∈ js := (List.mem_cons.mp m).resolve_left fun z => ij z.symm
   have ih := iH_ (fun k hk => h k (List.mem_cons_of_mem _ hk)) j m2
   unfold ak_
   rw [List.getElem?_set_ne ij, List.getElem?_map, ih]; rfl
theorem Rep.wipeN {σ : L2.St} (R : Rep K F H (σ ++ as) E fp) : ∀ (js : List Nat), (∀ j ∈ js, j < σ.length) -> ∃ fq, Rep K F H (L2.wipe σ js ++ as) (dh_ E js) fq /\ ∀ a ∈ fq, a ∈ fp
 | [], _ => ⟨fp, R, fun _ m => m⟩
 | j :: js, h => by
  obtain ⟨fq, R1, sb⟩ := Rep.wipeN R js fun k hk => h k (List.mem_cons_of_mem _ hk)
  have hj : j < (L2.wipe σ js).length := by rw [L2.wipe_length]; exact h j List.mem_cons_self
  obtain ⟨f2, R2, sb2⟩ := R1.wipe (j := j) (by rw [List.length_append]; omega) none
  rw [<- bC_ hj] at R2
  exact ⟨f2, R2, fun a m => sb a (sb2 a m)⟩
theorem Rep.unwipe {σ : L2.St} : ∀ {js : List Nat} {E : En} {fp : List Addr}, Rep K F H (L2.wipe σ js ++ as) E fp -> (∀ j ∈ js, j < σ.length) -> (∀ j ∈ js, E[j]? = some Sl.no) -> Rep K F H (σ ++ as) E fp
 | [], E, fp, R, _, _ => R
 | j :: js, E, fp, R, h, hn => by
  have hj : j < (L2.wipe σ js).length := by rw [L2.wipe_length]; exact h j List.mem_cons_self
  have R1 := Rep.forget (((L2.wipe σ js))[j]?.getD none) (show Rep K F H ((L2.wipe σ js).set j none ++ as) E fp from R) (hn j List.mem_cons_self)
  rw [<- bC_ (by rw [List.length_set]; exact hj), List.set_set] at R1
  have back : (L2.wipe σ js).set j ((L2.wipe σ js)[j]?.getD none) = L2.wipe σ js := by
   apply List.ext_getElem?
   intro i
   by_cases ij : j = i
   ·subst ij
    rw [List.getElem?_set_self hj, List.getElem?_eq_getElem hj]; rfl
   ·rw [List.getElem?_set_ne ij]
  rw [back] at R1
  exact Rep.unwipe R1 (fun k hk => h k (List.mem_cons_of_mem _ hk)) fun k hk => hn k (List.mem_cons_of_mem _ hk)
def qJ_ (K : PySem.W.Frag) (n : Nat) (js : List Nat) (g : TG) (bd : Rs -> En -> Option En) : Prop :=
 ∀ {as : Ro} {F H : Hp} {σ : L2.St} {E E' : En} {fp : List Addr} {v : V} {r : Rs}, σ.length = n -> Rep K F H (σ ++ as) E fp -> RsAt K F H (σ ++ as) E v r [] -> bd r E = some E' -> ∀ {Q : L2.St -> Hp -> Prop},
  (∀ (σ' : L2.St) F' H' fp', σ'.length = n -> wipe σ' js = wipe σ js -> Grow F H fp F' H' fp' -> Rep K F' H' (σ' ++ as) E' fp' -> Q σ' H') -> g v σ H Q
theorem j7_ {i : Nat} (hi : i < n) (hm : i ∈ js) : qJ_ K n js (gName i) (au_ i) := by
 intro as F H σ E E' fp v r L R a e Q q
 have hl : i < (σ ++ as).length := by rw [List.length_append]; omega
 cases r with
 | val s =>
  cases e
  obtain ⟨fq, R2, sb⟩ := R.setSlot (e := .own s) (fr := []) hl a R.nd (fun _ m => nomatch m)
  exact q _ F H fq (by rw [List.length_set]; exact L) (iG_ hm) ((Grow.refl R.sub fp).less fun a m => by simpa using sb a m) (by rw [bC_ (by omega)]; exact R2)
 | pl p =>
  unfold au_ at e
  dsimp only at e
  split at e
  ·cases e
  ·next hp =>
   cases e
   obtain ⟨a1, a2, a3⟩ := a
   obtain ⟨fq, R2, sb⟩ := R.setSlot (e := .bor p) (fr := []) hl ⟨rfl, hp, a2, a3⟩ R.nd (fun _ m => nomatch m)
   exact q _ F H fq (by rw [List.length_set]; exact L) (iG_ hm) ((Grow.refl R.sub fp).less fun a m => by simpa using sb a m) (by rw [bC_ (by omega)]; exact R2)
def lt_ (K : PySem.W.Frag) (n : Nat) (js : List Nat) (g : TGs) (bd : List PyData -> En -> Option En) : Prop :=
 ∀ {as : Ro} {F H : Hp} {σ : L2.St} {E E' : En} {fp : List Addr} {vs : List V} {ds : List PyData}, σ.length = n -> Rep K F H (σ ++ as) E fp -> DqAll K F vs ds -> bd ds E = some E' -> ∀ {Q : L2.St -> Hp -> Prop},
  (∀ (σ' : L2.St) F' H' fp', σ'.length = n -> wipe σ' js = wipe σ js -> Grow F H fp F' H' fp' -> Rep K F' H' (σ' ++ as) E' fp' -> Q σ' H') -> g vs σ H Q
theorem nd_ : lt_ K n js gNil e6_ := by
 intro as F H σ E E' fp vs ds L R a e Q q
 cases a with
 | nil => cases e; exact ⟨rfl, q σ F H fp L rfl (.refl R.sub fp) R⟩
 | cons _ _ => cases e
theorem iI_ {g : TG} {gs : TGs} {b : Rs -> En -> Option En} {bs : List PyData -> En -> Option En} (hg : qJ_ K n js g b) (hs : lt_ K n js gs bs) : lt_ K n js (gCons g gs) (aX_ b bs) := by
 intro as F H σ E E' fp vs ds L R a e Q q
 cases a with
 | nil => cases e
 | @cons v vs d ds h t =>
  simp only [aX_] at e
  split at e
  ·next E1 e1 =>
   exact ⟨v, vs, rfl, hg L R (r := .val (.dat d)) (Own.dat h) e1 fun σ1 F1 H1 fp1 L1 w1 g1 R1 => hs L1 R1 (DqAll.mono g1.f t) e fun σ2 F2 H2 fp2 L2 w2 g2 R2 => q σ2 F2 H2 fp2 L2 (w2.trans w1) (g1.trans g2) R2⟩
  ·cases e
end Mv
set_option maxHeartbeats 6400000
namespace L2
open PySem PySem.Spec PyProof.Rows
end L2
namespace PySem
theorem hX_ (l : Addr) (items : Array Value) (n : Nat) (dd : Option Addr) (sl : Array (Option Value)) (b : Addr) (items2 : Array Value) (n2 : Nat) (dd2 : Option Addr) (sl2 : Array (Option Value)) (hc0 : items.size + items2.size <= sizeLine) :
  Meets (Builtin.«list.__add__» ⟨[.ref l, .ref b], []⟩) (fun _ R s => s.heap.get? l = some { cls := .type "list", dict := dd, data := .seq items n, slots := sl } /\ s.heap.get? b = some { cls := .type "list", dict := dd2, data := .seq items2 n2, slots := sl2 } /\ R (.ok (.ret (Value.ref s.heap.objs.size))) { s with heap := s.heap.push { cls := Value.type "list", data := Data.seq (items ++ items2) }, toks := s.toks }) :=
 .of_wp fun prog w A R s h => by obtain ⟨hp, g, d, tk, os⟩ := s; obtain ⟨hl, hb, h⟩ := h; have f1 := AutoSeq1.idx_int; have f2 := AutoSeq1.sub_tuple_tuple; have f3 := AutoSeq1.sub_list_list; have f4 := AutoSeq1.sub_tuple_list; have f5 := AutoSeq1.sub_list_tuple; wp_walk using AutoSeq1.wpAny_loadPart' hl, AutoSeq1.wpAny_loadPart' hb; exact ⟨_, rfl, h⟩
end PySem
namespace L2
open PySem PySem.Spec PyProof.Rows
section
variable {X : Cx}
def dV_ (K : PySem.W.Frag) : R2 := fun x y H Q => ∃ l b xs zs, x = .ref l /\ y = .ref b /\ SqL K H l xs /\ SqL K H b zs /\ xs.length + zs.length <= sizeLine /\ ∀ p, H p = none -> Q (.ref p) (upd H p (.lst (xs ++ zs)))
theorem bM_ : OpR X (binaryOp .Add) (dV_ X.K) := by
 intro pins s σ H x y v u Q I rx ry h
 obtain ⟨l, b, xs, zs, rfl, rfl, hH, hB, hz, q⟩ := h
 cases rx
 cases ry
 obtain ⟨its, r, ⟨⟨c1, d1, t1, s1⟩, n, e, hc, hd, hs⟩, z⟩ := I.list hH
 obtain ⟨its2, r2, ⟨⟨c2, d2, t2, s2⟩, n2, e2, hc2, hd2, hs2⟩, z2⟩ := I.list hB
 simp only at hc hd hs hc2 hd2 hs2
 subst hc hd hs hc2 hd2 hs2
 have l1 := r.length
 have l2 := r2.length
 refine concat_meets ⟨_, e, rfl⟩ ⟨_, e2, rfl⟩ noFill_list_add seq_list_add PySem.F.slot_list_add PySem.F.entry_list_add (PySem.F.args_list_add_2 _ _) (hX_ l its.toArray n none s1 b its2.toArray n2 none s2 (by rw [List.size_toArray, List.size_toArray]; omega)) ⟨e, e2, ?_⟩
 have ea : its.toArray ++ its2.toArray = (its ++ its2).toArray := by simp
 rw [ea]
 exact ⟨.ref _, _, I.lnew (t' := s.toks) (r.append r2) (by rw [List.length_append]; omega), rfl, q _ I.fresh⟩
end
end L2
namespace L2
open PySem PySem.Spec PyProof.Rows
end L2
set_option maxHeartbeats 1000000
namespace L2
open PySem PySem.Spec PyProof.Rows
end L2
set_option maxHeartbeats 4000000
namespace Mv
open PySem PySem.Spec PyProof.Rows L2
variable {K : PySem.W.Frag} {F F' F1 F2 F3 H H' H1 H2 H3 : Hp} {v u x y w : V} {vs ws xs : List V} {s t c : S} {ss tts : List S} {fp fq fr fp' fp1 fp2 f1 f2 : List Addr} {ρ as : Ro} {E E' : En} {n : Nat}
variable {W : WXm} {te ta tb tc tk tv td : TE} {d da db dc dk dv : En -> Option Rs} {tr : TA} {dr : En -> Option (List Rs)} {de df : En -> Option (S × En)} {tt : TT} {dte : En -> Option (Bool × En)} {Q : VK} {dl : En -> Option (Nat × En)} {js : List Nat} {ds : List PyData}
def b0_ (a b : S) : Option S := match a.seqL with
 | some ds => match b.seqL with
  | some es => if ds.length + es.length < 100000 then some (.lst ((ds ++ es).map S.dat)) else none
  | none => none
 | none => none
theorem bN_ : ou_ K (dV_ K) b0_ := by
 intro F H x y a b c f1 f2 sub o1 o2 e Q m
 unfold b0_ at e
 split at e
 ·next ds e1 =>
  split at e
  ·next es e2 =>
   split at e
   ·next hl =>
    cases e
    obtain ⟨l, xs, rfl, h1, da1⟩ := o1.sqL sub e1
    obtain ⟨l', zs, rfl, h2, da2⟩ := o2.sqL sub e2
    refine ⟨l, l', xs, zs, rfl, rfl, h1, h2, by rw [Mv.DqAll.len da1, Mv.DqAll.len da2, sizeLine_eq]; omega, hb_ sub ?_ m⟩
    rw [List.map_append]
    simpa using (ea_ da1).append (ea_ da2)
   ·cases e
  ·cases e
 ·cases e
def ne_ (neg : Bool) (a b : S) : Option S := match a with
 | .dat d => match b.seqL with
  | some es => if SeqAt.shaped d = true /\ SeqAt.shaped (.list es) = true then some (.dat (.bool ((es.any fun z => PyData.eqv z d) != neg))) else none
  | none => none
 | _ => none
theorem oE_ : ou_ K (rInD K) (ne_ false) := by
 intro F H x y a b c f1 f2 sub o1 o2 e Q m
 unfold ne_ at e
 split at e
 ·next d =>
  split at e
  ·next es hs =>
   split at e
   ·next h =>
    cases e
    obtain ⟨l, xs, rfl, h1, da1⟩ := o2.sqL sub hs
    refine ⟨d, es, (Dq.mono sub (o1.dat_inv rfl).1).dp, .lst h1 (DqAll.mono sub da1).dp, h.1, h.2, ?_⟩
    rw [Bool.bne_false] at m
    exact hc_ sub (.bl _) m
   ·cases e
  ·cases e
 ·cases e
def di_ (da : En -> Option Rs) (dr : En -> Option (List Rs)) (E : En) : Option (List Rs) := match da E, dr E with
 | some r, some rs => match r.at E with
  | some s => match (s.seqL <|> s.seqT) with
   | some ds => some (ds.map (fun d => .val (.dat d)) ++ rs)
   | none => none
  | none => none
 | _, _ => none
theorem nf_ (da : DqAll K F xs ds) {rs : List Rs} {ys : List V} {f : List Addr} (a : RsAll K F H ρ E ys rs f) : RsAll K F H ρ E (xs ++ ys) (ds.map (fun d => Rs.val (.dat d)) ++ rs) f := by
 induction xs generalizing ds with
 | nil => cases da; exact a
 | cons x xs ih => cases da with
  | cons h t => exact RsAll.cons (f := []) (Own.dat h) (ih t)
theorem j8_ (ha : EvP K n as ta da) (hr : EvA K n as tr dr) : EvA K n as (StX.tStar K ta tr) (di_ da dr) := by
 intro F H σ E fp L R rs e Q q
 unfold di_ at e
 split at e
 ·next r rs' ea er =>
  split at e
  ·next s es =>
   split at e
   ·next ds hd =>
    cases e
    refine ha L R ea fun v F1 H1 f1 g1 a1 n1 o1 => ?_
    have R1 := R.grow g1
    obtain ⟨fq, ow⟩ := a1.own R1 es
    obtain ⟨a, xs, rfl, hq, dd⟩ := ow.sq R1.sub hd
    refine ⟨a, xs, rfl, hq.symm, hr L R1 er fun ys F2 H2 f2 g2 a2 n2 o2 => ?_⟩
    exact q (xs ++ ys) F2 H2 f2 (by simpa using g1.drop.seq0 g2) (nf_ (DqAll.mono g2.f dd) a2) n2 o2
   ·cases e
  ·cases e
 ·cases e
def hk_ : List (V × V) -> List V
 | [] => []
 | (x, y) :: r => x :: y :: hk_ r
def EvD (K : PySem.W.Frag) (n : Nat) (as : Ro) (trs : List (TE × TE)) (dl : En -> Option (Nat × En)) : Prop :=
 ∀ {F H : Hp} {σ : L2.St} {E : En} {fp : List Addr}, σ.length = n -> Rep K F H (σ ++ as) E fp -> ∀ {k : Nat} {E' : En}, dl E = some (k, E') -> ∀ {Q : List (V × V) -> Hp -> Prop},
  (∀ ps F' H' fp', (hk_ ps).length = k -> Grow F H fp F' H' fp' -> Rep K F' H' (σ ++ (as ++ (hk_ ps).map some)) E' fp' -> Q ps H') -> tPairs trs σ H Q
theorem qa_ : EvD K n as [] aJ_ := by
 intro F H σ E fp L R k E' e Q q
 cases e
 exact q [] F H fp rfl (.refl R.sub fp) (by simpa [hk_] using R)
def cO_ (dk dv : En -> Option (S × En)) (dl : En -> Option (Nat × En)) (E : En) : Option (Nat × En) := match dk E with
 | some (sk, E1) => match dv (E1 ++ [.own sk]) with
  | some (sv, E2) => up1 (up1 (dl (E2 ++ [.own sv])))
  | none => none
 | none => none
theorem ed_ {trs : List (TE × TE)} (hk : EvE K n as tk de) (hv : ∀ as, EvE K n as tv df) (hr : ∀ as, EvD K n as trs dl) : EvD K n as ((tk, tv) :: trs) (cO_ de df dl) := by
 intro F H σ E fp L R k E' e Q q
 unfold cO_ at e
 split at e
 ·next sk E1 ek =>
  split at e
  ·next sv E2 ev =>
   obtain ⟨⟨k1, E3⟩, e2, e3⟩ := Option.map_eq_some_iff.mp e
   obtain ⟨⟨k2, E4⟩, e4, e5⟩ := Option.map_eq_some_iff.mp e2
   cases e3
   cases e5
   refine hk L R ek fun v F1 H1 fr fp1 g1 R1 ov nd of => hv (as ++ [some v]) L (R1.push ov nd of) ev fun w F2 H2 fr2 fp2 g2 R2 ov2 nd2 of2 => hr (as ++ [some v] ++ [some w]) L (R2.push ov2 nd2 of2) e4 fun ps F3 H3 fp3 hk3 g3 R3 => ?_
   exact q ((v, w) :: ps) F3 H3 fp3 (by simp [hk_, hk3]) (g1.trans (g2.trans g3)) (by simpa [hk_] using R3)
  ·cases e
 ·cases e
def kvS : List S -> Option (List (Key × S))
 | [] => some []
 | k :: v :: r => match p6_ k, kvS r with
  | some k, some m => some ((k, v) :: m)
  | _, _ => none
 | _ => none
theorem ng_ {k : Key} (o : Own K F H v s fp) (h : p6_ s = some k) : v = kV k /\ fp = [] := by
 cases s with
 | dat d =>
  obtain ⟨dd, hf⟩ := o.dat_inv rfl
  cases d with
  | int i => cases h; cases dd; exact ⟨rfl, hf⟩
  | str x => cases h; cases dd; exact ⟨rfl, hf⟩
  | _ => cases h
 | _ => cases h
theorem mn_ : ∀ {ps : List (V × V)} {ss : List S} {fp : List Addr} {kss : List (Key × S)}, OwnL K F H (hk_ ps) ss fp -> kvS ss = some kss -> ∃ kvs : List (Key × V), ps = kvs.map (fun kv => (kV kv.1, kv.2)) /\ kvs.map (·.1) = kss.map (·.1) /\ OwnL K F H (kvs.map (·.2)) (kss.map (·.2)) fp
 | [], ss, fp, kss, o, h => by
  cases o
  cases h
  exact ⟨[], rfl, rfl, .nil⟩
 | (x, y) :: ps, ss, fp, kss, o, h => by
  cases o with
  | @cons _ _ s1 ss1 g1 g2 o1 o2 =>
   cases o2 with
   | @cons _ _ s2 ss2 g3 g4 o3 o4 =>
    simp only [kvS] at h
    split at h
    ·next k m ek em =>
     cases h
     obtain ⟨rfl, rfl⟩ := ng_ o1 ek
     obtain ⟨kvs, e1, e2, l⟩ := mn_ o4 em
     refine ⟨(k, y) :: kvs, by rw [e1]; rfl, by rw [List.map_cons, List.map_cons, e2], ?_⟩
     rw [List.map_cons, List.map_cons, List.nil_append]
     exact .cons o3 l
    ·cases h
theorem eK_ : ∀ (more acc : List (Key × V)), ((acc ++ more).map (·.1)).Nodup -> mergeK acc more = acc ++ more
 | [], acc, _ => by show acc = _; simp
 | p :: r, acc, nd => by
  have e : putK acc p.1 p.2 = acc ++ [p] := by
   have ndA : (acc.map (·.1)).Nodup := by
    rw [List.map_append] at nd
    exact (List.nodup_append.mp nd).1
   rw [lp_ _ _ ndA]
   unfold p5_
   have : kix (acc.map (·.1)) p.1 = none := by
    cases h : kix (acc.map (·.1)) p.1 with
    | none => rfl
    | some i =>
     exfalso
     have go : ∀ (ks : List Key) (i : Nat), kix ks p.1 = some i -> p.1 ∈ ks := by
      intro ks
      induction ks with
      | nil => intro i h; simp [kix] at h
      | cons a r ih =>
       intro i h
       unfold kix at h
       split at h
       ·next e => rw [e]; exact List.mem_cons_self
       ·obtain ⟨j, hj, _⟩ := Option.map_eq_some_iff.mp h
        exact List.mem_cons_of_mem _ (ih j hj)
     have m := go _ _ h
     rw [List.map_append, List.map_cons] at nd
     exact (List.nodup_append.mp nd).2.2 p.1 m p.1 List.mem_cons_self rfl
   rw [this]
  show mergeK (putK acc p.1 p.2) r = acc ++ p :: r
  rw [e, eK_ r (acc ++ [p]) (by rw [List.append_assoc]; exact nd), List.append_assoc]
  rfl
def lu_ (dl : En -> Option (Nat × En)) (E : En) : Option (S × En) := match dl (E ++ [.own (.dct false [])]) with
 | some (k, E1) => match jX_ (k + 1) E1 with
  | some (.dct false [] :: ss, E2) => match kvS ss with
   | some kss => if iy_ (kss.map (·.1)) = true /\ kss.length <= 15 then some (.dct false kss, E2) else none
   | none => none
  | _ => none
 | none => none
theorem oF_ {trs : List (TE × TE)} (hl : ∀ as, EvD K n as trs dl) : EvE K n as (tDisp trs) (lu_ dl) := by
 intro F H σ E fp L R s E' e Q q
 unfold lu_ at e
 split at e
 ·next k E1 el =>
  split at e
  ·next ss E2 ep =>
   split at e
   ·next kss ek =>
    split at e
    ·next hh =>
     cases e
     refine fun p hp => ?_
     have g0 : Grow F H [] F (upd H p (.dK [])) [p] := Grow.alloc R.sub hp
     have ow0 : Own K F (upd H p (.dK [])) (.ref p) (.dct false []) [p] := ha_ (kvs := []) (kss := []) rfl .nil
     have R0 := (R.grow g0).push ow0 (R.apart_new g0 (by simp)) (fun a m => by rw [List.mem_singleton.mp m]; exact dz_ R.sub hp)
     refine hl (as ++ [some (.ref p)]) L R0 el fun ps F2 H2 fp2 hk g2 R2 => ?_
     have R2' : Rep K F2 H2 (σ ++ (as ++ (V.ref p :: hk_ ps).map some)) E1 fp2 := by simpa using R2
     obtain ⟨h1, h2, l, R3, pm⟩ := R2'.popN (k + 1) (by rw [List.length_cons, hk]) ep
     cases l with
     | @cons _ _ _ _ g1 g3 o1 o2 =>
      obtain ⟨a, kvs0, u, fq, ea, hH, hkk, rd, hks, ll, z⟩ := o1.dct_inv rfl
      cases ea
      have hk0 : kvs0 = [] := by cases kvs0 with | nil => rfl | cons a b => simp at hks
      subst hk0
      obtain ⟨hHp, rfl⟩ := z rfl
      cases ll
      obtain ⟨kvs, e1, e2, l2⟩ := mn_ o2 ek
      have hlen : kvs.length = kss.length := by have := congrArg List.length e2; simpa using this
      refine ⟨hHp, kvs, e1, by omega, ?_⟩
      have ndk : (kvs.map (·.1)).Nodup := by rw [e2]; exact g9_ hh.1
      rw [eK_ kvs [] (by simpa using ndk), List.nil_append]
      have nd := pm.nodup_iff.mp R2'.nd
      have offp : ∀ a ∈ [p] ++ g3 ++ h1, F2 a = none := fun a m => R2'.off a (pm.mem_iff.mpr m)
      have fp0 : F2 p = none := offp p (by simp)
      have npg : p ∉ g3 := fun m => by
       have := (List.nodup_append.mp (List.nodup_append.mp nd).1).2.2 p (by simp) p m
       exact this rfl
      have nph : p ∉ h1 := fun m => (List.nodup_append.mp nd).2.2 p (by simp) p m rfl
      have gw : Grow F2 H2 [p] F2 (upd H2 p (.dK kvs)) [p] := Grow.write R3.sub fp0
      have R4 := R3.grow2 gw fun a m m2 => nph (by rw [<- List.mem_singleton.mp m2]; exact m)
      have l3 := l2.off R3.sub (o := .dK kvs) fp0 npg
      refine q (.ref p) F2 _ (p :: g3) h1 ?_ R4 (ha_ e2 l3) (by simpa using nd) fun a m => offp a (by
       rcases List.mem_cons.mp m with rfl | m
       ·simp
       ·simp [m])
      have ga : Grow F H fp F2 H2 ([p] ++ g3 ++ h1) := ((g0.ours fp).trans g2).less fun a m => pm.mem_iff.mpr m
      have gb : Grow F2 H2 ([p] ++ g3 ++ h1) F2 (upd H2 p (.dK kvs)) (p :: g3 ++ h1) := gw.wide (fun a m => by simp [List.mem_singleton.mp m]) fun a m => .inl (by simpa using m)
      exact ga.trans gb
    ·cases e
   ·cases e
  ·cases e
 ·cases e
def jd_ (i j : Nat) (dl : En -> Option (Nat × En)) (E : En) : Option Out := match dl E with
 | some (2, E1) => match jX_ 2 E1 with
  | some ([a, b], E2) => some (.nx (ak_ (ak_ E2 i (.own a)) j (.own b)))
  | _ => none
 | _ => none
theorem oG_ {i j : Nat} (hi : i < n) (hj : j < n) (h : EvL K n as tr dl) : EvS K n as W (tPar i j tr) (jd_ i j dl) := by
 intro F H σ E fp L R o e D g
 unfold jd_ at e
 split at e
 ·next E1 el =>
  split at e
  ·next a b E2 ep =>
   cases e
   refine h L R el fun vs F1 H1 fp1 hk g1 R1 => ?_
   match vs, hk with
   | [v, w], _ =>
    obtain ⟨h1, h2, l, R2, pm⟩ := R1.popN 2 (vs := [v, w]) rfl ep
    have nd := pm.nodup_iff.mp R1.nd
    cases l with
    | @cons _ _ _ _ fa fb qa ta => cases ta with
     | @cons _ _ _ _ fc fd qb tb =>
      cases tb
      rw [List.append_nil] at nd pm
      have off : ∀ x ∈ fa ++ fc ++ h1, F1 x = none := fun x m => R1.off x (pm.mem_iff.mpr m)
      have n1 : (fc ++ h1).Nodup := by rw [List.append_assoc] at nd; exact (List.nodup_append.mp nd).2.1
      have na : (fa ++ h1).Nodup := by
       have := List.nodup_append.mp nd
       exact aG_ (List.nodup_append.mp this.1).1 this.2.1 fun x m y m2 => this.2.2 x (List.mem_append_left _ m) y m2
      obtain ⟨fq, R3, sb⟩ := R2.setSlot (i := i) (e := .own a) (v := v) (fr := fa) (by rw [List.length_append]; omega) qa na fun x m => off x (by simp [m])
      have nb : (fc ++ fq).Nodup := aG_ (List.nodup_append.mp n1).1 R3.nd fun x m y m2 z => by
       subst z
       rcases List.mem_append.mp (sb x m2) with m3 | m3
       ·have := List.nodup_append.mp (List.nodup_append.mp nd).1
        exact this.2.2 x m3 x m rfl
       ·exact (List.nodup_append.mp n1).2.2 x m x m3 rfl
      obtain ⟨fz, R4, sc⟩ := R3.setSlot (i := j) (e := .own b) (v := w) (fr := fc) (by rw [List.length_set, List.length_append]; omega) qb nb fun x m => off x (by simp [m])
      refine ⟨v, w, rfl, g _ F1 H1 fz (by rw [List.length_set, List.length_set]; exact L) (g1.less fun x m => ?_) ?_⟩
      ·refine pm.mem_iff.mpr ?_
       rcases List.mem_append.mp (sc x m) with m | m
       ·simp [m]
       ·rcases List.mem_append.mp (sb x m) with m | m <;> simp [m]
      ·rw [bC_ (by rw [List.length_set]; omega), bC_ (by omega)]
       exact R4
  ·cases e
 ·cases e
theorem mo_ {k : Nat} {A : Around} (r : Room k A) : A.units + 65 < cLine := by have := r.un; omega
theorem Grow.freeze {a : Addr} {o : HO} (sub : ∀ a o, F a = some o -> H a = some o) (hF : F a = none) (hH : H a = some o) : Grow F H [a] (upd F a o) H [] := by
 refine ⟨fun b u e => ?_, fun b u e => ?_, fun b u e _ => e, fun _ m => (nomatch m), fun b h n e => ?_⟩
 ·by_cases hb : b = a
  ·rw [hb, hF] at e; cases e
  ·show (if b = a then some o else F b) = some u
   rw [if_neg hb]; exact e
 ·by_cases hb : b = a
  ·subst hb
   rw [upd_same] at e
   rw [hH]; exact e
  ·have e' : (if b = a then some o else F b) = some u := e
   rw [if_neg hb] at e'; exact sub b u e'
 ·have hb : b ≠ a := fun hb => n (by rw [hb]; exact List.mem_cons_self)
  show (if b = a then some o else F b) = none
  rw [if_neg hb]; exact e
theorem j9_ {ds : List PyData} (sub : ∀ a o, F a = some o -> H a = some o) (o : Own K F H v (.lst ss) fr) (h : bc_ ss = some ds) (of : ∀ a ∈ fr, F a = none) : ∃ a F1, fr = [a] /\ Grow F H [a] F1 H [] /\ Own K F1 H v (.dat (.list ds)) [] := by
 obtain ⟨a, vs, fq, rfl, hH, l, rfl⟩ := o.lst_inv rfl
 obtain ⟨da, rfl⟩ := dy_ l h
 have fa : F a = none := of a List.mem_cons_self
 have g := Grow.freeze sub fa hH
 exact ⟨a, _, rfl, g, .dat (.lst (.inl (.inl upd_same)) (DqAll.mono g.f da))⟩
def hY_ (d : En -> Option Rs) (E : En) : Option Rs := match d E with
 | some (.val (.lst ss)) => (bc_ ss).map fun ds => .val (.dat (.list ds))
 | r => r
theorem nh_ (h : EvP K n as te d) : EvP K n as te (hY_ d) := by
 intro F H σ E fp L R r e Q q
 unfold hY_ at e
 split at e
 ·next ss hd =>
  obtain ⟨ds, hs, e2⟩ := Option.map_eq_some_iff.mp e
  cases e2
  refine h L R hd fun v F1 H1 f1 g1 a1 n1 o1 => ?_
  obtain ⟨a, F2, rfl, g2, o2⟩ := j9_ g1.sub (show Own K F1 H1 v (.lst ss) f1 from a1) hs o1
  exact q v F2 H1 [] (g1.trans g2) o2 List.nodup_nil fun _ m => nomatch m
 ·exact h L R e q
def fH_ (d : En -> Option (S × En)) (E : En) : Option (S × En) := match d E with
 | some (.lst ss, E1) => (bc_ ss).map fun ds => (.dat (.list ds), E1)
 | r => r
theorem je_ (h : EvE K n as te de) : EvE K n as te (fH_ de) := by
 intro F H σ E fp L R s E' e Q q
 unfold fH_ at e
 split at e
 ·next ss E1 hd =>
  obtain ⟨ds, hs, e2⟩ := Option.map_eq_some_iff.mp e
  cases e2
  refine h L R hd fun v F1 H1 fr fp1 g1 R1 o1 nd of => ?_
  obtain ⟨a, F2, rfl, g2, o2⟩ := j9_ R1.sub o1 hs of
  have na : a ∉ fp1 := (List.nodup_cons.mp nd).1
  refine q v F2 H1 [] fp1 ?_ (R1.grow2 g2 fun b m m2 => na (by rw [<- List.mem_singleton.mp m2]; exact m)) o2 R1.nd fun _ m => nomatch m
  refine g1.trans (g2.wide (fun b m => by rw [List.mem_singleton.mp m]; exact List.mem_append_left _ List.mem_cons_self) fun b m => ?_)
  exact .inl (List.mem_append_right _ (by simpa using m))
 ·exact h L R e q
theorem ni_ (h : EvP K n as te d) {F H : Hp} {σ : L2.St} {E : En} {fp : List Addr} (L : σ.length = n) (R : Rep K F H (σ ++ as) E fp) {c : Src} (e : c5_ d E = some c) {Q : V -> Hp -> Prop}
  (q : ∀ (a : Addr) F1 H1 (ex : List V) fp1, Grow F H fp F1 H1 fp1 -> Rep K F1 H1 (σ ++ (as ++ ex.map some)) (c.env ++ c.exE) fp1 -> ex.length = c.exE.length -> (∃ xs, SqL K H1 a xs) →
   (∀ F2 H2 (σ2 : L2.St) E2 fp2, σ2.length = n -> Grow F1 H1 fp1 F2 H2 fp2 -> Rep K F2 H2 (σ2 ++ (as ++ ex.map some)) E2 fp2 -> ∀ i,
    (∀ r, c.rd E2 i = some (some r) -> ∃ xs w, SqL K H2 a xs /\ xs[i]? = some w /\ RsAt K F2 H2 (σ2 ++ (as ++ ex.map some)) E2 w r []) /\ (c.rd E2 i = some none -> ∃ xs, SqL K H2 a xs /\ xs.length <= i)) -> Q (.ref a) H1) : te σ H Q := by
 unfold c5_ at e
 split at e
 ·next ds ed =>
  cases e
  refine h L R ed fun v F1 H1 f1 g1 a1 n1 o1 => ?_
  obtain ⟨a, xs, rfl, hq, da⟩ := Mv.Dq.list_inv (Own.dat_inv (show Own K F1 H1 v _ f1 from a1) rfl).1
  refine q a F1 H1 [] fp g1.mine (by simpa using R.grow g1) rfl ⟨xs, SqL.mono g1.sub hq⟩ fun F2 H2 σ2 E2 fp2 L2 g2 R2 i => ?_
  have hq2 : SqL K H2 a xs := SqL.mono g2.sub (SqL.mono g2.f hq)
  have da2 := Mv.DqAll.mono g2.f da
  refine ⟨fun r hr => ?_, fun hr => ⟨xs, hq2, by rw [Mv.DqAll.len da]; exact d7_ (E := E2) hr⟩⟩
  obtain ⟨w, hw, ar⟩ := g7_ (K := K) (H := H2) (E := E2) (ρ := σ2 ++ (as ++ ([] : List V).map some)) da2 hr
  exact ⟨xs, w, hq2, hw, ar⟩
 ·next ss ed =>
  obtain ⟨ds, hd, rfl⟩ := Option.map_eq_some_iff.mp e
  refine h L R ed fun v F1 H1 f1 g1 a1 n1 o1 => ?_
  obtain ⟨a, xs, fq, rfl, hH, l, hf⟩ := Own.lst_inv (show Own K F1 H1 v _ f1 from a1) rfl
  obtain ⟨da, rfl⟩ := dy_ l hd
  refine q a F1 H1 [] fp g1.mine (by simpa using R.grow g1) rfl ⟨xs, .inl (.inl hH)⟩ fun F2 H2 σ2 E2 fp2 L2 g2 R2 i => ?_
  have na : a ∉ fp := by
   have := R.apart_new g1 n1
   rw [hf] at this
   exact fun m => (List.nodup_append.mp this).2.2 a List.mem_cons_self a m rfl
  have hq2 : SqL K H2 a xs := .inl (.inl (g2.keep a _ hH na))
  have da2 := Mv.DqAll.mono g2.f da
  refine ⟨fun r hr => ?_, fun hr => ⟨xs, hq2, by rw [Mv.DqAll.len da]; exact d7_ (E := E2) hr⟩⟩
  obtain ⟨w, hw, ar⟩ := g7_ (K := K) (H := H2) (E := E2) (ρ := σ2 ++ (as ++ ([] : List V).map some)) da2 hr
  exact ⟨xs, w, hq2, hw, ar⟩
 ·next p ed =>
  split at e
  ·next ss es =>
   cases e
   refine h L R ed fun v F1 H1 f1 g1 a1 n1 o1 => ?_
   have R1 := R.grow g1
   obtain ⟨fq, ow⟩ := a1.own R1 (show (Rs.pl p).at E = some (.lst ss) from es)
   obtain ⟨a, xs, fq', rfl, hH, l, hf⟩ := ow.lst_inv rfl
   obtain ⟨b1, b2, b3⟩ := a1
   refine q a F1 H1 [.ref a] fp g1.mine (R1.hold b2 b3) rfl ⟨xs, .inl (.inl hH)⟩ fun F2 H2 σ2 E2 fp2 L2 g2 R2 i => ?_
   have len := R2.core.len
   have lastv : (σ2 ++ (as ++ [V.ref a].map some))[E2.length - 1]? = some (some (.ref a)) := by
    rw [<- List.append_assoc, List.getElem?_append_right (by rw [len]; simp), len]
    simp
   have key : ∀ p2 ss2, E2.getLast? = some (Sl.bor p2) -> aZ_ E2 p2 = some (.lst ss2) -> ∃ xs2 f2, H2 a = some (.lst xs2) /\ OwnL K F2 H2 xs2 ss2 f2 /\ RsAt K F2 H2 (σ2 ++ (as ++ [V.ref a].map some)) E2 (.ref a) (.pl p2) [] := by
    intro p2 ss2 hl hg
    rw [List.getLast?_eq_getElem?] at hl
    obtain ⟨w, e1, e2, e3⟩ := R2.bor _ p2 hl
    rw [lastv] at e1
    cases e1
    have at2 : RsAt K F2 H2 (σ2 ++ (as ++ [V.ref a].map some)) E2 (.ref a) (.pl p2) [] := ⟨rfl, e2, e3⟩
    obtain ⟨f2, ow2⟩ := at2.own R2 (show (Rs.pl p2).at E2 = some (.lst ss2) from hg)
    obtain ⟨a', xs2, f3, ea, hH2, l2, _⟩ := ow2.lst_inv rfl
    cases ea
    exact ⟨xs2, f3, hH2, l2, at2⟩
   refine ⟨fun r hr => ?_, fun hr => ?_⟩
   ·dsimp only at hr
    split at hr
    ·next p2 hl =>
     split at hr
     ·next ss2 hg =>
      obtain ⟨xs2, f2, hH2, l2, at2⟩ := key p2 ss2 hl hg
      split at hr
      ·next s hs =>
       obtain ⟨r', hr', er⟩ := Option.map_eq_some_iff.mp hr
       cases er
       obtain ⟨w, f, hw, ow⟩ := l2.nth hs
       exact ⟨xs2, w, .inl (.inl hH2), hw, at2.kid R2 hg hH2 hw hs ow hr'⟩
      ·cases hr
     ·cases hr
    ·cases hr
   ·dsimp only at hr
    split at hr
    ·next p2 hl =>
     split at hr
     ·next ss2 hg =>
      obtain ⟨xs2, f2, hH2, l2, at2⟩ := key p2 ss2 hl hg
      split at hr
      ·next s hs =>
       cases hk : (Rs.pl p2).kid i s with
       | none => rw [hk] at hr; cases hr
       | some r' => rw [hk] at hr; cases hr
      ·next hs => exact ⟨xs2, .inl (.inl hH2), by rw [l2.length]; exact List.getElem?_eq_none_iff.mp hs⟩
     ·cases hr
    ·cases hr
  ·cases e
 ·cases e
def jx_ (rd : En -> Nat -> Option (Option Rs)) (E : En) (i : Nat) : Option (Option Rs) := match rd E i with
 | some (some r) => match r.at E with
  | some (.dat d) => some (some (.val (.dat (.tuple [.int (i : Nat), d]))))
  | _ => none
 | some none => some none
 | none => none
def hl_ (d : En -> Option Rs) (E : En) : Option Src := (c5_ d E).map fun c => ⟨c.env, c.exE, jx_ c.rd, c.fuel⟩
end Mv
set_option maxHeartbeats 400000
namespace Mv
open PySem PySem.Spec PyProof.Rows L2
end Mv
set_option maxHeartbeats 4000000
namespace Mv
open PySem PySem.Spec PyProof.Rows L2
end Mv
namespace Mv
open PySem PySem.Spec PyProof.Rows L2
end Mv
set_option maxHeartbeats 6400000
namespace L2
open PySem PySem.Spec PyProof.Rows PySem.W PySem.SeqAt
end L2
set_option maxHeartbeats 4000000
namespace Mv
open PySem PySem.Spec PyProof.Rows L2
end Mv
set_option maxHeartbeats 6400000
namespace L2
open PySem PySem.Spec PyProof.Rows PySem.W PySem.SeqAt
end L2
set_option maxHeartbeats 4000000
namespace Mv
open PySem PySem.Spec PyProof.Rows L2
variable {K : PySem.W.Frag} {F F' F1 F2 F3 H H' H1 H2 H3 : Hp} {v u x y w : V} {vs ws xs : List V} {s t c : S} {fp fq fr fp' fp1 fp2 f1 f2 : List Addr} {ρ as : Ro} {E E' : En} {n : Nat}
variable {te ta tb tc : TE} {d da db dc : En -> Option Rs}
variable {W : WXm} {de : En -> Option (S × En)}
variable {ys : List V}
abbrev T3 := Int × Int × Int
def c3 (p : T3) : Int := p.1 * 10000000000 + p.2.1 * 100000 + p.2.2
variable {tt : TT} {dt : En -> Option Bool}
end Mv
set_option maxHeartbeats 1000000
namespace L2
open PySem PySem.Spec PyProof.Rows
end L2
set_option maxHeartbeats 4000000
namespace Mv
open PySem PySem.Spec PyProof.Rows L2
end Mv
namespace NX
open PySem PySem.Spec PyProof.Rows L2
open Sem (wp)
abbrev NK := List Int × Int
end NX
namespace Mv
open PySem PySem.Spec PyProof.Rows L2 NX
variable {K : PySem.W.Frag} {F F' F1 F2 F3 H H' H1 H2 H3 : Hp} {v u x y : V} {vs ws : List V} {s t : S} {ss tts : List S} {fp fq fr fp' fp1 fp2 f1 f2 : List Addr} {ρ as : Ro} {E E' : En} {n : Nat}
variable {W : WXm} {te ta tb tc : TE} {d da db dc : En -> Option Rs} {tr : TA} {dr : En -> Option (List Rs)} {de df : En -> Option (S × En)} {tt : TT} {dte : En -> Option (Bool × En)}
def pN_ (K : PySem.W.Frag) : R2 := fun x y H Q => rIxL K x y H Q ∨ rIxT K x y H Q
theorem mp_ {X : Cx} : IxR X (pN_ X.K) := by
 intro value slice pins s σ H x y v u Q I rx ry h hs
 rcases h with h | h
 ·exact ix_list value slice pins s σ H x y v u Q I rx ry h hs
 ·exact ix_tup value slice pins s σ H x y v u Q I rx ry h hs
def eL_ (da db : En -> Option Rs) (E : En) : Option Rs := match aC_ da db E with
 | some r => some r
 | none => oj_ da db E
theorem oH_ (ha : EvP K n as ta da) (hb : EvP K n as tb db) : EvP K n as (tOp (pN_ K) ta tb) (eL_ da db) := by
 intro F H σ E fp L R r' e Q q
 unfold eL_ at e
 split at e
 ·next r0 e0 =>
  cases e
  unfold aC_ at e0
  split at e0
  ·next r i ea eb =>
   refine ha L R ea fun x F1 H1 f1 g1 r1 n1 o1 => hb L (R.grow g1) eb fun y F2 H2 f2 g2 r2 n2 o2 => .inl ?_
   have R2 := (R.grow g1).grow g2
   have r1' := r1.grow (R.grow g1) g2
   have gg := (g1.seq0 g2).drop
   cases (Own.dat_inv (show Own K F2 H2 y _ f2 from r2) rfl).1
   split at e0
   ·next ss es =>
    split at e0
    ·next j ej =>
     split at e0
     ·next s hs =>
      obtain ⟨fq, o⟩ := r1'.own R2 es
      obtain ⟨a, vs, fq', rfl, hH, l, _⟩ := o.lst_inv rfl
      obtain ⟨w, f, hw, ow⟩ := l.nth hs
      refine ⟨a, vs, i, w, rfl, rfl, .inl (.inl hH), by unfold atI; rw [l.length, ej]; exact hw, ?_⟩
      exact q w F2 H2 [] gg (r1'.kid R2 es hH hw hs ow e0) List.nodup_nil (fun _ m => nomatch m)
     ·cases e0
    ·cases e0
   ·next ds es =>
    split at e0
    ·next j ej =>
     obtain ⟨d, hd, rfl⟩ := Option.map_eq_some_iff.mp e0
     obtain ⟨fq, o⟩ := r1'.own R2 es
     obtain ⟨a, xs, rfl, hq, da⟩ := Mv.Dq.list_inv (o.dat_inv rfl).1
     obtain ⟨w, hw, dw⟩ := Mv.DqAll.nth da hd
     refine ⟨a, xs, i, w, rfl, rfl, SqL.mono R2.sub hq, by unfold atI; rw [Mv.DqAll.len da, ej]; exact hw, ?_⟩
     exact q w F2 H2 [] gg (.dat dw) List.nodup_nil (fun _ m => nomatch m)
    ·cases e0
   ·cases e0
  ·cases e0
 ·unfold oj_ at e
  split at e
  ·next r i ea eb =>
   refine ha L R ea fun x F1 H1 f1 g1 r1 n1 o1 => hb L (R.grow g1) eb fun y F2 H2 f2 g2 r2 n2 o2 => .inr ?_
   have R2 := (R.grow g1).grow g2
   have r1' := r1.grow (R.grow g1) g2
   cases (Own.dat_inv (show Own K F2 H2 y _ f2 from r2) rfl).1
   split at e
   ·next ds es =>
    split at e
    ·next j ej =>
     obtain ⟨d, hd, rfl⟩ := Option.map_eq_some_iff.mp e
     obtain ⟨fq, o⟩ := r1'.own R2 es
     obtain ⟨a, xs, rfl, hq, da⟩ := Mv.Dq.tuple_inv (o.dat_inv rfl).1
     obtain ⟨w, hw, dw⟩ := Mv.DqAll.nth da hd
     refine ⟨a, xs, i, w, rfl, rfl, SqT.mono R2.sub hq, by unfold atI; rw [Mv.DqAll.len da, ej]; exact hw, ?_⟩
     exact q w F2 H2 [] (g1.seq0 g2).drop (.dat dw) List.nodup_nil (fun _ m => nomatch m)
    ·cases e
   ·cases e
  ·cases e
variable {t1 t2 ts : TS}
variable {P : Program} {w : World} {a : Addr} {z z' : List NK}
def eAt (i : Nat) (dc : En -> Option (S × En)) (f : Int -> En -> Option (S × En)) (E : En) : Option (S × En) := match ab_ i E, dc E with
 | some _, some (.dat (.int k), E1) => f k E1
 | _, _ => none
end Mv
namespace Mv
open PySem PySem.Spec PyProof.Rows L2 CLX LamX
structure LamId where
 qual : Str
 params : Arguments
 body : Expr
 scope : Scope
 cl : List (Str × Addr)
def qb_ (i : LamId) : Xt where
 At := fun K F H v fp => fp = [] /\ ∃ f, v = .ref f /\ IsLm F i.qual i.params i.body i.scope i.cl f
 frame := fun kF sub h k => ⟨h.1, let ⟨f, e, l⟩ := h.2; ⟨f, e, l.mono kF⟩⟩
 there := fun h a m => by rw [h.1] at m; cases m
def jf_ (P : Addr) (q : Str) : Xt where
 At := fun K F H v fp => v = .ref P /\ fp = [P] /\ TabG F H P q
 frame := fun kF sub h k => ⟨h.1, h.2.1, h.2.2.grow kF fun ps e => k P (by rw [h.2.1]; exact List.mem_singleton.mpr rfl) _ e⟩
 there := fun h a m => by
  obtain ⟨_, rfl, ps, e, _⟩ := h
  rw [List.mem_singleton.mp m]
  exact ⟨_, e⟩
section
variable {K : PySem.W.Frag} {F F' H H' : Hp} {v : V} {n : Nat} {as : Ro} {E : En} {fp : List Addr}
open Classical in
noncomputable def eLm (j : Nat) (P : Addr) (i : LamId) (E : En) : Option (S × En) := match E[j]? with
 | some (.own (.ext x)) => if x = jf_ P i.qual then some (.ext (qb_ i), bV_ E [j]) else none
 | _ => none
theorem oI_ {j : Nat} {P : Addr} {i : LamId} (h : E[j]? = some (.own (.ext (jf_ P i.qual)))) : eLm j P i E = some (.ext (qb_ i), bV_ E [j]) := by
 unfold eLm
 rw [h]
 exact if_pos rfl
theorem qT_ {j : Nat} {P : Addr} {i : LamId} : EvE K n as (tLm P i.qual i.params i.body i.scope i.cl) (eLm j P i) := by
 intro F H σ E fp L R s0 E0 e Q q
 unfold eLm at e
 split at e
 ·next x ex =>
  split at e
  ·next hx =>
   subst hx
   cases e
   have hg : aZ_ E [j] = some (.ext (jf_ P i.qual)) := by simp only [aZ_, ex, S.get_nil]
   obtain ⟨u, fp1, fp2, h1, o1, pm, fin⟩ := R.focus2 hg
   obtain ⟨rfl, rfl, tg⟩ := o1.ext_inv rfl
   have offP : F P = none := R.off P (pm.mem_iff.mpr (List.mem_append_left _ (List.mem_singleton.mpr rfl)))
   refine ⟨F, tg, R.sub, offP, fun f G1 H1 m il => ?_⟩
   have g : Grow F H ([] ++ [P]) G1 H1 ([] ++ [P]) := ⟨m.g, m.sub, fun a o ea na => m.keep a o ea (fun z => na (by rw [z]; simp)), fun a ma => .inl ma, fun a h0 na fa => by
    cases q : G1 a with
    | none => rfl
    | some o => exact absurd (m.new a (by rw [q]; simp) fa) h0⟩
   have oP : G1 P = none := by
    cases q : G1 P with
    | none => rfl
    | some o =>
     obtain ⟨ps, e1, _⟩ := tg
     have := m.new P (by rw [q]; simp) offP
     rw [e1] at this; cases this
   obtain ⟨R1, nd, g1⟩ := fin G1 H1 (.ext (jf_ P i.qual)) [P] [] [] g (fun _ z => nomatch z) (.ext ⟨rfl, rfl, m.tab⟩) (by simp) (fun a ma => by rw [List.mem_singleton.mp ma]; exact oP)
   have ep : bA_ E [j] (.ext (jf_ P i.qual)) = E := by
    have hj := (List.getElem?_eq_some_iff.mp ex)
    simp only [bA_, ex, S.put_nil]
    obtain ⟨hl, he⟩ := hj
    rw [<- he]
    exact List.set_getElem_self hl
   rw [ep] at R1
   refine q (.ref f) G1 H1 [] ([P] ++ fp2) ?_ R1 (.ext ⟨rfl, f, rfl, il⟩) (by simpa using nd) (fun _ z => nomatch z)
   exact (show Grow F H fp G1 H1 ([P] ++ fp2) from g1)
  ·cases e
 ·cases e
end
end Mv
namespace Mv
open PySem PySem.Spec PyProof.Rows L2
section
variable {K : PySem.W.Frag} {F F' F1 F2 H H' H1 H2 : Hp} {v : V} {n : Nat} {as : Ro} {E E' : En} {fp : List Addr} {te ta tb : TE} {d da db : En -> Option Rs} {de : En -> Option (S × En)} {tr : TA} {dr : En -> Option (List Rs)}
theorem fX_ {ρ : Ro} {r : List Addr} {D : PyData} (a : RsAt K F H ρ E v (.val (.dat D)) r) : Dq K F v D /\ r = [] := Own.dat_inv (show Own K F H v (.dat D) r from a) rfl
def dM0 (f : Str -> Option PyData) (d : En -> Option Rs) (E : En) : Option Rs := match d E with
 | some (.val (.dat (.str a))) => (f a).map fun c => .val (.dat c)
 | _ => none
theorem qU_ {r : V -> List V -> Hp -> VK -> Prop} {f : Str -> Option PyData} (hr : ∀ {a c} {H : Hp} {Q : VK}, f a = some c -> mU_ c = true /\ (Q (scV c) H -> r (.str a) [] H Q)) (h : EvP K n as te d) : EvP K n as (tM0 r te) (dM0 f d) := by
 intro F H σ E fp L R r1 e Q q
 unfold dM0 at e
 split at e
 ·next a ed =>
  obtain ⟨c, ec, rfl⟩ := Option.map_eq_some_iff.mp e
  refine h L R ed fun v F1 H1 fr g1 a1 nd of => ?_
  obtain ⟨h1, rfl⟩ := fX_ a1
  cases h1
  obtain ⟨sc, hq⟩ := hr (H := H1) (Q := Q) ec
  exact ⟨⟨a, rfl⟩, hq (q _ F1 H1 [] g1 (.dat (fd_ sc)) List.nodup_nil fun _ m => nomatch m)⟩
 ·cases e
def pO_ (a : Str) : Option PyData := some (.bool (Txt.isdigit a))
theorem ka_ (h : EvP K n as te d) : EvP K n as (tM0 (fun x xs H Q => ∃ a, x = .str a /\ xs = [] /\ True /\ Q (.bl (Txt.isdigit a)) H) te) (dM0 pO_ d) :=
 qU_ (fun {a c H Q} e => by cases e; exact ⟨rfl, fun q => ⟨a, rfl, rfl, trivial, q⟩⟩) h
def dM1 (f : Str -> Str -> Option PyData) (da db : En -> Option Rs) (E : En) : Option Rs := match da E, db E with
 | some (.val (.dat (.str a))), some (.val (.dat (.str b))) => (f a b).map fun c => .val (.dat c)
 | _, _ => none
theorem qV_ {r : V -> List V -> Hp -> VK -> Prop} {f : Str -> Str -> Option PyData} (hr : ∀ {a b c} {H : Hp} {Q : VK}, f a b = some c -> mU_ c = true /\ (Q (scV c) H -> r (.str a) [.str b] H Q)) (ha : EvP K n as ta da) (hb : EvP K n as tb db) : EvP K n as (tM1 r ta tb) (dM1 f da db) := by
 intro F H σ E fp L R r1 e Q q
 unfold dM1 at e
 split at e
 ·next a b ea eb =>
  obtain ⟨c, ec, rfl⟩ := Option.map_eq_some_iff.mp e
  refine ha L R ea fun v F1 H1 fr g1 a1 nd of => ?_
  obtain ⟨h1, rfl⟩ := fX_ a1
  cases h1
  refine ⟨⟨a, rfl⟩, hb L (R.grow g1) eb fun u F2 H2 fr2 g2 a2 nd2 of2 => ?_⟩
  obtain ⟨h2, rfl⟩ := fX_ a2
  cases h2
  obtain ⟨sc, hq⟩ := hr (H := H2) (Q := Q) ec
  exact hq (q _ F2 H2 [] (g1.trans g2) (.dat (fd_ sc)) List.nodup_nil fun _ m => nomatch m)
 ·cases e
def fm_ (a b : Str) : Option PyData := some (.bool (Txt.startswith a b))
theorem eM_ (ha : EvP K n as ta da) (hb : EvP K n as tb db) : EvP K n as (tM1 (fun x xs H Q => ∃ a b, x = .str a /\ xs = [.str b] /\ Q (.bl (Txt.startswith a b)) H) ta tb) (dM1 fm_ da db) :=
 qV_ (fun {a b c H Q} e => by cases e; exact ⟨rfl, fun q => ⟨a, b, rfl, rfl, q⟩⟩) ha hb
def a7_ (da db : En -> Option Rs) (E : En) : Option Rs := match da E, db E with
 | some (.val (.dat (.str a))), some (.val (.dat (.str b))) => if (b.length == 0) = false /\ a.length + 2 <= sizeLine then some (.val (.lst ((Txt.split a b).map fun x => .dat (.str x)))) else none
 | _, _ => none
theorem iJ_ : ∀ (xs : List Str), OwnL K F H (xs.map V.str) (xs.map fun x => S.dat (.str x)) []
 | [] => .nil
 | x :: xs => .cons (fp := []) (fq := []) (.dat (.str x)) (iJ_ xs)
theorem dj_ (ha : EvP K n as ta da) (hb : EvP K n as tb db) : EvP K n as (tM1 (fun x xs H Q => ∃ a b, x = .str a /\ xs = [.str b] /\ (b.length == 0) = false /\ a.length + 2 <= sizeLine /\ rNewStrs (Txt.split a b) H Q) ta tb) (a7_ da db) := by
 intro F H σ E fp L R r1 e Q q
 unfold a7_ at e
 split at e
 ·next a b ea eb =>
  split at e
  ·next hc =>
   cases e
   refine ha L R ea fun v F1 H1 fr g1 a1 nd of => ?_
   obtain ⟨h1, rfl⟩ := fX_ a1
   cases h1
   refine ⟨⟨a, rfl⟩, hb L (R.grow g1) eb fun u F2 H2 fr2 g2 a2 nd2 of2 => ?_⟩
   obtain ⟨h2, rfl⟩ := fX_ a2
   cases h2
   have g12 := g1.trans g2
   refine ⟨a, b, rfl, rfl, hc.1, hc.2, ?_⟩
   exact hb_ (F := F2) (ss := (Txt.split a b).map fun x => S.dat (.str x)) g12.sub (iJ_ _) fun v F' H' fr g3 o nd3 of3 => q v F' H' fr (by simpa using g12.trans g3) o nd3 of3
  ·cases e
 ·cases e
def gr_ : List S -> Option (List Str)
 | [] => some []
 | .dat (.str x) :: r => (gr_ r).map (x :: ·)
 | _ => none
theorem iK_ : ∀ {vs : List V} {ss : List S} {fp : List Addr} {xs : List Str}, OwnL K F H vs ss fp -> gr_ ss = some xs -> vs = xs.map V.str /\ fp = []
 | _, _, _, xs, .nil, e => by cases e; exact ⟨rfl, rfl⟩
 | _, _, _, xs, .cons (s := s) o l, e => by
  unfold gr_ at e
  split at e
  ·next h => cases h
  ·next x r h =>
   cases h
   obtain ⟨ys, ey, rfl⟩ := Option.map_eq_some_iff.mp e
   obtain ⟨h1, rfl⟩ := o.dat_inv rfl
   cases h1
   obtain ⟨rfl, rfl⟩ := iK_ l ey
   exact ⟨rfl, rfl⟩
  ·cases e
def fn_ (K : PySem.W.Frag) : V -> List V -> Hp -> VK -> Prop := fun x xs H Q => ∃ a p, ∃ ys : List Str, x = .str a /\ xs = [.ref p] /\ (SqL K H p (ys.map V.str) ∨ SqT K H p (ys.map V.str)) /\ (ys.map (·.length)).sum + ys.length * a.length <= 16777216 /\ Q (.str (Txt.join a ys)) H
def cv_ (da : En -> Option Rs) (de : En -> Option (S × En)) (E : En) : Option (S × En) := match da E with
 | some (.val (.dat (.str a))) => match de E with
  | some (.lst ss, E1) => match gr_ ss with
   | some ys => if (ys.map (·.length)).sum + ys.length * a.length <= 16777216 then some (.dat (.str (Txt.join a ys)), E1) else none
   | none => none
  | _ => none
 | _ => none
theorem fY_ (ha : EvP K n as ta da) (he : EvE K n as te de) : EvE K n as (tM1 (fn_ K) ta te) (cv_ da de) := by
 intro F H σ E fp L R s0 E0 e Q q
 unfold cv_ at e
 split at e
 ·next a ea =>
  split at e
  ·next ss E1 ee =>
   split at e
   ·next ys ey =>
    split at e
    ·next hc =>
     cases e
     refine ha L R ea fun v F1 H1 fr g1 a1 nd of => ?_
     obtain ⟨h1, rfl⟩ := fX_ a1
     cases h1
     refine ⟨⟨a, rfl⟩, he L (R.grow g1) ee fun u F2 H2 fr2 fp2 g2 R2 ow nd2 of2 => ?_⟩
     obtain ⟨p, vs, fq, rfl, hp, l, rfl⟩ := ow.lst_inv rfl
     obtain ⟨rfl, rfl⟩ := iK_ l ey
     refine ⟨a, p, ys, rfl, rfl, .inl (.inl (.inl hp)), hc, ?_⟩
     have g12 := g1.mine.trans g2
     exact q _ F2 H2 [] fp2 (g12.less fun a m => List.mem_append_right _ (by simpa using m)) R2 (.dat (.str _)) (by simpa using (List.nodup_append.mp nd2).2.1) (fun _ m => nomatch m)
    ·cases e
   ·cases e
  ·cases e
 ·cases e
def fZ_ : PyData -> PyData -> Option PyData | .int i, .int j => if 0 <= j /\ j <= 1000000 /\ i.natAbs < 2 ^ 64 then some (.int (i ^ j.toNat)) else none | _, _ => none
theorem hm_ : Rv2 K (rI CPow fun i j => .int (i ^ j.toNat)) fZ_ := by
 intro H x y a b c ha hb e Q q
 unfold fZ_ at e
 split at e
 ·next i j =>
  split at e
  ·next h => cases e; cases ha; cases hb; exact ⟨i, j, rfl, rfl, h, q rfl⟩
  ·cases e
 ·cases e
def eX_ : PyData -> PyData -> Option PyData | .int i, .int j => if 0 < j /\ j < 18446744073709551616 then some (.int (i / j)) else none | _, _ => none
theorem kb_ : Rv2 K (rI CDivW fun i j => .int (i / j)) eX_ := by
 intro H x y a b c ha hb e Q q
 unfold eX_ at e
 split at e
 ·next i j =>
  split at e
  ·next h =>
   cases e; cases ha; cases hb
   exact ⟨i, j, rfl, rfl, ⟨h.1, Nat.lt_of_lt_of_le ((Nat.log2_lt (by omega)).mpr (by omega : j.natAbs < 2 ^ 64)) (by decide)⟩, q rfl⟩
  ·cases e
 ·cases e
def kc_ : PyData -> PyData -> Option PyData | .str i, .str j => if i.length + j.length <= sizeLine then some (.str (i ++ j)) else none | _, _ => none
theorem kd_ : Rv2 K (fun x y H Q => ∃ i j, x = .str i /\ y = .str j /\ i.length + j.length <= sizeLine /\ Q (.str (i ++ j)) H) kc_ := by
 intro H x y a b c ha hb e Q q
 unfold kc_ at e
 split at e
 ·next i j =>
  split at e
  ·next h => cases e; cases ha; cases hb; exact ⟨i, j, rfl, rfl, h, q rfl⟩
  ·cases e
 ·cases e
def qK_ : List V -> Hp -> VK -> Prop := fun xs H Q => (∃ i, xs = [.int i] /\ i.natAbs.log2 < 1920 /\ Q (.str (toString i)) H) ∨ ∃ a, xs = [.str a] /\ Q (.str a) H
theorem gs_ {X : Cx} : CallR X (.type "str") qK_ := by
 intro pins s σ H xs us Q I r h
 rcases h with h | h
 ·exact call_str_int pins s σ H xs us Q I r h
 ·exact SkE.call_str_str pins s σ H xs us Q I r h
def hZ_ : List PyData -> Option PyData
 | [.int i] => if i.natAbs.log2 < 1920 then some (.str (toString i)) else none
 | [.str a] => some (.str a)
 | _ => none
theorem ke_ : RvC K qK_ hZ_ := by
 intro H vs ds c a e Q q
 unfold hZ_ at e
 split at e
 ·next i =>
  split at e
  ·next h =>
   cases e
   cases a with
   | cons a1 t => cases t; cases a1; exact .inl ⟨i, rfl, h, q rfl⟩
  ·cases e
 ·next x =>
  cases e
  cases a with
  | cons a1 t => cases t; cases a1; exact .inr ⟨x, rfl, q rfl⟩
 ·cases e
def c7_ : List PyData -> Option PyData
 | [.str a] => if a.length <= 640 then (PySem.intText? a).map .int else none
 | _ => none
theorem fo_ : RvC K (fun xs H Q => ∃ a n, xs = [.str a] /\ PySem.intText? a = some n /\ a.length <= 640 /\ Q (.int n) H) c7_ := by
 intro H vs ds c a e Q q
 unfold c7_ at e
 split at e
 ·next x =>
  split at e
  ·next h =>
   obtain ⟨m, em, rfl⟩ := Option.map_eq_some_iff.mp e
   cases a with
   | cons a1 t => cases t; cases a1; exact ⟨x, m, rfl, em, h, q rfl⟩
  ·cases e
 ·cases e
def dk_ : List PyData -> Option PyData
 | [.str a] => if a.length <= sizeLine then some (.int (a.length : Nat)) else none
 | _ => none
theorem gt_ : RvC K (fun xs H Q => ∃ z, xs = [.str z] /\ z.length <= sizeLine /\ Q (.int z.length) H) dk_ := by
 intro H vs ds c a e Q q
 unfold dk_ at e
 split at e
 ·next x =>
  split at e
  ·next h =>
   cases e
   cases a with
   | cons a1 t => cases t; cases a1; exact ⟨x, rfl, h, q rfl⟩
  ·cases e
 ·cases e
end
end Mv
namespace NX
open PySem PySem.Spec PyProof.Rows L2
section
variable {prog : Program} {w : World} {A : Around} {E : Value -> Shared -> Prop} {s : Shared} {l : Addr} {items : Array Value}
theorem jg_ {it : Addr} {i : Nat} {Q : Value -> Shared -> Prop} (hit : s.heap.IsListIter it l i) (h : Q (.ref it) s) : wpAny (model prog w) A (pyIter (.ref it)) Q E s := by
 obtain ⟨o, ho, hc, hd⟩ := hit
 have ty : s.TypeIs (.ref it) "list_iterator" := ⟨o, ho, hc⟩
 refine wpAny_pyIter_slot ty slot_listiter_iter (wpAny_call_entry slot_listiter_iter ty entry_listiter_iter ?_ (args_listiter_iter _))
 show wpAny _ _ (ret (.ref it)) _ _ s
 exact wpAny_pure ⟨_, rfl, "list_iterator", _, ty, slot_listiter_next.lookup, h⟩
theorem jh_ {I : Addr} {i : Nat} (hh : A.handled = none) (hne : l ≠ I) (hi : i <= items.size) : WalksS prog w A I [I, l] [I] (fun a b => a = b) (items.size - i) (fun j v => items[i + j]? = some v) (fun j s => s.heap.IsListIter I l (i + j) /\ s.heap.IsList l items) where
 sub := fun b hb => by simp at hb; simp [hb]
 grefl := fun _ => rfl
 gtrans := fun _ _ _ h1 h2 => h1.trans h2
 frame := fun j s h' tk st _ k => by
  obtain ⟨⟨o, ho, hc, hd⟩, ⟨ol, hol, hcl, nl, hdl⟩⟩ := st
  exact ⟨⟨o, k I (by simp) o ho, hc, hd⟩, ⟨ol, k l (by simp) ol hol, hcl, nl, hdl⟩⟩
 item := fun j s Q E hj st hQ => by
  obtain ⟨hit, hl⟩ := st
  have hlt : i + j < items.size := by omega
  refine wpAny_pyNext_list_item hit hl (x := items[i + j]) (by simp [hlt]) fun h₁ hit₁ hs₁ => ?_
  refine hQ _ _ (by simp [hlt]) ⟨by rw [<- Nat.add_assoc]; exact hit₁, hl.extBut hs₁.extBut hne⟩ ⟨fun b o hb e => (hs₁.2 b (by simpa using hb)).trans e, rfl, rfl, rfl, Nat.le_refl _⟩
 done := fun s Q E st hQ => by
  obtain ⟨hit, hl⟩ := st
  refine wpAny_pyNext_list_end hh hit hl (by rw [Array.getElem?_eq_none]; omega) fun h' he => ?_
  exact hQ _ ⟨fun b o hb e => he b o (by simpa using hb) e, rfl, rfl, rfl, Nat.le_refl _⟩
 self := fun j s Q E st hQ => jg_ st.1 hQ
theorem h0_ {n : Nat} {Q : List Value -> Shared -> Prop} (hh : A.handled = none) (hl : s.heap.IsList l items) (hn : n <= items.size) (hz : items.size <= sizeLine)
  (hQ : ∀ (h2 : Heap) (tk : Tok), (∀ b o, s.heap.get? b = some o -> h2.get? b = some o) -> Q (items.toList.take n ++ [.ref h2.objs.size]) { s with heap := h2.push { cls := .type "list", data := .seq (items.toList.drop n).toArray }, toks := tk }) :
  wpAny (model prog w) A (unpackItems (.ref l) (n + 1) (some n)) Q E s := by
 have hlt : l ≠ s.heap.objs.size := by obtain ⟨o, ho, _⟩ := hl; exact Nat.ne_of_lt (Heap.lt_size ho)
 unfold unpackItems
 refine wpAny_bind ?_
 unfold notIterableAtAll
 refine wpAny_bind (wpAny_specialOf hl.typeIs slot_list_iter.lookup ?_)
 refine wpAny_pure ?_
 simp only [Bool.false_eq_true, if_false]
 refine wpAny_bind (wpAny_holding (wpAny_pyIter_list hl ?_))
 refine wpAny_bind (wpAny_holding (PySem.W.kun_draw hlt n 0 _ _ ⟨_, Heap.get?_push_size _ rfl, rfl, rfl⟩ (hl.push _) (by omega) fun h₁ hit₁ hs₁ => ?_))
 rw [List.drop_zero]
 have hlen : (items.toList.take n).length = n := by rw [List.length_take]; simp; omega
 rw [if_neg (by rw [hlen]; exact Nat.lt_irrefl _)]
 have hl₁ : h₁.IsList l items := (hl.push _).extBut hs₁.extBut hlt
 rw [Nat.zero_add] at hit₁
 have h1s : s.heap.objs.size < h₁.objs.size := by
  obtain ⟨o, ho, _⟩ := hit₁
  exact Heap.lt_size ho
 have lls : l < h₁.objs.size := by
  obtain ⟨o, ho, _⟩ := hl₁
  exact Heap.lt_size ho
 have W := jh_ (prog := prog) (w := w) (A := A.in1) (items := items) (l := l) (I := s.heap.objs.size) (i := n) hh hlt hn
 refine wpAny_bind (wpAny_holding (wpAny_collect_iter (T := "list_iterator") (.inr (.inr (.inl rfl))) W (fun j s st => by
  obtain ⟨⟨o, ho, hc, _⟩, _⟩ := st
  exact ⟨o, ho, hc⟩) (s := { s with heap := h₁ }) ⟨hit₁, hl₁⟩ (fun b hb => ?_) (by simp) (fun s' acc mv it => ?_) (by omega)))
 ·rcases List.mem_cons.mp hb with rfl | hb
  ·exact h1s
  ·rw [List.mem_singleton.mp hb]; exact lls
 ·have eacc : acc.toList = items.toList.drop n := by
   refine List.ext_getElem? fun j => ?_
   by_cases hj : j < acc.size
   ·have h1 : acc[j]? = some acc[j] := by simp [hj]
    have h2 := it.2 j _ h1
    rw [List.getElem?_drop]
    simpa using (h1.trans h2.symm)
   ·rw [List.getElem?_eq_none (by simpa using hj), List.getElem?_eq_none]
    have := it.1
    rw [List.length_drop]
    simp only [Array.length_toList]
    omega
  rw [eacc]
  have hrl : (items.toList.drop n).length = items.size - n := by rw [List.length_drop]; simp
  simp only [Nat.add_sub_cancel_left, Nat.add_one_sub_one, Nat.sub_self]
  rw [if_neg (Nat.not_lt_zero _)]
  simp only [Nat.sub_zero, List.take_length, List.drop_length, List.append_nil]
  refine wpAny_bind (wpAny_newObj_type ?_ (by show (items.toList.drop n).toArray.size <= sizeLine; simp; omega))
  refine wpAny_pure ?_
  obtain ⟨h2, g2, d2, t2, o2⟩ := s'
  obtain ⟨m1, m2, m3, m4, m5⟩ := mv
  have m2 : g2 = s.gens := m2.symm
  have m3 : d2 = s.drawn := m3
  have m4 : o2 = s.os := m4
  subst m2 m3 m4
  refine hQ h2 t2 fun b o e => ?_
  have hb : b ≠ s.heap.objs.size := Nat.ne_of_lt (Heap.lt_size e)
  exact m1 b o (by simpa using hb) ((hs₁.2 b hb).trans (Heap.get?_push_of_some _ e))
def gStar (K : PySem.W.Frag) (n : Nat) (t : TGs) : TG := fun v σ H Q => ∃ a xs, v = .ref a /\ SqL K H a xs /\ n <= xs.length /\ ∀ p, H p = none -> t (xs.take n ++ [.ref p]) σ (upd H p (.lst (xs.drop n))) Q
end
section
variable {X : Cx} {pos : Pos}
theorem pgs_star {e : Expr} {p : Pos} {es : List Expr} {t : TG} {u : TGs} (h1 : PG X e t) (h2 : PGs X es u) : PGs X (.Starred e p :: es) (gCons t u) := by
 refine ⟨fun pins s σ H vs us Q I r h => ?_⟩
 obtain ⟨v, vr, rfl, h⟩ := h
 cases r with
 | cons r rr =>
  show wpAny _ _ (assignInOrder (assign e X.env :: (assignEach es X.env).map (·.2)) _) _ _ s
  exact assignInOrder_cons (thn (h1.run pins s σ H _ _ _ I r h) fun _ s1 ⟨σ1, H1, I1, q1⟩ => h2.run pins s1 σ1 H1 _ _ Q I1 rr q1)
theorem pg_star {es : List Expr} {k : Nat} {t : TGs} {n : Nat} (hc : X.calm = true) (h : PGs X es t)
  (hn : (assignEach es X.env).length = n + 1 := by rfl) (hst : (assignEach es X.env).findIdx? (·.1) = some n := by rfl) : PG X (.Tuple es k pos) (gStar X.K n t) := by
 refine ⟨fun pins s σ H v u Q I r hw => ?_⟩
 obtain ⟨a, xs, e1, hq, hl, hw⟩ := hw
 subst e1
 cases r
 obtain ⟨its, rv, pl, hz⟩ := I.list hq
 rw [PyProof.Rows.assign_Tuple]
 refine wpAny_bind (wpAny_standAt ?_)
 unfold unpack
 rw [hn, hst]
 have el : its.toArray.size = xs.length := by simp [rv.length]
 refine wpAny_bind (wpAny_holding (h0_ (I.ok.hd hc) pl.isList (by rw [el]; exact hl) (by rw [el]; exact hz) fun h2 tk k => ?_))
 have I1 : Inv X pins σ H { s with heap := h2, toks := tk } := I.kept k
 have nf : H h2.objs.size = none := I1.hok.fresh (Nat.le_refl _)
 have I2 := I1.laid (a := h2.objs.size) (o := .lst (xs.drop n)) (t' := tk) (h' := h2.push { cls := .type "list", data := .seq (its.toArray.toList.drop n).toArray }) (fun b o e => Heap.get?_push_of_some _ e) (Nat.le_refl _)
  ⟨by rw [List.length_drop]; omega, its.drop n, 0, rv.drop n, Heap.get?_push_size _ rfl⟩
 exact h.run pins _ σ _ (xs.take n ++ [.ref h2.objs.size]) _ Q I2 (show Vals (xs.take n ++ [V.ref h2.objs.size]) (its.take n ++ [Value.ref h2.objs.size]) from (rv.take n).append (.cons (show RelV (V.ref h2.objs.size) (Value.ref h2.objs.size) from rfl) .nil)) (hw _ nf)
end
end NX
namespace Mv
open PySem PySem.Spec PyProof.Rows L2 NX
section
variable {K : PySem.W.Frag} {F F' F1 F2 H H' H1 H2 : Hp} {v : V} {n : Nat} {as : Ro} {E E' : En} {fp : List Addr} {te ta tb : TE} {de : En -> Option (S × En)} {W : WXm}
theorem iL_ : ∀ {vs : List V} {ss : List S} {fp : List Addr} {ds : List PyData}, OwnL K F H vs ss fp -> bc_ ss = some ds -> DqAll K F vs ds /\ fp = []
 | _, _, _, _, .nil, e => by cases e; exact ⟨.nil, rfl⟩
 | _, _, _, ds, .cons (s := s) o l, e => by
  have e2 := hd_ e
  cases ds with
  | nil => cases e2
  | cons d ds =>
   injection e2 with h1 h2
   subst h1
   obtain ⟨q, rfl⟩ := o.dat_inv rfl
   have : bc_ (ds.map S.dat) = some ds := b8_ ds
   rw [h2] at l
   obtain ⟨r, rfl⟩ := iL_ l this
   exact ⟨.cons q r, rfl⟩
theorem kf_ : ∀ (k : Nat) {vs : List V} {ds : List PyData}, DqAll K F vs ds -> DqAll K F (vs.take k) (ds.take k)
 | 0, _, _, _ => .nil
 | _ + 1, _, _, .nil => .nil
 | k + 1, _, _, .cons a t => .cons a (kf_ k t)
theorem kg_ : ∀ (k : Nat) {vs : List V} {ds : List PyData}, DqAll K F vs ds -> DqAll K F (vs.drop k) (ds.drop k)
 | 0, _, _, h => h
 | _ + 1, _, _, .nil => .nil
 | k + 1, _, _, .cons a t => kg_ k t
theorem mq_ : ∀ {vs ws : List V} {ds es : List PyData}, DqAll K F vs ds -> DqAll K F ws es -> DqAll K F (vs ++ ws) (ds ++ es)
 | _, _, _, _, .nil, h => h
 | _, _, _, _, .cons a t, h => .cons a (mq_ t h)
def eN_ (k : Nat) (bs : List PyData -> En -> Option En) (de : En -> Option (S × En)) (E : En) : Option Out := match de E with
 | some (.lst ss, E1) => match bc_ ss with
  | some ds => if k <= ds.length then (bs (ds.take k ++ [.list (ds.drop k)]) E1).map .nx else none
  | none => none
 | _ => none
theorem mr_ {gs : TGs} {bs : List PyData -> En -> Option En} {k : Nat} (hs : os_ K n gs bs) (h : EvE K n as te de) : EvS K n as W (tAsg te (gStar K k gs)) (eN_ k bs de) := by
 intro F H σ E fp L R o e D gg
 unfold eN_ at e
 split at e
 ·next ss E1 ee =>
  split at e
  ·next ds hd =>
   split at e
   ·next hk =>
    obtain ⟨E2, e2, rfl⟩ := Option.map_eq_some_iff.mp e
    refine h L R ee fun v F1 H1 fr fp1 g1 R1 ow nd of => ?_
    obtain ⟨a, vs, fq, rfl, ha, l, rfl⟩ := ow.lst_inv rfl
    obtain ⟨dq, rfl⟩ := iL_ l hd
    have len := Mv.DqAll.len dq
    refine ⟨a, vs, rfl, .inl (.inl ha), by omega, fun p hp => ?_⟩
    have gs1 : Grow F1 H1 [] (upd F1 p (.lst (vs.drop k))) (upd H1 p (.lst (vs.drop k))) [] := Grow.share R1.sub hp
    have R2 := R1.grow gs1
    have da : DqAll K (upd F1 p (.lst (vs.drop k))) (vs.take k ++ [V.ref p]) (ds.take k ++ [.list (ds.drop k)]) :=
     mq_ (DqAll.mono gs1.f (kf_ k dq)) (.cons (.lst (.inl (.inl upd_same)) (DqAll.mono gs1.f (kg_ k dq))) .nil)
    have g12 : Grow F H fp (upd F1 p (.lst (vs.drop k))) (upd H1 p (.lst (vs.drop k))) fp1 := (g1.less fun b m => List.mem_append_right _ m).trans gs1.mine
    exact hs L R2 da e2 fun σ2 F2 H2 fp2 L2 g2 R3 => gg σ2 F2 H2 fp2 L2 (g12.trans g2) R3
   ·cases e
  ·cases e
 ·cases e
end
section
variable {K : PySem.W.Frag} {F F' F1 F2 H H' H1 H2 : Hp} {v : V} {vs ws : List V} {ss tts : List S} {n : Nat} {as : Ro} {E E' : En} {fp fq : List Addr}
theorem Rep.pushN {σ : L2.St} : ∀ {ws : List V} {tts : List S} {fq : List Addr} {as : Ro} {E : En} {fp : List Addr}, Rep K F H (σ ++ as) E fp -> OwnL K F H ws tts fq -> (fp ++ fq).Nodup -> (∀ a ∈ fq, F a = none) →
  ∃ fz, Rep K F H (σ ++ (as ++ ws.map some)) (E ++ tts.map Sl.own) fz /\ fz.Perm (fp ++ fq)
 | [], _, _, as, E, fp, R, .nil, _, _ => ⟨fp, by simpa using R, by simp⟩
 | w :: ws, _, _, as, E, fp, R, .cons (s := s) (ss := tts) (fp := f1) (fq := f2) o l, nd, of => by
  have nd1 : (f1 ++ fp).Nodup := by
   have : (fp ++ f1).Nodup := (List.nodup_append.mp (by rw [<- List.append_assoc] at nd; exact nd)).1
   exact List.perm_append_comm.nodup_iff.mp this
  have R1 := R.push o nd1 fun a m => of a (List.mem_append_left _ m)
  have p1 : (f1 ++ fp ++ f2).Perm (fp ++ (f1 ++ f2)) := by
   rw [<- List.append_assoc]
   exact List.Perm.append_right f2 List.perm_append_comm
  obtain ⟨fz, R2, pm⟩ := Rep.pushN R1 l (p1.nodup_iff.mpr nd) fun a m => of a (List.mem_append_right _ m)
  exact ⟨fz, by simpa [List.append_assoc] using R2, pm.trans p1⟩
def spG (ws : List V) (K : PySem.W.Frag) (m : Nat) (g : List S -> List S -> Option (S × List S × List S)) : Sp := fun vs H Q _ => vs.length = m /\ ∃ F ss tts fp fq s ss' tts', (∀ a o, F a = some o -> H a = some o) /\ OwnL K F H vs ss fp /\ OwnL K F H ws tts fq /\ (fp ++ fq).Nodup /\ (∀ a ∈ fp ++ fq, F a = none) /\ g ss tts = some (s, ss', tts') ∧
 ∀ v F' H' fr fp' fq', Grow F H (fp ++ fq) F' H' (fr ++ (fp' ++ fq')) -> OwnL K F' H' vs ss' fp' -> OwnL K F' H' ws tts' fq' -> Own K F' H' v s fr -> (fr ++ (fp' ++ fq')).Nodup -> (∀ a ∈ fr ++ (fp' ++ fq'), F' a = none) -> Q v H'
def oa_ (n : Nat) (d : En -> Option Out) (ss tts : List S) : Option (S × List S × List S) := match d (entry n ss ++ tts.map Sl.own) with
 | some (.rt s E) => (cD_ (E.drop n)).map fun l => (s, l.take ss.length, l.drop ss.length)
 | some (.nx E) => (cD_ (E.drop n)).map fun l => (.dat .none, l.take ss.length, l.drop ss.length)
 | _ => none
theorem OwnL.cut {k : Nat} : ∀ {vs ws : List V} {l : List S} {fp : List Addr}, OwnL K F H (vs ++ ws) l fp -> vs.length = k -> ∃ f1 f2, fp = f1 ++ f2 /\ OwnL K F H vs (l.take k) f1 /\ OwnL K F H ws (l.drop k) f2 := by
 intro vs ws l fp o hk
 have hl := o.length
 rw [List.length_append] at hl
 have e : l = l.take k ++ l.drop k := (List.take_append_drop k l).symm
 rw [e] at o
 exact OwnL.split (by rw [List.length_take]; omega) o
section
variable {P : Program} {w : World} {mg : Str -> Option Value} {base : Heap}
theorem lv_ {N ps : List Str} {dd : En -> Option Out} {ws : List V} {vs : List V} {H : Hp} {Q : VK} {E : XK} {t : TS} (hps : ps.length <= N.length) (h : spG ws K ps.length (oa_ N.length dd) vs H Q E) (h2 : ∀ W, EvS K N.length (vs.map some ++ ws.map some) W t dd) : t { nx := fun _ H' => Q .non H', rt := Q } (start N vs) H := by
 obtain ⟨hl, F, ss, tts, fp, fq, r, ss', tts', sub, l, lw, nd, of, hg, q⟩ := h
 have R0 := Rep.entry (N := N) sub l (List.nodup_append.mp nd).1 (fun a m => of a (List.mem_append_left _ m)) (by omega)
 obtain ⟨fz, R, pm⟩ := R0.pushN lw nd fun a m => of a (List.mem_append_right _ m)
 have L : (start N vs).length = N.length := by rw [b5_, List.length_append, List.length_map, List.length_replicate]; omega
 have hss : ss.length = vs.length := l.length.symm
 have back : ∀ {σ' : L2.St} {F' H' : Hp} {E' : En} {fp' fr : List Addr} {l : List S} {v : V} {r : S}, σ'.length = N.length -> Grow F H fz F' H' (fr ++ fp') -> Rep K F' H' (σ' ++ (vs.map some ++ ws.map some)) E' fp' -> cD_ (E'.drop N.length) = some l -> Own K F' H' v r fr -> (fr ++ fp').Nodup -> (∀ a ∈ fr, F' a = none) →
   (r, l.take ss.length, l.drop ss.length) = (r, ss', tts') -> (∀ v F' H' fr fp' fq', Grow F H (fp ++ fq) F' H' (fr ++ (fp' ++ fq')) -> OwnL K F' H' vs ss' fp' -> OwnL K F' H' ws tts' fq' -> Own K F' H' v r fr -> (fr ++ (fp' ++ fq')).Nodup -> (∀ a ∈ fr ++ (fp' ++ fq'), F' a = none) -> Q v H') -> Q v H' := by
  intro σ' F' H' E' fp' fr l v r L' g R' e1 ow nd' of' e2 q
  cases e2
  rw [<- List.map_append] at R'
  obtain ⟨fy, l2, n2, sb⟩ := R'.args L' e1
  obtain ⟨f1, f2, rfl, l3, l4⟩ := l2.cut (k := ss.length) hss.symm
  have nd2 : (fr ++ (f1 ++ f2)).Nodup := aG_ (List.nodup_append.mp nd').1 n2 fun a m b m2 => (List.nodup_append.mp nd').2.2 a m b (sb b m2)
  refine q v F' H' fr f1 f2 ((g.wide (fun a m => pm.mem_iff.mp m) (fun a m => (g.new a m).imp (fun z => pm.mem_iff.mp z) id)).less fun a m => ?_) l3 l4 ow nd2 fun a m => ?_
  ·rcases List.mem_append.mp m with m | m
   ·exact List.mem_append_left _ m
   ·exact List.mem_append_right _ (sb a m)
  ·rcases List.mem_append.mp m with m | m
   ·exact of' a m
   ·exact R'.off a (sb a m)
 unfold oa_ at hg
 split at hg
 ·next r' E' hd =>
  obtain ⟨l2, e1, e2⟩ := Option.map_eq_some_iff.mp hg
  have e3 : r' = r := congrArg Prod.fst e2
  subst e3
  exact h2 (fun _ _ _ _ => True) L R hd fun v σ' F' H' fr fp' L' g R' ow nd' of' => back L' g R' e1 ow nd' of' e2 q
 ·next E' hd =>
  obtain ⟨l2, e1, e2⟩ := Option.map_eq_some_iff.mp hg
  have e3 : S.dat .none = r := congrArg Prod.fst e2
  subst e3
  exact h2 (fun _ _ _ _ => True) L R hd fun σ' F' H' fp' L' g R' => back (v := .non) (fr := []) L' (by simpa using g) R' e1 (.dat .non) (by simpa using R'.nd) (fun _ z => nomatch z) e2 q
 ·cases hg
structure FunC (K : PySem.W.Frag) (x qual : Str) (st : Stmt) (f : Addr) (fd : FuncData) (cA : Addr) : Prop where
 ex : ∃ (oc : Value) (od : Option Addr) (kV doc pm : Value) (an : Option Addr) (ct : Value) (osl : Array (Option Value)),
  fd = PySem.W.fnOf x qual (defArgs st) (defBody st) (defScope st) .none kV doc pm an (.ref cA) ct /\ K.lookup f = some ⟨oc, od, .func fd, osl⟩ /\ PySem.W.codeIn K (.ref cA) qual = true
end
end
end Mv
set_option maxHeartbeats 2000000
namespace EndL
open PySem PySem.Spec PyProof.Rows L2 LamX
def TabE (K : PySem.W.Frag) (f : Addr) (h : Heap) : Prop := ∀ (c P : Addr) (o : Obj) (fd : FuncData) (e : Value) (dd : Option Addr) (vs : Array Value) (sl : Array (Option Value)), K.lookup f = some o -> o.data = .func fd -> fd.code = .ref c -> K.lookup c = some ⟨e, dd, .fields vs, sl⟩ -> vs[11]? = some (.ref P) →
 h.get? P = some { cls := .none, data := .fields #[] }
theorem walk_ofTab {l : PySem.W.OpenLaw} {n k : Nat} {q : Program} {loose : List Str} {XP : (Str -> Option Value) -> Heap -> Prop} {YP : World -> Heap -> Prop} {d : DefRec} {K : Params -> PySem.W.Frag} {CX : World -> CXT} {x : Str}
  (hn : l.most = some n) (hn2 : n <= sizeLine) (hdf : d.params.defaults = []) (hr : Room k callerA) (hY : ∀ (w : World) (h : Heap), YP w h -> (K w.params).In h)
  (F : ∀ (w : World) (mg : Str -> Option Value) (fa : Addr) (h : Heap), (K w.params).In h -> h.Ns mainGlobals mg -> mg d.name = some (.ref fa) -> (∀ y : Str, ((recsOf q).any fun e => e.name == y) = true -> ∀ f, mg y = some (.ref f) -> TabE (K w.params) f h) -> LawAtS l w (K w.params) (CX w) k n x mg fa h)
  (hCX : ∀ (w : World) (H : Hp) (s : Shared) (e : Value) (s' : Shared), CX w [] H s (fun _ _ _ => False) e s' -> False) :
  PySem.W.WalkO q loose XP YP l.row.toRowW d [] (fun f vs => PySem.call f vs) := by
 refine Att.attach_callB hn hdf fun w s₀ s₁ mg mb fa o pm cd doc a vs ns G Y ho hd hcd hmg hobj hints hlen hbits hg => ?_
 have KX := hY w _ Y
 have own : ∀ y : Str, ((recsOf q).any fun e => e.name == y) = true -> ∀ f, mg y = some (.ref f) -> TabE (K w.params) f s₁.heap := fun y hrec f hf c P o1 fd1 e dd vs1 sl k1 k2 k3 k4 k5 => by
  obtain ⟨dL, hm, hn1⟩ := List.any_eq_true.mp hrec
  have hn2 : dL.name = y := beq_iff_eq.mp hn1
  obtain ⟨a', o', fd', c', P', h1, h2, h3, h4, h5, h6⟩ := G.T.tab dL hm
  rw [hn2, hf] at h1
  cases h1
  have g1 := KX _ _ k1
  rw [g1] at h2
  cases h2
  rw [k2] at h3
  cases h3
  rw [k3] at h4
  cases h4
  obtain ⟨⟨oc, vc, e1, _, e3, e4⟩, hP⟩ := h6
  have g2 := KX _ _ k4
  rw [g2] at e1
  cases e1
  cases e3
  rw [k5] at e4
  cases e4
  exact hP
 obtain ⟨fd, cs, sp, hT, nT, C, hb, hsp, hF⟩ := F w mg fa _ KX G.T.g hmg own
 exact law_callTs KX G.T.g G.T.b G.T.builtins G.T.nolimit hg hT nT C G.T.bmain hobj hints (Nat.le_trans hlen hn2) hr hF hb (fun H hH hS => hsp H a ns hlen hbits hH hS) fun H e s' => hCX w H s₁ e s'
end EndL
namespace Mv
open PySem PySem.Spec PyProof.Rows L2 LamX CLX
theorem kh_ {K : PySem.W.Frag} {H : Hp} {a : Addr} {ns : List Int} (hS : SqL K H a (ns.map V.int)) (tabs : List (Addr × Str)) (nd : (tabs.map (·.1)).Nodup) (hT : ∀ p ∈ tabs, H p.1 = some (.tbl #[])) :
  ∃ F : Hp, (∀ b o, F b = some o -> H b = some o) /\ OwnL K F H [.ref a] [.dat (.list (ns.map .int))] [] /\ OwnL K F H (tabs.map fun p => .ref p.1) (tabs.map fun p => .ext (jf_ p.1 p.2)) (tabs.map (·.1)) /\ (∀ b ∈ tabs.map (·.1), F b = none) := by
 let F : Hp := fun b => if b = a /\ b ∉ tabs.map (·.1) then H b else none
 have sub : ∀ b o, F b = some o -> H b = some o := fun b o e => by
  by_cases hb : b = a /\ b ∉ tabs.map (·.1)
  ·rw [<- show F b = H b from if_pos hb]; exact e
  ·rw [show F b = none from if_neg hb] at e; cases e
 have off : ∀ b ∈ tabs.map (·.1), F b = none := fun b m => if_neg fun z => z.2 m
 have hF : SqL K F a (ns.map V.int) := hS.imp (fun rd => by
  have na : a ∉ tabs.map (·.1) := fun m => by
   obtain ⟨p, hp, e⟩ := List.mem_map.mp m
   have := hT p hp
   rw [e] at this
   rcases rd with z | ⟨o, z⟩
   ·rw [this] at z; cases z
   ·rw [this] at z; cases z
  have fa : F a = H a := if_pos ⟨rfl, na⟩
  rcases rd with z | ⟨o, z⟩
  ·exact .inl (fa.trans z)
  ·exact .inr ⟨o, fa.trans z⟩) id
 have hd : ∀ (ns : List Int), DqAll K F (ns.map V.int) (ns.map PyData.int) := by
  intro ns
  induction ns with
  | nil => exact .nil
  | cons i r ih => exact .cons (.int i) ih
 refine ⟨F, sub, .cons (fp := []) (.dat (.lst hF (hd ns))) .nil, ?_, off⟩
 have : ∀ ts : List (Addr × Str), (∀ p ∈ ts, H p.1 = some (.tbl #[])) -> OwnL K F H (ts.map fun p => .ref p.1) (ts.map fun p => .ext (jf_ p.1 p.2)) (ts.map (·.1)) := by
  intro ts h
  induction ts with
  | nil => exact .nil
  | cons p r ih => exact .cons (fp := [p.1]) (.ext ⟨rfl, rfl, #[], h p (by simp), trivial, fun pos cv e => by cases e⟩) (ih fun q m => h q (List.mem_cons_of_mem _ m))
 exact this tabs hT
theorem nj_ {K : PySem.W.Frag} {H : Hp} {a : Addr} {ns : List Int} {E : XK} {tabs : List (Addr × Str)} {g : List S -> List S -> Option (S × List S × List S)} {ss tts : List S} (hS : SqL K H a (ns.map V.int)) (nd : (tabs.map (·.1)).Nodup) (hT : ∀ p ∈ tabs, H p.1 = some (.tbl #[]))
  (hg : g [.dat (.list (ns.map .int))] (tabs.map fun p => .ext (jf_ p.1 p.2)) = some (.dat (.bool true), ss, tts)) : spG (tabs.map fun p => .ref p.1) K 1 g [.ref a] H (fun v _ => v = .bl true) E := by
 obtain ⟨F, sub, l1, l2, off⟩ := kh_ hS tabs nd hT
 refine ⟨rfl, F, _, _, [], tabs.map (·.1), .dat (.bool true), ss, tts, sub, l1, l2, by simpa using nd, by simpa using off, hg, fun v F' H' fr fp' fq' g o1 o2 ov nd of => ?_⟩
 have := (Own.dat_inv ov rfl).1
 cases this
 rfl
end Mv
set_option maxHeartbeats 1000000
namespace NX
open PySem PySem.Spec PyProof.Rows L2
end NX
set_option maxHeartbeats 6400000
namespace L2
open PySem PySem.Spec PyProof.Rows
def XF (Y : Cx) (W : WX) (u : Value) (s' : Shared) : Prop :=
 ∃ (a : Addr) (B : Heap) (sI : Shared) (pins : List (Addr × Obj)) (σ : St) (H : Hp) (cls : Value) (d : Option Addr),
  u = .ref a /\ Inv Y pins σ H sI /\ (∀ b o, sI.heap.get? b = some o -> b ∉ frs Y.stack -> B.get? b = some o) /\ sI.heap.UpToSlots s'.heap ∧
   HandSPX.FlyingZ B Y.stack a (Zc cls d) s'.heap /\ H a = none /\ s'.os = sI.os /\ AllBare s'.gens /\ W cls d σ H
section
variable {X Y : Cx} {pins : List (Addr × Obj)} {σ : St} {H : Hp} {s s' : Shared} {W : WX} {E : XK}
theorem XF.of_call (I : Inv Y pins σ H s) {u : Value} (c : CX Y.prog Y.w Y.stack H s (WE W σ) u s') : XF Y W u s' := by
 obtain ⟨a, B, H', cls, d, rfl, fl, hok, ub, na, os, ag, hE⟩ := c
 have st : B.StaysIn s'.heap := fl.1
 obtain ⟨G, g1, g2⟩ := restrict s'.heap fun b => (B.get? b).isSome || decide (b ∈ frs Y.stack)
 have inB : ∀ b o, B.get? b = some o -> G.get? b = some o := fun b o e => (g1 b (by simp [e])).trans (st b o e)
 have inF : ∀ b, b ∈ frs Y.stack -> G.get? b = s'.heap.get? b := fun b hb => g1 b (by simp [hb])
 have back : ∀ b o, G.get? b = some o -> s'.heap.get? b = some o /\ (b ∉ frs Y.stack -> B.get? b = some o) := fun b o e => by
  by_cases q : ((B.get? b).isSome || decide (b ∈ frs Y.stack)) = true
  ·rw [g1 b q] at e
   refine ⟨e, fun hb => ?_⟩
   have hs : (B.get? b).isSome = true := by simpa [hb] using q
   obtain ⟨o', z⟩ := Option.isSome_iff_exists.mp hs
   rw [st b o' z] at e
   rw [z, e]
  ·rw [g2 b (by simpa using q)] at e; cases e
 have J : Inv Y pins σ H' { s with heap := G, gens := s'.gens, drawn := s'.drawn, toks := s'.toks } := by
  refine I.call (ch := []) ⟨fun b o e n hb _ => inB b o (ub.keep b o e n hb), fun b o e n hb _ => ?_, fun b o e n _ => ub.free b o e n, fun b o e _ => ?_, ub.tups, ub.frzs, ub.tbls⟩ (hok.kept inB) ag (fun _ z => nomatch z)
  ·obtain ⟨sl, q⟩ := ub.slot b o e hb
   exact ⟨sl, (inF b hb).trans q⟩
  ·by_cases hb : b ∈ frs Y.stack
   ·obtain ⟨sl, q⟩ := ub.slot b o e hb
    exact ⟨_, (inF b hb).trans q⟩
   ·obtain ⟨o', q⟩ := ub.there b o e hb
    exact ⟨o', inB b o' q⟩
 exact ⟨a, B, _, pins, σ, H', cls, d, rfl, J, fun b o e => (back b o e).2, Heap.UpToSlots.of_keeps fun b o e => (back b o e).1, fl, na, os, ag, hE⟩
theorem h1_ {B h : Heap} {l : List Env} {a C : Addr} {Z : Obj -> Prop} (f : HandSPX.FlyingZ B l a Z h) : HandSPX.FlyingZ (PySem.W.hideAll B [C]) l a Z h := by
 obtain ⟨h1, h2, h3, oe, vs, T, oT, ts, he, hz, hd, ht, hT, r⟩ := f
 have none : ∀ b, B.get? b = none -> (PySem.W.hideAll B [C]).get? b = none := fun b e => by
  cases q : (PySem.W.hideAll B [C]).get? b with
  | none => rfl
  | some o =>
   have z := PySem.W.of_hideAll _ q
   rw [e] at z; cases z
 exact ⟨fun b o e => h1 b o (PySem.W.of_hideAll _ e), none _ h2, funFrames_none h3 fun b hb => none b (h3.mem hb).1, oe, vs, T, oT, ts, he, hz, hd, ht, none _ hT, r⟩
theorem Inv.xe (I : Inv Y pins σ H s) (xe : Value -> Shared -> Prop) : Inv (Y.tr Y.pn xe) pins σ H s :=
 ⟨I.ok.toTry _ _, I.os, I.bare, I.base, I.loc, I.cell, I.free, I.freeC, I.pin, I.hok, I.len⟩
theorem Inv.unxe {xe : Value -> Shared -> Prop} (I : Inv (Y.tr Y.pn xe) pins σ H s) : Inv Y pins σ H s :=
 ⟨I.ok.ofTry, I.os, I.bare, I.base, I.loc, I.cell, I.free, I.freeC, I.pin, I.hok, I.len⟩
end
section
variable {X Y : Cx} {pins : List (Addr × Obj)} {σ : St} {H : Hp} {s s' : Shared} {W : WX} {E : XK}
theorem XF.out {ce : Env} {u : Value} (hs : X.stack = X.env :: X.outer) (hf : X.env.frame = some X.env.locals) (hcf : ce.frame = X.env.frame) (hY : Y.stack = X.stack) (hYe : Y.env = ce) (tk : Takes X W)
  (back : ∀ p' σ' H' sI, Inv Y p' σ' H' sI -> Inv X pins σ H' sI) (fC : ∀ p' σ' H' sI, Inv Y p' σ' H' sI -> FpOk X pins H' ce.locals)
  (x : XF Y (fun cls d _ H => W cls d σ H) u s') : notedBy (model X.prog X.w) X.A ce (CompFails (model X.prog X.w) X.A X.xe ce) u s' := by
 obtain ⟨a, B, sI, p', σ', H', cls, d, rfl, I, nb, up, fl, na, os, ag, w⟩ := x
 have I' := back _ _ _ _ I
 have f := fC _ _ _ _ I
 obtain ⟨m, hn, _⟩ := I.loc
 rw [hYe] at hn
 have hfr : X.A.frames = some (X.env :: X.outer) := by rw [I'.ok.frames, hs]
 have fl' := h1_ (C := ce.locals) fl
 rw [hY] at fl' nb
 show wpAny _ _ (noteFrame (.ref a) ce) _ _ _
 rw [noteFrame_env _ hcf]
 rw [hs] at fl'
 refine HandSPX.looks_onZ Zc.steady hfr hf fl' fun h1 hh up1 => ?_
 have hn1 : h1.Ns ce.locals m := (hn.upToSlots up).upToSlots up1
 refine ⟨m, hn1, fun h2 m2 hn2 sb => ?_⟩
 obtain ⟨st, hne, ff, oe, vs, T, oT, ts, he, hz, hd, ht1, hTB, hTe, hT, hTd, h3⟩ := hh
 obtain ⟨oC, es, ep, hoC, hdC, _⟩ := hn1
 have rcd : ∀ b o us, h1.get? b = some o -> o.data = .fields us -> b ≠ ce.locals := fun b o us e1 e2 z => by
  rw [z, hoC] at e1; cases e1
  rw [hdC] at e2; cases e2
 have e2 : h2.get? a = some oe := (sb.2 a (rcd a oe vs he hd)).trans he
 have T2 : h2.get? T = some oT := (sb.2 T (rcd T oT ts hT hTd)).trans hT
 have hidC : ∀ G : Heap, ∀ b o, (PySem.W.hideAll G [ce.locals]).get? b = some o -> b ≠ ce.locals /\ G.get? b = some o := fun G b o e => by
  refine ⟨fun z => ?_, PySem.W.of_hideAll _ e⟩
  rw [z, PySem.W.hideAll_none _ (List.mem_singleton.mpr rfl)] at e
  cases e
 have st2 : (PySem.W.hideAll B [ce.locals]).StaysIn h2 := fun b o e => (sb.2 b (hidC B b o e).1).trans (st b o e)
 have ff2 := Heap.FunFrames.sameBut sb hn2 ff
 unfold PySem.passOn
 rw [hcf, hf]
 refine wpAny_bind (wpAny_field e2 hd ht1 ?_)
 rw [if_neg (show ¬ ((Value.ref T == Value.none) = true) from by simp)]
 refine wpAny_bind (HandSPX.setFlight_anyZ (fr := some X.env.locals) st2 ff2 (Z := Zc cls d) ⟨oe, vs, T, oT, ts, e2, hz, hd, ht1, hTB, hTe, T2, hTd, h3⟩ fun h4 k1 k2 k3 k4 => ?_)
 refine wpAny_throw (tk _ _ ⟨a, PySem.W.hideAll B [ce.locals], { sI with heap := PySem.W.hideAll sI.heap [ce.locals] }, pins, σ, H', cls, d, rfl, ?_, fun b o e hb => ?_, fun b o e hnf => ?_, .inr (.inr ?_), na, os, ag, w⟩)
 ·obtain ⟨f0, f1, f2, f3, f4, f5⟩ := f
  exact I'.turned (t' := sI.toks) (fun b o hb e => PySem.W.hideAll_get _ e (fun z => hb (List.mem_singleton.mp z))) f0 f1 f3 f4 f5
 ·obtain ⟨q1, q2⟩ := hidC _ b o e
  exact PySem.W.hideAll_get _ (nb b o q2 hb) (fun z => q1 (List.mem_singleton.mp z))
 ·obtain ⟨q1, q2⟩ := hidC _ b o e
  obtain ⟨sl1, z1⟩ := up b o q2 hnf
  obtain ⟨sl2, z2⟩ := up1 b _ z1 hnf
  obtain ⟨sl3, z3⟩ := k4 b _ ((sb.2 b q1).trans z2) hnf
  exact ⟨sl3, z3⟩
 ·rw [hs]
  exact ⟨k1, hne, k2, k3⟩
end
section
variable {X : Cx} {W0 : WX}
abbrev Cx.blkX (X : Cx) (s : Shared) (H : Hp) (scope : Scope) (ce : Env) (fp : List Addr) (xe : Value -> Shared -> Prop) : Cx := (X.blk s H scope ce fp).tr [] xe
abbrev qL_ (X : Cx) (scope : Scope) (elt : Expr) (te : WX -> TE) : Prop :=
 ∀ (s : Shared) (H : Hp) (C : Addr) (cl : List (Str × Addr)) (fp : List Addr) (W : WX) (xe : Value -> Shared -> Prop), (∀ σ, PassesAt (L2.CX X.prog X.w) (X.blkX s H scope (compEnvC scope cl C X.env) fp xe) σ (WE W σ)) →
  PE (X.blkX s H scope (compEnvC scope cl C X.env) fp xe) elt (te W)
abbrev qc_ (wi : TI) (g : TG) (tt : TT) (te : WX -> TE) (vs : List Nat) (W0 : WX) : TE := fun σ H Q => tLc wi g tt (te fun cls d _ H' => W0 cls d σ H') vs σ H Q
theorem iM_ {M : Model} {A : Around} {E : Value -> Shared -> Prop} {use : Option (Value -> Sem Unit)} {Q : Value -> Shared -> Prop} {acc x : Value} {ce : Env} {s' : Shared} (h : CompFails M A E ce x s') : compEnds M A E use Q acc ce (.error x) s' := by cases use <;> exact h
theorem lw_ {pins : List (Addr × Obj)} {s : Shared} {σ : St} {H : Hp} {Q : VK} {elt tg iter : Expr} {ifs : List Expr} {scope : Scope} {own : List (Str × Nat)} {pos pos' : Pos} {wi : TI} {g : TG} {tt : TT} {te : WX -> TE} {use : Option (Value -> Sem Unit)} {Qf : Value -> Shared -> Prop}
  (hst : X.stack = X.env :: X.outer) (hfr : X.env.frame = some X.env.locals) (tk : Takes X W0)
  (hc : X.calm = true) (hN : X.N.Nodup) (I : Inv X pins σ H s) (hi : PI X tg iter wi) (ok : BlkOk X.N X.env.scope scope own)
  (hg : ∀ (s : Shared) (H : Hp) (C : Addr) (cl : List (Str × Addr)) (fp : List Addr), PG (X.blk s H scope (compEnvC scope cl C X.env) fp) tg g) (ht : ∀ (s : Shared) (H : Hp) (C : Addr) (cl : List (Str × Addr)) (fp : List Addr), PTs (X.blk s H scope (compEnvC scope cl C X.env) fp) ifs tt)
  (he : qL_ X scope elt te) (hs : ∀ x, foldedSetIterable iter X.env x = pure x)
  (h : qc_ wi g tt te (own.map (·.2)) W0 σ H Q)
  (hRR : ∀ D (ce : Env) s' m H', Inv X pins σ H' s' -> Q (.ref D) H' -> s'.heap.Ns ce.locals m -> FpOk X pins H' ce.locals -> compEnds (model X.prog X.w) X.A X.xe use Qf (.ref D) ce (.ok .next) s') :
  wpAny (model X.prog X.w) X.A (comprehension (.ListComp elt [⟨tg, iter, ifs, 0⟩] scope pos) scope X.env pos' (newList []) false (eval iter X.env) use) Qf X.xe s := by
 have hfree : ∀ y ∈ scope.names, y.2 = .free -> ∃ c, X.env.cells.lookup y.1 = some c := fun y hy e => by
  rcases ok.free y hy e with k | k
  ·exact I.ok.has _ (.inl k)
  ·exact I.ok.has _ (.inr k)
 refine comprehension_at (use := use) rfl hs (closure_ok hfree) ok.kind (fun y hy e => by rw [ok.uniq y hy, e])
  (thn (hi.run pins s σ H _ I h) fun xv s1 hx => thn hx fun itv s2 h2 => ?_)
 obtain ⟨it, fp, tn, J, H2, e, I2, T, st2, f2, q⟩ := h2
 subst e
 refine wpAny_newObj_type (newEnv_comp ?_) (by show 0 <= sizeLine; decide)
 generalize hD : s2.heap.objs.size = D
 obtain ⟨M0, ⟨m0, w0⟩, turn⟩ := q D (I2.hok.fresh (Nat.le_of_eq hD))
 generalize hs3 : ({ s2 with heap := s2.heap.push { cls := .type "list", data := .seq ([] : List Value).toArray } } : Shared) = s3
 have h3 : s3.heap = s2.heap.push { cls := .type "list", data := .seq ([] : List Value).toArray } := by rw [<- hs3]
 have I3 : Inv X pins σ (upd H2 D (.lst [])) s3 := by
  rw [<- hs3]
  refine I2.laid (t' := s2.toks) (fun b o e => Heap.get?_push_of_some _ e) (Nat.le_of_eq hD) ⟨Nat.zero_le _, [], 0, .nil, ?_⟩
  rw [<- hD]
  exact Heap.get?_push_size _ rfl
 have old : ∀ b ∈ fp, b < s2.heap.objs.size := fun b hb => (T.obj _ _ st2 b hb).elim fun o e => Heap.lt_size e.1
 have f3 : ∀ b ∈ fp, FpOk X pins (upd H2 D (.lst [])) b /\ b < s3.heap.objs.size := fun b hb =>
  ⟨⟨(upd_ne (by rw [<- hD]; exact Nat.ne_of_lt (old b hb))).trans (f2 b hb).1, (f2 b hb).2⟩, by rw [h3, Heap.size_push]; exact Nat.lt_succ_of_lt (old b hb)⟩
 have st3 : tn 0 s3.heap := T.keep _ _ _ st2 fun b _ o e => by rw [h3]; exact Heap.get?_push_of_some _ e
 have I4 := block_start I3 ok hN f3
 show codeAny _ _ (.compStart (.ListComp elt [⟨tg, iter, ifs, 0⟩] scope pos) 0 (.ref it) (.ref D) (compEnvC scope (cellsFrom (s3.heap.objs.size + 1) scope.names (cloFrom X.env.cells scope.names [])) s3.heap.objs.size X.env)) (compEnds (model X.prog X.w) X.A X.xe use Qf (.ref D) (compEnvC scope (cellsFrom (s3.heap.objs.size + 1) scope.names (cloFrom X.env.cells scope.names [])) s3.heap.objs.size X.env)) { s3 with heap := pushCells (s3.heap.push { cls := .type "dict", data := .dict #[] }) scope.names }
 generalize hH3 : upd H2 D (.lst []) = H3 at I3 I4 w0 f3
 have pg := hg s3 H3 s3.heap.objs.size (cellsFrom (s3.heap.objs.size + 1) scope.names (cloFrom X.env.cells scope.names [])) fp
 have pt := ht s3 H3 s3.heap.objs.size (cellsFrom (s3.heap.objs.size + 1) scope.names (cloFrom X.env.cells scope.names [])) fp
 have pe := he s3 H3 s3.heap.objs.size (cellsFrom (s3.heap.objs.size + 1) scope.names (cloFrom X.env.cells scope.names [])) fp (fun cls d _ H' => W0 cls d σ H')
 have hfC : (compEnvC scope (cellsFrom (s3.heap.objs.size + 1) scope.names (cloFrom X.env.cells scope.names [])) s3.heap.objs.size X.env).frame = X.env.frame := rfl
 generalize hce : compEnvC scope (cellsFrom (s3.heap.objs.size + 1) scope.names (cloFrom X.env.cells scope.names [])) s3.heap.objs.size X.env = ce at I4 pg pt pe hfC ⊢
 have cL : ce.locals = s3.heap.objs.size := by subst hce; rfl
 generalize hs4 : ({ s3 with heap := pushCells (s3.heap.push { cls := .type "dict", data := .dict #[] }) scope.names } : Shared) = s4 at I4 ⊢
 have st4 : tn 0 s4.heap := T.keep _ _ _ st3 fun b _ o e => by rw [<- hs4]; exact pushCells_keeps _ _ _ _ (Heap.get?_push_of_some _ e)
 -- the block's states are the def's
 have home : ∀ {p' : List (Addr × Obj)} {σ' : St} {H' : Hp} {s' : Shared}, Inv (X.blk s3 H3 scope ce fp) p' σ' H' s' -> Inv X pins σ H' s' /\ FpOk X pins H' ce.locals := fun {p' σ' H' s'} I' => by
  refine ⟨I3.call' (ch := fp) I'.os I'.base I'.hok I'.bare fun b hb => ⟨(f3 b hb).1.2.2.2.1, (f3 b hb).1.2.1, (f3 b hb).1.2.2.2.2.1, (f3 b hb).1.2.2.2.2.2⟩, ?_⟩
  have z : H' ce.locals = none := I'.free
  rw [cL] at z ⊢
  exact I3.fpOk (Nat.le_refl _) z
 have pe := pe (notedBy (model X.prog X.w) X.A ce (CompFails (model X.prog X.w) X.A X.xe ce)) fun σ' p' H' s' e s'' I' c =>
  XF.out (Y := X.blkX s3 H3 scope ce fp _) (pins := pins) (W := W0) (σ := σ) hst hfr hfC rfl rfl tk (fun _ _ _ _ J => (home (Inv.unxe (Y := X.blk s3 H3 scope ce fp) J)).1) (fun _ _ _ _ J => (home (Inv.unxe (Y := X.blk s3 H3 scope ce fp) J)).2)
   (XF.of_call (Y := X.blkX s3 H3 scope ce fp _) (W := fun cls d _ H' => W0 cls d σ H') I' c)
 have stat : ∀ {σ' : St} {H' : Hp} {s' : Shared}, Inv (X.blk s3 H3 scope ce fp) [] σ' H' s' -> (∀ b ∈ fp, H' b = none) -> ∀ b ∈ fp, FpOk (X.blk s3 H3 scope ce fp) [] H' b := fun {σ' H' s'} I' hn b hb =>
  ⟨hn b hb, (I'.ok.exf b hb).1, I'.ok.exfs b hb, .inl hb, fun x c e => (I'.ok.exf b hb).2 x c e, fun p hp => absurd (show p ∈ ([] : List (Addr × Obj)) ++ [] from hp) (by simp)⟩
 refine codeAny_compStart_list ?lp (T.self X.A 0 _ _ _ st4 ?lp)
 refine compLoop_any (fun n s' => ∃ i H', Inv (X.blk s3 H3 scope ce fp) [] (wipe σ (own.map (·.2))) H' s' /\ tn i s'.heap /\ (∀ b ∈ fp, H' b = none) /\ M0 i n H') ?_ m0 ⟨0, H3, I4, st4, fun b hb => (f3 b hb).1.1, w0⟩
 rintro n s5 ⟨i, H5, I5, st5, n5, w5⟩
 rcases turn i n H5 w5 with ⟨stop, qq⟩ | ⟨go, Nx, hNx, step⟩
 ·refine thnF (T.done (X.blk s3 H3 scope ce fp) rfl rfl rfl hc i [] s5 _ H5 (fun _ _ => False) I5 (stat I5 n5) st5 stop) fun r s6 ⟨hr, I6⟩ => ?_
  subst hr
  obtain ⟨m, hn, _⟩ := I6.loc
  exact hRR D ce s6 m H5 (home I6).1 qq hn (home I6).2
 ·refine thnF (T.item (X.blk s3 H3 scope ce fp) rfl rfl rfl hc i [] s5 _ H5 (fun _ _ => False) I5 (stat I5 n5) st5 go) fun r s6 ⟨u, hr, h6⟩ => ?_
  subst hr
  refine thnF h6 fun _ s7 ⟨x, H7, I7, r7, y7, st7, n7⟩ => ?_
  have I7' := I7.pinned (stat I7 n7) (T.obj _ _ st7)
  refine thnF (pg.run _ s7 _ H7 x u _ I7' r7 (step x H7 y7)) fun _ s8 ⟨σ8, H8, I8, hw8, q8⟩ => ?_
  refine thnF (pt.run _ s8 σ8 H8 _ I8 q8) fun b s9 ⟨H9, I9, q9⟩ => ?_
  have fin : ∀ {s' : Shared} {H' : Hp}, Inv (X.blk s3 H3 scope ce fp) ([] ++ pinsAt fp s7.heap) σ8 H' s' -> Nx H' -> ∃ m, m < n /\ ∃ i H', Inv (X.blk s3 H3 scope ce fp) [] (wipe σ (own.map (·.2))) H' s' /\ tn i s'.heap /\ (∀ b ∈ fp, H' b = none) /\ M0 i m H' := fun {s' H'} I' nx => by
   obtain ⟨m', hm, w'⟩ := hNx H' nx
   have there : ∀ b ∈ fp, ∀ o, s7.heap.get? b = some o -> s'.heap.get? b = some o /\ H' b = none := fun b hb o e => (fun z => ⟨z.1, z.2.1⟩) (I'.pin (b, o) (List.mem_append_right _ (List.mem_append_right _ (mem_pinsAt hb e))))
   refine ⟨m', hm, i + 1, H', (I'.unpinned (pins := [])).weak (by rw [<- hw8, wipe_length]) (fun j v e => ?_), T.keep _ _ _ st7 fun b hb o e => (there b hb o e).1, fun b hb => (T.obj _ _ st7 b hb).elim fun o e => (there b hb o e.1).2, w'⟩
   rw [<- hw8] at e
   exact (wipe_some e).1
  cases b with
  | false =>
   simp only [Bool.false_eq_true, if_false] at q9 ⊢
   exact fin I9 q9
  | true =>
   simp only [if_true] at q9 ⊢
   refine wpAny_mono (pe.run _ s9 σ8 H9 _ (I9.xe _) q9) (fun z s10 hz => ?_) fun u s' hu => wpAny_mono hu (fun _ _ z => iM_ z) fun _ _ z => iM_ z
   obtain ⟨yv, H10, I10, r10, acc, hD10, hz10, nx⟩ := hz
   exact wpAny_mono (app_ok (X := X.blk s3 H3 scope ce fp) I10.unxe hD10 hz10 r10 fun s11 I11 => fin I11 nx) (fun _ _ z => z) fun _ _ z => False.elim z
end
section
variable {X : Cx} {W0 : WX} {elt tg iter : Expr} {ifs : List Expr} {scope : Scope} {own : List (Str × Nat)} {pos spos py : Pos} {wi : TI} {g : TG} {tt : TT} {te : WX -> TE} {i : Nat} {y : Str}
theorem oJ_ (hst : X.stack = X.env :: X.outer) (hfr : X.env.frame = some X.env.locals) (tk : Takes X W0) (hc : X.calm = true) (hN : X.N.Nodup) (hi : PI X tg iter wi) (ok : BlkOk X.N X.env.scope scope own)
  (hg : ∀ (s : Shared) (H : Hp) (C : Addr) (cl : List (Str × Addr)) (fp : List Addr), PG (X.blk s H scope (compEnvC scope cl C X.env) fp) tg g) (ht : ∀ (s : Shared) (H : Hp) (C : Addr) (cl : List (Str × Addr)) (fp : List Addr), PTs (X.blk s H scope (compEnvC scope cl C X.env) fp) ifs tt)
  (he : qL_ X scope elt te) (hs : ∀ x, foldedSetIterable iter X.env x = pure x := by intro _; rfl) :
  PE X (.ListComp elt [⟨tg, iter, ifs, 0⟩] scope pos) (qc_ wi g tt te (own.map (·.2)) W0) := by
 refine ⟨fun pins s σ H Q I h => ?_⟩
 rw [eval_ListComp]
 refine lw_ hst hfr tk hc hN I hi ok hg ht he hs h fun D ce s' m H' I' q hn f => ⟨m, hn, fun h'' sb => ?_⟩
 obtain ⟨f0, f1, f2, f3, f4, f5⟩ := f
 exact ⟨.ref D, H', I'.turned (t' := s'.toks) (fun b o hb e => (sb.2 b hb).trans e) f0 f1 f3 f4 f5, rfl, q⟩
end
end L2
set_option maxHeartbeats 4000000
namespace NX
open PySem PySem.Spec PyProof.Rows L2
def tKGet1 (K : PySem.W.Frag) (d : Addr) (td ty : TE) : TE := fun σ H Q => td σ H fun x H1 => x = .ref d /\ ty σ H1 fun y H2 => ∃ (z : Str) (r : Option Value), y = .str z /\ PySem.W.nsIn K d z = some r /\ (r = none -> Q .non H2) /\ ∀ u0, r = some u0 -> ∃ v0, RelV v0 u0 /\ Q v0 H2
theorem pe_kget1 {X : Cx} {d : Addr} {es : Array DictEntry} {n : Nat} {o e : Expr} {apos cpos : Pos} {td ty : TE} (D : KDict X.K X.w d es n) (ho : PE X o td) (he : PE X e ty) (m : M1 X o "get" apos e cpos) : PE X (.Call (.Attribute o "get" apos) [e] [] cpos) (tKGet1 X.K d td ty) := by
 refine ⟨fun pins s σ H Q I h => ?_⟩
 refine wpAny_Call_method m.base m.few m.line PySem.F.plainAttrs_dict PySem.F.slot_dict_get PySem.F.type_dict_get (thn (ho.run pins s σ H _ I h) fun u s1 ⟨x, H1, I1, rx, ex, q1⟩ => ?_)
 subst ex
 obtain rfl : u = Value.ref d := rx
 refine ⟨kd_type D I1, fun b q => ?_, ?_⟩
 ·cases q
  exact ⟨_, I1.kIn _ _ D.at_, rfl⟩
 rw [m.trees]
 refine Calls.callWith_builtin rfl (Calls.evalArgs_plain (Calls.spliced_cons (thn (he.run pins s1 σ H1 _ I1 q1) fun iv s2 ⟨y, H2, I2, ry, z, r, ey, en, qn, qs⟩ => Calls.spliced_nil ?_)))
 subst ey
 obtain ⟨t, rfl⟩ := ry
 refine call_meetsIn PySem.F.slot_dict_get (kd_type D I2) PySem.F.entry_dict_get (PySem.F.args_dict_get_2 _ _) (meets_dict_get (PySem.strKind X.prog X.w) d (PySem.strKind_is X.prog X.w z t) D.low) ⟨_, PySem.W.mapOf_K (prog := X.prog) I2.kIn D.at_ D.lit, ?_⟩
 rw [PySem.W.find_K D.at_ en]
 cases r with
 | none => exact ⟨.non, H2, I2.tok _, rfl, qn rfl⟩
 | some u0 =>
  obtain ⟨v0, r0, q0⟩ := qs u0 rfl
  exact ⟨v0, H2, I2.tok _, r0, q0⟩
structure BaseI (K : PySem.W.Frag) (B : Addr) : Prop where
 ga : PySem.W.specialIn K (.ref B) "__getattribute__" = some (some (.builtin "type.__getattribute__"))
 rd : PySem.W.readsIn K B (.type "type") = true
 ini : PySem.W.findCls K (.ref B) (.type "type") "__init__" = some (.val (.builtin "ValueError.__init__"))
theorem pe_binit {X : Cx} {e : Expr} {es : List Expr} {ta : TA} {B : Addr} {x : Str} {p1 p2 pos : Pos} {pl : Sem Bool} (hg : Gl X x) (hm : X.mg x = some (.ref B)) (b : BaseI X.K B) (ha : PA X (e :: es) ta) (hdb : (x == ("__debug__" : Str)) = false := by decide)
  (hc : eval (.Call (.Attribute (.Name x p1) "__init__" p2) (e :: es) [] pos) X.env = (do
   let ov <- eval (.Name x p1) X.env
   standAt p2.atName
   let (f, first) <- holding [ov] (getMethod ov "__init__" pl)
   callWith pos f first (backTo pos (starEach (e :: es) X.env)) (backToKw pos (keywordEach [] X.env))) := by rfl)
  (he : starEach (e :: es) X.env = (false, eval e X.env) :: starEach es X.env := by rfl) (hpl : (backTo pos (starEach es X.env)).any (·.1) = false := by rfl) :
  PE X (.Call (.Attribute (.Name x p1) "__init__" p2) (e :: es) [] pos) (tVeI X.K ta) := by
 refine ⟨fun pins s σ H Q I h => ?_⟩
 refine PySem.W.methodCall_KW (ld_glob I hg hm ?_ hdb) hc
 refine PySem.W.method_cls I.kIn b.ga (PySem.W.cls_value I.kIn b.rd b.ini (by decide +kernel) ?_)
 show wpAny _ _ (callWith pos (Value.builtin "ValueError.__init__") [] (backTo pos (starEach (e :: es) X.env)) []) _ _ _
 refine PyProof.Rows.callWith_method1 (thn (ha.run pos pins _ σ H _ (I.tok _) h) fun us s1 ⟨vs, H1, I1, r1, a, C, ws, ev, hl, T, ea, q⟩ => ?_) he hpl
 subst ev
 cases r1 with
 | @cons _ u0 _ ur ra rw' =>
  obtain rfl : u0 = Value.ref a := ra
  have hlen : ur.length <= sizeLine := by
   rw [<- Paired.length rw', sizeLine_eq]
   omega
  exact oinit_ok T I1 ea hlen fun s' J => ⟨.non, H1, J, rfl, q⟩
def spPlace (C : Addr) : Sp := fun vs H Q _ => ∃ (a : Addr) (i : Int), vs = [.ref a, .int i] /\ i.natAbs.log2 < 1920 /\ H a = some (exo a C none) /\ ∀ d, H d = none -> d ≠ a -> Q .non (upd (upd H d (exd d [("place", .int i)])) a (exo a C (some d)))
end NX
namespace CLX
open PySem PySem.Spec PyProof.Rows L2 LamX
abbrev SpP := Addr × Obj -> Sp
structure FnW (P : Program) (w : World) (K : PySem.W.Frag) (mg : Str -> Option Value) (base : Heap) (CX : CXT) (k : Nat) (f : Addr) (fd : FuncData) (ps : List Str) (sp : SpP) : Prop where
 len : ∀ p vs H Q E, sp p vs H Q E -> vs.length = ps.length
 run : ∀ (A : Around) (outer : List Env) (s : Shared) (H : Hp) (args : Args) (us : List Value) (vs : List V) (Q : VK) (E : XK) (p : Addr × Obj), L2H.RoomH k A -> L2H.PinOk outer H s p -> Env0 P w K mg base A outer s H -> BindsTo s fd args (ps.zip us) -> Vals vs us -> sp p vs H Q E →
  codeAny (model P w) A (.call (.ref f) args) (CR CX outer P w H s Q E) s
theorem ms_ {CX : CXT} {P : Program} {w : World} {K : PySem.W.Frag} {mg : Str -> Option Value} {base : Heap} {k : Nat} {f : Addr} {name qual : Str} {params : Arguments} {body : List Stmt} {scope : Scope} {dV kV doc pm cdv ct oc : Value} {an od : Option Addr}
  {osl : Array (Option Value)} {N ps : List Str} {sp : SpP} (lk : K.lookup f = some ⟨oc, od, .func (PySem.W.fnOf name qual params body scope dV kV doc pm an cdv ct), osl⟩) (hcd : PySem.W.codeIn K cdv qual = true) (S : FnScope N ps scope)
  (len : ∀ p vs H Q E, sp p vs H Q E -> vs.length = ps.length)
  (hbody : ∀ (A : Around) (outer : List Env) (s : Shared) (H : Hp) (vs : List V) (Q : VK) (E : XK) (p : Addr × Obj), L2H.RoomH k (A.deeper (envOfC qual scope s.heap.objs.size f cdv)) -> sp p vs H Q E →
   ∃ t, PSs (L2H.cxH CX P w K mg base N qual scope f cdv A outer s H E p) body t /\ t { nx := fun _ H' => Q .non H', rt := Q } (L2.start N vs) H) :
  FnW P w K mg base CX (k + 1) f (PySem.W.fnOf name qual params body scope dV kV doc pm an cdv ct) ps sp := by
 refine ⟨len, fun A outer s H args us vs Q E p hr hpin e0 hb r hsp => ?_⟩
 have hl := len _ _ _ _ _ hsp
 have KX : K.In s.heap := e0.mod.kin.keeps fun b o e => (e0.bs b o e).1
 have hkind : ∀ y ∈ ps.zip us, scope.names.lookup y.1 = some .local ∨ (scope.names.lookup y.1 = some .cell /\ ((cellsFrom (s.heap.objs.size + 1) scope.names []).lookup y.1).isSome = true) := fun ⟨n, v⟩ hy => by
  rcases S.par n (List.of_mem_zip hy).1 with q | q
  ·exact .inl q
  ·exact .inr ⟨q, PySem.W.cellsFrom_some _ _ _ (.inl q)⟩
 refine codeAny_call_function hr.depth (KX _ _ lk) rfl S.co S.gen rfl (PySem.W.codeRec_of KX hcd) (hb _ _ _ _ ?_)
 refine wpAny_newFunctionEnv_cells S.kind hkind fun env he s1 x => ?_
 subst he
 refine ⟨(e0.mod.nolimit.keeps fun b o e => (e0.bs b o e).1).keeps x.toInCall.keep, codeAny_func ?_⟩
 obtain ⟨t, ht, hq⟩ := hbody A outer s H vs Q E p (hr.deeper _) hsp
 have I := L2H.inv_startH (CX := CX) (E := E) S hpin e0 hl r x
 refine wpAny_mono (ht.run [] s1 (L2.start N vs) H _ I hq) (fun fl s' hs => ?_) fun e s' hs => hs
 cases fl with
 | ret u =>
  obtain ⟨v, σ', H', J, rv, q⟩ := hs
  exact ⟨v, H', J.os, J.bare, J.base, J.hok, rv, q⟩
 | next =>
  obtain ⟨σ', H', J, q⟩ := hs
  exact ⟨.non, H', J.os, J.bare, J.base, J.hok, rfl, q⟩
 | brk => exact (hs.elim fun _ h => h.elim fun _ h => h.2.elim)
 | cont => exact (hs.elim fun _ h => h.elim fun _ h => h.2.elim)
section
variable {X : Cx} {CX : CXT} {k : Nat} {f : Addr} {fd : FuncData} {ps : List Str} {sp : SpP} {E : XK} {x : Str} {q pos : Pos} {e : Expr} {es : List Expr} {t : TA} {p : Addr × Obj}
theorem iN_ (F : FnW X.prog X.w X.K X.mg X.base CX k f fd ps sp) (hr : L2H.RoomH k X.A) (hp : p ∈ X.pn) (hg : Gl X x) (hm : X.mg x = some (.ref f)) (hk : PySem.W.keepIn X.K (.ref f) = true) (hb : Binds X.K fd ps []) (hx : Passes CX X E)
  (ha : PA X (e :: es) t) (hdb : (x == ("__debug__" : Str)) = false := by decide) (he : starEach (e :: es) X.env = (false, eval e X.env) :: starEach es X.env := by rfl) (hpl : (backTo pos (starEach es X.env)).any (·.1) = false := by rfl) :
  PE X (.Call (.Name x q) (e :: es) [] pos) (fun σ H Q => t σ H fun vs H1 => sp p vs H1 Q E) := by
 refine ⟨fun pins s σ H Q I h => ?_⟩
 refine wpAny_Call_Name_kw (ld_glob I hg hm ?_ hdb)
 refine PySem.W.callWith_K (h₀ := X.base) I.ok.mod.kin hk (thn (ha.run pos pins s σ H _ I h) fun us s1 ⟨vs, H1, I1, r, q⟩ => ⟨I1.kIn, ?_⟩) he hpl
 have hl : us.length = ps.length := by rw [<- r.length]; exact F.len _ _ _ _ _ q
 have b := hb s1 us I1.kIn (by rw [List.append_nil]; exact hl)
 rw [List.append_nil] at b
 have P1 := I1.pin p (List.mem_append_left _ hp)
 have hpin : L2H.PinOk X.stack H1 s1 p := ⟨P1.1, P1.2.1, fun hm => (List.mem_cons.mp (I1.stkSub p.1 hm)).elim P1.2.2.1 P1.2.2.2.1, P1.2.2.2.2⟩
 refine wpAny_call (codeAny_mono (F.run X.A X.stack s1 H1 ⟨us, []⟩ us vs Q E p hr hpin I1.env0 b r q) fun r s' hq => ?_)
 cases r with
 | error e => exact hx pins σ H1 s1 e s' I1 hq
 | ok fl =>
  cases fl with
  | ret u => exact I1.after hq
  | next => exact False.elim hq
  | brk => exact False.elim hq
  | cont => exact False.elim hq
theorem bx_ {a D : Addr} {oe : Obj} (C : ExcC X.K D) (hp : (a, oe) ∈ X.pn) (hz : Zc (.ref D) none oe) (hf : ∃ vs, oe.data = .fields vs) : CallR X (.builtin "isinstance") (rIsE X.K D a) := by
 intro pins s σ H xs us Q I r h
 obtain ⟨c, cv, b, rfl, hcv, e, q⟩ := h
 obtain ⟨u1, rx, r⟩ : ∃ u1 us', RelV (V.ref a) u1 /\ us = u1 :: us' /\ Vals [c] us' := by
  cases r with
  | cons rx rr => exact ⟨_, _, rx, rfl, rr⟩
 obtain ⟨rx, rfl, rr⟩ := r
 obtain ⟨u2, rfl, rt⟩ := vals1 rr
 obtain rfl : u1 = Value.ref a := rx
 have ec := hcv _ rt
 subst ec
 obtain ⟨hget, _⟩ := I.pin (a, oe) (List.mem_append.mpr (.inl hp))
 obtain ⟨vs, hv⟩ := hf
 have J : PySem.W.InstAt s.heap a oe D none := by
  obtain ⟨oc, od, oda, osl⟩ := oe
  obtain ⟨h1, h2⟩ := hz
  dsimp only at h1 h2 hv
  subst h1 h2 hv
  exact ⟨hget, rfl, rfl, trivial⟩
 exact PySem.W.kia_one (PySem.W.handS_kitx_exc C.hg C.hk C.hs C.hd C.ha C.hn C.ht C.hm) I.kIn J e (fun z => nomatch z) fun tk => ⟨.bl b, H, I.kept (t' := tk) fun _ _ z => z, rfl, q⟩
end
structure ClT (scope : Scope) (N : List Str) : Prop where
 kind : scope.kind = .function
 co : scope.isCoroutine = false
 gen : scope.isGenerator = false
 cells : ∀ y ∈ scope.names, y.2 ≠ .cell
 nl : ∀ x ∈ N, scope.names.lookup x ≠ some .local
structure CapT (scope : Scope) (cl : List (Str × Addr)) (N : List Str) (H : Hp) (σ : L2.St) : Prop where
 has : ∀ y ∈ scope.names, y.2 = .free -> ∃ c, cl.lookup y.1 = some c
 inj : ∀ x y c, cl.lookup x = some c -> cl.lookup y = some c -> x = y
 at_ : ∀ p ∈ cl, ∃ (i : Nat) (v : V) (o : Obj), N[i]? = some p.1 /\ σ[i]? = some (some v) /\ H p.2 = some (cb_ p.2 o) /\ oe_ v o
 nd : N.Nodup
 len : σ.length = N.length
section
variable {P : Program} {w : World} {K : PySem.W.Frag} {mg : Str -> Option Value} {base : Heap}
theorem ki_ {qual : Str} {scope : Scope} {N : List Str} {cl : List (Str × Addr)} {f c' : Addr} {A : Around} {outer : List Env} {s : Shared} {H : Hp} {E : XK} {σ : L2.St} {h₁ : Heap} {tk : Nat} {m : Str -> Option Value} (e0 : Env0 P w K mg base A outer s H) (S : ClT scope N) (C : CapT scope cl N H σ) (hd : A.handled = none)
  (hns : h₁.Ns s.heap.objs.size m) (kp : ∀ b o, s.heap.get? b = some o -> h₁.get? b = some o) :
  Inv (og_ P w K mg base qual scope N cl f c' A outer s (bS_ (cl.map (·.2)) H) E) [] σ (bS_ (cl.map (·.2)) H) { s with heap := h₁, toks := tk } := by
 have t : Told H (cl.map (·.2)) := fun c m => by
  obtain ⟨p, hp, e⟩ := List.mem_map.mp m
  obtain ⟨i, v, o, _, _, h3, _⟩ := C.at_ p hp
  rw [<- e]; exact ⟨o, h3⟩
 have e1 := jD_ e0 t
 have noA : ∀ b : Addr, b ∉ (og_ P w K mg base qual scope N cl f c' A outer s (bS_ (cl.map (·.2)) H) E).ex := fun b z => absurd (show b ∈ ([] : List Addr) from z) (by simp)
 have mem : ∀ {y c}, cl.lookup y = some c -> (y, c) ∈ cl := fun {y c} e => PySem.mem_of_lookup e
 have cellAt : ∀ {y c}, cl.lookup y = some c -> ∃ (i : Nat) (v : V) (u : Value), N[i]? = some y /\ σ[i]? = some (some v) /\ RelV v u /\ h₁.IsCell c (some u) := fun {y c} e => by
  obtain ⟨i, v, o, h1, h2, h3, u, r, ho⟩ := C.at_ _ (mem e)
  exact ⟨i, v, u, h1, h2, r, o, kp _ _ (e0.hok _ _ h3).1, ho⟩
 refine ⟨⟨e1.mod, S.kind, rfl, rfl, Nat.le_refl _, fun x y c q1 q2 => C.inj x y c q1 q2, fun y hy => ?_, fun y c z _ => ?_, fun _ => hd, Around.frames_deeper e1.frames, .inr ⟨rfl, rfl⟩, fun b z => absurd z (noA b), e1.bs, e1.bsz, fun b _ _ => noA b,
   fun b z => absurd z (noA b), e1.funs, e1.frf⟩,
  rfl, e1.bare, Un.kept kp, ⟨_, hns, fun i y v q1 q2 q3 => ?_⟩, fun y c e => ?_, e1.hok.fresh (Nat.le_refl _), fun y c e => ?_, fun q hq => absurd (show q ∈ ([] : List (Addr × Obj)) ++ [] from hq) (by simp), e1.hok.kept kp, C.len⟩
 ·have hy : scope.names.lookup y = some .cell ∨ scope.names.lookup y = some .free := hy
  rcases hy with hy | hy
  ·exact absurd rfl (S.cells _ (PySem.mem_of_lookup hy))
  ·exact C.has _ (PySem.mem_of_lookup hy) rfl
 ·have z : false = true := z
  cases z
 ·have hN : N[i]? = some y := q1
  have q3 : scope.names.lookup y = some .local ∨ scope.names.lookup y = some .cell ∨ scope.names.lookup y = some .free := q3
  rcases q3 with q3 | q3 | q3
  ·exact absurd q3 (S.nl y (List.mem_of_getElem? hN))
  ·exact absurd rfl (S.cells _ (PySem.mem_of_lookup q3))
  ·obtain ⟨c, hc⟩ := C.has _ (PySem.mem_of_lookup q3) rfl
   obtain ⟨j, v', u, h1, h2, r, ic⟩ := cellAt hc
   have : i = j := nodup_ix C.nd hN h1
   subst this
   rw [q2] at h2; cases h2
   exact ⟨u, r, .inr ⟨.inr q3, c, hc, ic⟩⟩
 ·obtain ⟨j, v', u, h1, h2, r, ic⟩ := cellAt (show cl.lookup y = some c from e)
  exact ⟨some u, ic⟩
 ·exact dL_ (List.mem_map.mpr ⟨(y, c), mem (show cl.lookup y = some c from e), rfl⟩)
theorem oK_ {qual : Str} {params : Arguments} {body : Expr} {scope : Scope} {N : List Str} {cl : List (Str × Addr)} {pm ct dV : Value} {f c' : Addr} {k : Nat} {tb : XK -> TE} (S : ClT scope N)
  (hbody : ∀ (A : Around) (outer : List Env) (s : Shared) (H : Hp) (E : XK), Room k (A.deeper (ga_ qual scope cl s.heap.objs.size f c')) -> PE (og_ P w K mg base qual scope N cl f c' A outer s H E) body (tb E)) :
  pY_ P w K mg base (k + 1) f (fun E H Q => H f = some (cb_ f (f9_ qual params body scope cl pm c' ct dV)) /\ H c' = some (CodeO c' qual) /\ l8_ P w H scope (of_ qual params body scope cl pm (.ref c') ct dV) ∧
   ∃ σ, CapT scope cl N H σ /\ tb (fun cls d H' => (∀ c ∈ cl.map (·.2), H' c = none) -> E cls d (dC_ (cl.map (·.2)) H H')) σ (bS_ (cl.map (·.2)) H) (fun v H' => (∀ c ∈ cl.map (·.2), H' c = none) -> Q v (dC_ (cl.map (·.2)) H H'))) := by
 intro A outer s H Q E hr e0 h
 obtain ⟨hf, hc, hb, σ, C, ht⟩ := h
 have t : Told H (cl.map (·.2)) := fun c m => by
  obtain ⟨p, hp, e⟩ := List.mem_map.mp m
  obtain ⟨i, v, o, _, _, h3, _⟩ := C.at_ p hp
  rw [<- e]; exact ⟨o, h3⟩
 have of1 : s.heap.get? f = some (f9_ qual params body scope cl pm c' ct dV) := (e0.hok f _ hf).1
 refine ⟨⟨_, _, _, _, of1⟩, ?_⟩
 obtain ⟨⟨oc, vs, tq, hoc, hdc, hvc⟩, _, _⟩ := e0.hok c' _ hc
 obtain ⟨binds, hbind, hloc⟩ := hb s e0.hok
 refine PySem.W.kla_callFunE hr.depth of1 rfl S.co S.gen rfl ⟨c', oc, vs, tq, rfl, hoc, hdc, hvc⟩ ?_
 refine hbind _ _ _ _ (wpAny_newFunctionEnv S.cells hloc (fun h₁ hns hsb => ⟨?_, ?_⟩) S.kind)
 ·obtain ⟨mc, nl⟩ := (e0.mod.nolimit.keeps fun b o e => (e0.bs b o e).1)
  exact Heap.NoLimit.fresh ⟨mc, nl⟩ _ hsb
 ·show codeAny _ _ (.expr body (ga_ qual scope cl s.heap.objs.size f c')) _ _
  have kp : ∀ b o, s.heap.get? b = some o -> h₁.get? b = some o := fun b o e => hsb.extBut b o (Nat.ne_of_lt (Heap.lt_size e)) (Heap.get?_push_of_some _ e)
  have J := ki_ (qual := qual) (f := f) (c' := c') (E := fun cls d H' => (∀ c ∈ cl.map (·.2), H' c = none) -> E cls d (dC_ (cl.map (·.2)) H H')) (tk := s.toks + binds.length) e0 S C hr.hd hns kp
  refine PySem.W.kla_codeExpr (wpAny_mono ((hbody A outer s (bS_ (cl.map (·.2)) H) _ (hr.deeper _)).run [] _ _ (bS_ (cl.map (·.2)) H) _ J ht) (fun v s' hq => ?_) fun e s' hq => ?_)
  ·obtain ⟨w', H', J', rv, q⟩ := hq
   exact mO_ e0 t ⟨w', H', J'.os, J'.bare, J'.base, J'.hok, rv, q⟩
  ·exact wpAny_mono hq (fun _ s'' q => jC_ e0 t q) fun _ s'' q => jC_ e0 t q
end
end CLX
namespace Mv
open PySem PySem.Spec PyProof.Rows L2 CLX LamX
def ob_ (t : Nat) (i : LamId) : Xt := { qb_ i with id := t }
def qd_ (K : PySem.W.Frag) (cs : List Addr) (os : Addr -> Obj) (ws : List V) (F1 H1 : Hp) (f1 : List Addr) (ss' : List S) (EX : XK) (Q : VK) : Rx -> Prop
 | .rt s => ∀ v F' H' fr f2, Grow F1 H1 (f1 ++ cs) F' H' (fr ++ (f2 ++ cs)) -> OwnL K F' H' ws ss' f2 -> (∀ c ∈ cs, H' c = some (cb_ c (os c))) -> Own K F' H' v s fr -> (fr ++ (f2 ++ cs)).Nodup -> (∀ a ∈ fr ++ (f2 ++ cs), F' a = none) -> Q v H'
 | .ex c => ∀ C dd F' H' f2, pK_ K c C dd F' -> Grow F1 H1 (f1 ++ cs) F' H' (f2 ++ cs) -> OwnL K F' H' ws ss' f2 -> (∀ c ∈ cs, H' c = some (cb_ c (os c))) -> (f2 ++ cs).Nodup -> (∀ a ∈ f2 ++ cs, F' a = none) -> EX (.ref C) dd H'
def pP_ (P : Program) (w : World) (K : PySem.W.Frag) (mg : Str -> Option Value) (base : Heap) (k : Nat) (cs : List Addr) (os : Addr -> Obj) (ws : List V) (t : Nat) (i : LamId) (g : List S -> Option (Rx × List S)) : Xt where
 id := t
 At := fun _ F H v fp => fp = [] /\ ∃ f tl, v = .ref f /\ IsLm F i.qual i.params i.body i.scope i.cl f /\ pY_ P w K mg base k f tl /\ ∀ (F1 H1 : Hp) (ss : List S) (f1 : List Addr) (r : Rx) (ss' : List S) (EX : XK) (Q : VK), (∀ b o, F b = some o -> F1 b = some o) -> (∀ b o, F1 b = some o -> H1 b = some o) -> OwnL K F1 H1 ws ss f1 -> (f1 ++ cs).Nodup -> (∀ a ∈ f1 ++ cs, F1 a = none) →
  (∀ c ∈ cs, H1 c = some (cb_ c (os c))) -> g ss = some (r, ss') -> qd_ K cs os ws F1 H1 f1 ss' EX Q r -> tl EX H1 Q
 frame := fun kF sub h k => ⟨h.1, let ⟨f, tl, e, il, ok, q⟩ := h.2; ⟨f, tl, e, il.mono kF, ok, fun F1 H1 ss f1 r ss' EX Q hF => q F1 H1 ss f1 r ss' EX Q fun b o e => hF b o (kF b o e)⟩⟩
 there := fun h a m => by rw [h.1] at m; cases m
def WL (E : XK) : WXm := fun c d _ H => E c d H
def mt_ (n : Nat) (d : En -> Option (Rx × En)) (ss : List S) : Option (Rx × List S) := match d (entry n ss) with
 | some (.rt s, E) => (cD_ (E.drop n)).map (.rt s, ·)
 | some (.ex c, E) => (cD_ (E.drop n)).map (.ex c, ·)
 | none => none
section
variable {P : Program} {w : World} {K K' : PySem.W.Frag} {mg : Str -> Option Value} {base : Heap}
theorem oL_ {k t : Nat} {cs : List Addr} {os : Addr -> Obj} {ws : List V} {i : LamId} {N : List Str} {tb : XK -> TE} {dx : En -> Option (Rx × En)} {F H : Hp} {f : Addr} (S : ClT i.scope N) (hb : LamBind i.params i.scope) (nd : N.Nodup) (hw : ws.length = N.length)
  (hbody : ∀ (f c' : Addr) (A : Around) (outer : List Env) (s : Shared) (H : Hp) (E : XK), Room k (A.deeper (ga_ i.qual i.scope i.cl s.heap.objs.size f c')) -> PE (og_ P w K mg base i.qual i.scope N i.cl f c' A outer s H E) i.body (tb E))
  (hval : ∀ (E : XK) (as : Ro), EvX K N.length as (WL E) (tb E) dx)
  (has : ∀ y ∈ i.scope.names, y.2 = .free -> ∃ c, i.cl.lookup y.1 = some c) (inj : ∀ x y c, i.cl.lookup x = some c -> i.cl.lookup y = some c -> x = y)
  (hat : ∀ p ∈ i.cl, p.2 ∈ cs /\ ∃ (j : Nat) (v : V), N[j]? = some p.1 /\ ws[j]? = some v /\ oe_ v (os p.2))
  (il : IsLm F i.qual i.params i.body i.scope i.cl f) : (pP_ P w K mg base (k + 1) cs os ws t i (mt_ N.length dx)).At K' F H (.ref f) [] := by
 have il0 := il
 obtain ⟨dV, ⟨c', pm, ct, l1, l2⟩, dfl⟩ := il
 refine ⟨rfl, f, _, rfl, il0, oK_ (k := k) (params := i.params) (pm := pm) (ct := ct) (dV := dV) (tb := tb) S (fun A outer s H E hr => hbody f c' A outer s H E hr), fun F1 H1 ss f1 r ss' EX Q hF sub l nd1 off ik_ hg cont => ?_⟩
 let ccl := i.cl.map (·.2)
 have hsub : ∀ c ∈ ccl, c ∈ cs := fun c m => by
  obtain ⟨p, hp, e⟩ := List.mem_map.mp m
  rw [<- e]; exact (hat p hp).1
 have up : ∀ b o, F b = some o -> H1 b = some o := fun b o e => sub b o (hF b o e)
 have subL : ∀ b o, F1 b = some o -> bS_ ccl H1 b = some o := fun b o e => by
  rw [aM_ (fun m => by rw [off b (List.mem_append_right _ (hsub b m))] at e; cases e)]
  exact sub b o e
 have dj : ∀ a ∈ f1, a ∉ cs := fun a m1 m2 => (List.nodup_append.mp nd1).2.2 a m1 a m2 rfl
 have lL : OwnL K F1 (bS_ ccl H1) ws ss f1 := l.frame (fun _ _ e => e) subL fun a m o e => by rw [aM_ fun z => dj a m (hsub a z)]; exact e
 have nf1 : f1.Nodup := (List.nodup_append.mp nd1).1
 have R := Rep.entry (N := N) subL lL nf1 (fun a m => off a (List.mem_append_left _ m)) (by omega)
 have L : (start N ws).length = N.length := by rw [b5_, List.length_append, List.length_map, List.length_replicate]; omega
 refine ⟨up _ _ l1, up _ _ l2, hb.ok (dfl.mono up), start N ws, ⟨has, inj, fun p hp => ?_, nd, L⟩, ?_⟩
 ·obtain ⟨hc, j, v, h1, h2, h3⟩ := hat p hp
  refine ⟨j, v, os p.2, h1, ?_, ik_ p.2 hc, h3⟩
  rw [b5_, List.getElem?_append_left (by rw [List.length_map]; exact (List.getElem?_eq_some_iff.mp h2).1), List.getElem?_map, h2]; rfl
 -- behind the body
 have out : ∀ {H' : Hp}, (∀ c ∈ ccl, H' c = none) -> ∀ {b : Addr} {o : HO}, H' b = some o -> dC_ ccl H1 H' b = some o := fun {H'} hn {b o} e => by
  rw [bi_ fun m => by rw [hn b m] at e; cases e]; exact e
 have fin : ∀ {F' H' : Hp} {fr f2 : List Addr}, Grow F1 (bS_ ccl H1) f1 F' H' (fr ++ f2) -> (∀ c ∈ ccl, H' c = none) -> (fr ++ f2).Nodup -> (∀ a ∈ fr ++ f2, F' a = none) -> (∀ a ∈ fr ++ f2, ∃ o, H' a = some o) →
   Grow F1 H1 (f1 ++ cs) F' (dC_ ccl H1 H') (fr ++ (f2 ++ cs)) /\ (∀ c ∈ cs, dC_ ccl H1 H' c = some (cb_ c (os c))) /\ (fr ++ (f2 ++ cs)).Nodup /\ (∀ a ∈ fr ++ (f2 ++ cs), F' a = none) := by
  intro F' H' fr f2 g hn nd2 of2 th
  have tl : ∀ c ∈ cs, dC_ ccl H1 H' c = some (cb_ c (os c)) := fun c m => by
   by_cases hc : c ∈ ccl
   ·rw [jA_ hc]; exact ik_ c m
   ·rw [bi_ hc]
    exact g.keep c _ (by rw [aM_ hc]; exact ik_ c m) fun z => dj c z m
  have ncs : ∀ a ∈ fr ++ f2, a ∉ cs := fun a m mc => by
   by_cases hc : a ∈ ccl
   ·obtain ⟨o, eo⟩ := th a m
    rw [hn a hc] at eo; cases eo
   ·rcases g.new a m with z | z
    ·exact dj a z mc
    ·rw [aM_ hc, ik_ a mc] at z; cases z
  have e3 : ∀ a, a ∈ fr ++ (f2 ++ cs) ↔ a ∈ fr ++ f2 ∨ a ∈ cs := fun a => by simp only [List.mem_append, or_assoc]
  refine ⟨⟨g.f, fun a o e => out hn (g.sub a o e), fun a o e n => ?_, fun a m => ?_, fun a h0 n fa => ?_⟩, tl, ?_, fun a m => ?_⟩
  ·have na : a ∉ ccl := fun z => n (List.mem_append_right _ (hsub a z))
   rw [bi_ na]
   exact g.keep a o (by rw [aM_ na]; exact e) fun z => n (List.mem_append_left _ z)
  ·rcases (e3 a).mp m with m | m
   ·rcases g.new a m with z | z
    ·exact .inl (List.mem_append_left _ z)
    ·exact .inr (by rw [aM_ (fun q => ncs a m (hsub a q))] at z; exact z)
   ·exact .inl (List.mem_append_right _ m)
  ·have na : a ∉ ccl := fun z => n (List.mem_append_right _ (hsub a z))
   exact g.off a (by rw [aM_ na]; exact h0) (fun z => n (List.mem_append_left _ z)) fa
  ·rw [<- List.append_assoc]
   exact aG_ nd2 (List.nodup_append.mp nd1).2.1 fun a m b mb e => ncs a m (e ▸ mb)
  ·rcases (e3 a).mp m with m | m
   ·exact of2 a m
   ·by_cases hc : a ∈ ccl
    ·cases q : F' a with
     | none => rfl
     | some o => have := g.sub a o q; rw [hn a hc] at this; cases this
    ·exact g.off a (by rw [aM_ hc, ik_ a m]; exact fun z => nomatch z) (fun z => dj a z m) (off a (List.mem_append_right _ m))
 unfold mt_ at hg
 split at hg
 ·next s E' hd =>
  obtain ⟨s2, e1, e2⟩ := Option.map_eq_some_iff.mp hg
  cases e2
  refine hval _ (ws.map some) L R hd fun v F' H' fr fp' g R' ow nd' of' => ?_
  intro hn
  obtain ⟨fq, l2, n2, sb⟩ := R'.args L e1
  have ndq : (fr ++ fq).Nodup := aG_ (List.nodup_append.mp nd').1 n2 fun a m b m2 => (List.nodup_append.mp nd').2.2 a m b (sb b m2)
  obtain ⟨g3, tl, nd3, of3⟩ := fin (g.less fun a m => (List.mem_append.mp m).elim (List.mem_append_left _) fun z => List.mem_append_right _ (sb a z)) hn ndq (fun a m => (List.mem_append.mp m).elim (of' a) fun z => R'.off a (sb a z)) fun a m => (List.mem_append.mp m).elim (ow.there a) fun z => l2.there a z
  exact cont v F' _ fr fq g3 (l2.frame (fun _ _ e => e) (fun a o e => out hn (g.sub a o e)) fun a _ o e => out hn e) tl (ow.frame (fun _ _ e => e) (fun a o e => out hn (g.sub a o e)) fun a _ o e => out hn e) nd3 of3
 ·next c E' hd =>
  obtain ⟨s2, e1, e2⟩ := Option.map_eq_some_iff.mp hg
  cases e2
  refine hval _ (ws.map some) L R hd fun C dX F' H' fp' hC g R' => ?_
  intro hn
  obtain ⟨fq, l2, n2, sb⟩ := R'.args L e1
  obtain ⟨g3, tl, nd3, of3⟩ := fin (fr := []) (f2 := fq) (g.less fun a m => sb a (by simpa using m)) hn (by simpa using n2) (fun a m => R'.off a (sb a (by simpa using m))) fun a m => l2.there a (by simpa using m)
  exact cont C dX F' _ fq hC (by simpa using g3) (l2.frame (fun _ _ e => e) (fun a o e => out hn (g.sub a o e)) fun a _ o e => out hn e) tl (by simpa using nd3) (by simpa using of3)
 ·cases hg
end
section
variable {K : PySem.W.Frag} {F F' F1 F2 H H' H1 H2 : Hp} {v u x y : V} {vs ws : List V} {s t : S} {ss tts : List S} {fp fq fr : List Addr} {ρ as : Ro} {E E' : En} {n : Nat}
variable {te ta : TE} {tr : TA} {dr : En -> Option (List Rs)} {de : En -> Option (S × En)}
theorem lx_ {g : List S -> Option (S × List S)} {σ : L2.St} {Q : VK} {sp : List V -> Hp -> VK -> Prop} (hr : EvA K n as tr dr) (L : σ.length = n) (R : Rep K F H (σ ++ as) E fp) (e : ag_ g dr E = some (s, E'))
  (hsp : ∀ vs F1 H1 ss fa ss', (∀ b o, F b = some o -> F1 b = some o) -> (∀ b o, H b = some o -> H1 b = some o) -> (∀ b o, F1 b = some o -> H1 b = some o) -> OwnL K F1 H1 vs ss fa -> fa.Nodup -> (∀ a ∈ fa, F1 a = none) -> g ss = some (s, ss') -> (∀ v F2 H2 fr2 fa2, Grow F1 H1 fa F2 H2 (fr2 ++ fa2) -> OwnL K F2 H2 vs ss' fa2 -> Own K F2 H2 v s fr2 -> (fr2 ++ fa2).Nodup -> (∀ a ∈ fr2 ++ fa2, F2 a = none) -> Q v H2) -> sp vs H1 Q)
  (q : ∀ v F' H' fr fp', Grow F H fp F' H' (fr ++ fp') -> Rep K F' H' (σ ++ as) E' fp' -> Own K F' H' v s fr -> (fr ++ fp').Nodup -> (∀ a ∈ fr, F' a = none) -> Q v H') : tr σ H fun vs H1 => sp vs H1 Q := by
 unfold ag_ at e
 split at e
 ·next rs ers =>
  split at e
  ·next ok =>
   split at e
   ·next ss ess =>
    split at e
    ·next s' ss' eg =>
     cases e
     refine hr L R ers fun vs F1 H1 fr g1 a nd of => ?_
     have R1 := R.grow g1
     obtain ⟨fa, fh, E1, l, c1, pm, keep, close⟩ := fg_ a R1.core ok ess
     have nda := R.apart_new g1 nd
     have ndall : (fa ++ fh).Nodup := pm.nodup_iff.mp nda
     have memA : ∀ b ∈ fa, b ∈ fr ++ fp := fun b m => pm.mem_iff.mpr (List.mem_append_left _ m)
     have offAll : ∀ b ∈ fr ++ fp, F1 b = none := fun b m => (List.mem_append.mp m).elim (of b) (R1.off b)
     have g1' : Grow F H fp F1 H1 (fa ++ fh) := (g1.ours fp).less fun b m => pm.mem_iff.mpr m
     refine hsp vs F1 H1 ss fa ss' g1.f (fun b o e => g1.keep b o e fun m => nomatch m) g1.sub l (List.nodup_append.mp ndall).1 (fun b m => offAll b (memA b m)) eg fun v F2 H2 fr2 fa2 g2 l2 ow nd2 of2 => ?_
     obtain ⟨fz, R2, gg, nn⟩ := et_ R1 a ok nda offAll c1 pm keep close g2 l2 nd2 of2
     exact q v F2 H2 fr2 (fz ++ fh) (g1'.trans gg) R2 ow nn fun b m => of2 b (List.mem_append_left _ m)
    ·cases e
   ·cases e
  ·cases e
 ·cases e
def eO_ : List Nat -> En -> Option (List Rs)
 | [], _ => some []
 | j :: r, E => match ab_ j E, eO_ r E with
  | some a, some b => some (a :: b)
  | _, _ => none
def ly_ : List Nat -> TA
 | [] => tNil
 | j :: r => tCons (tVar j) (ly_ r)
theorem oM_ {js : List Nat} (h : ∀ j ∈ js, j < n) : EvA K n as (ly_ js) (eO_ js) := by
 induction js with
 | nil =>
  intro F H σ E fp L R rs e Q q
  cases e
  exact q [] F H [] (.refl R.sub []) .nil List.nodup_nil fun _ m => nomatch m
 | cons j r ih =>
  have this : EvA K n as (tCons (tVar j) (ly_ r)) (aa_ (ab_ j) (eO_ r)) := ac_ (bB_ (i := j) (h j (by simp))) (ih fun i m => h i (List.mem_cons_of_mem _ m))
  intro F H σ E fp L R rs e Q q
  refine this L R (rs := rs) ?_ q
  unfold aa_
  simp only [eO_] at e
  exact e
theorem hn_ {σ : L2.St} {H : Hp} : ∀ {js : List Nat} {Q : List V -> Hp -> Prop}, ly_ js σ H Q -> ∃ ws : List V, ws.length = js.length /\ (∀ (m j : Nat), js[m]? = some j -> ∃ v, ws[m]? = some v /\ σ[j]? = some (some v)) /\ Q ws H
 | [], Q, h => ⟨[], rfl, fun m j e => by simp at e, h⟩
 | j :: r, Q, h => by
  obtain ⟨v, hv, h2⟩ := h
  obtain ⟨ws, hl, hw, q⟩ := hn_ (js := r) h2
  refine ⟨v :: ws, by simp [hl], fun m i e => ?_, q⟩
  cases m with
  | zero => cases e; exact ⟨v, rfl, hv⟩
  | succ m => exact hw m i (by simpa using e)
end
def jy_ (c : Nat) : PyData := if c < 1000 then .tuple [.str (cQ_ c), .int 0] else .tuple [.str "BadText", .int ((c - 1000 : Nat) : Int)]
def okC (c : Nat) : Bool := (decide (11 <= c) && decide (c <= 21)) || decide (1000 <= c)
def ji_ (g : List S -> Option (Rx × List S)) (ss : List S) : Option (S × List S) := match g ss with
 | some (.rt s, ss') => some (s, ss')
 | some (.ex c, ss') => if okC c = true then some (.dat (jy_ c), ss') else none
 | none => none
section
variable {P : Program} {w : World} {K : PySem.W.Frag} {mg : Str -> Option Value} {base : Heap}
def oN_ (K : PySem.W.Frag) (cs : List Addr) (os : Addr -> Obj) (ws : List V) (F1 H1 : Hp) (f1 : List Addr) (s : S) (ss' : List S) (Q : VK) : Prop :=
 ∀ v F' H' fr f2, Grow F1 H1 (f1 ++ cs) F' H' (fr ++ (f2 ++ cs)) -> OwnL K F' H' ws ss' f2 -> (∀ c ∈ cs, H' c = some (cb_ c (os c))) -> Own K F' H' v s fr -> (fr ++ (f2 ++ cs)).Nodup -> (∀ a ∈ fr ++ (f2 ++ cs), F' a = none) -> Q v H'
def h2_ (P : Program) (w : World) (K : PySem.W.Frag) (mg : Str -> Option Value) (base : Heap) (k : Nat) : Sp := fun vs H Q _ => ∃ (v : V) (F : Hp) (cs : List Addr) (os : Addr -> Obj) (ws : List V) (t : Nat) (i : LamId) (g : List S -> Option (Rx × List S)) (f1 : List Addr) (ss : List S) (s : S) (ss' : List S), vs = [v] /\ (pP_ P w K mg base k cs os ws t i g).At K F H v [] ∧
 (∀ b o, F b = some o -> H b = some o) /\ OwnL K F H ws ss f1 /\ (f1 ++ cs).Nodup /\ (∀ a ∈ f1 ++ cs, F a = none) /\ (∀ c ∈ cs, H c = some (cb_ c (os c))) /\ ji_ g ss = some (s, ss') /\ oN_ K cs os ws F H f1 s ss' Q
end
section
variable {P : Program} {w : World} {K : PySem.W.Frag} {mg : Str -> Option Value} {base : Heap}
structure LamOk (P : Program) (w : World) (K : PySem.W.Frag) (mg : Str -> Option Value) (base : Heap) (k : Nat) (N : List Str) (i : LamId) (g : List S -> Option (Rx × List S)) : Prop where
 S : ClT i.scope N
 hb : LamBind i.params i.scope
 nd : N.Nodup
 has : ∀ y ∈ i.scope.names, y.2 = .free -> ∃ c, i.cl.lookup y.1 = some c
 inj : ∀ x y c, i.cl.lookup x = some c -> i.cl.lookup y = some c -> x = y
 ev : ∃ (tb : XK -> TE) (dx : En -> Option (Rx × En)), g = mt_ N.length dx /\ (∀ (f c' : Addr) (A : Around) (outer : List Env) (s : Shared) (H : Hp) (E : XK), Room k (A.deeper (ga_ i.qual i.scope i.cl s.heap.objs.size f c')) -> PE (og_ P w K mg base i.qual i.scope N i.cl f c' A outer s H E) i.body (tb E)) ∧
  ∀ (E : XK) (as : Ro), EvX K N.length as (WL E) (tb E) dx
structure Site (P : Program) (w : World) (K : PySem.W.Frag) (mg : Str -> Option Value) (base : Heap) (k : Nat) (FN : List Str) (cells : List (Str × Addr)) (n : Nat) (N : List Str) (js : List Nat) (m : Nat) (ids : Nat -> LamId) (gs : Nat -> List S -> Option (Rx × List S)) : Prop where
 cnd : (cells.map (·.2)).Nodup
 lt : ∀ j ∈ js, j < n
 len : N.length = js.length
 at_ : ∀ (i : Nat) (x : Str), N[i]? = some x -> ∃ j, js[i]? = some j /\ FN[j]? = some x
 lam : ∀ t, t < m -> LamOk P w K mg base k N (ids t) (gs t)
 cl : ∀ t, t < m -> ∀ p ∈ (ids t).cl, p.1 ∈ N /\ cells.lookup p.1 = some p.2
variable {k n m t : Nat} {FN N : List Str} {cells : List (Str × Addr)} {js : List Nat} {ids : Nat -> LamId} {gs : Nat -> List S -> Option (Rx × List S)}
theorem lz_ {F H : Hp} {v : V} {fp : List Addr} {σ : L2.St} {os : Addr -> Obj} {ws : List V} {K' : PySem.W.Frag} (C : Site P w K mg base k FN cells n N js m ids gs) (hos : ∀ (i : Nat) (y : Str) (v : V) (c : Addr), FN[i]? = some y -> σ[i]? = some (some v) -> cells.lookup y = some c -> oe_ v (os c))
  (hl : ws.length = js.length) (hw : ∀ (i j : Nat), js[i]? = some j -> ∃ v, ws[i]? = some v /\ σ[j]? = some (some v)) (ht : t < m) (h : (ob_ t (ids t)).At K' F H v fp) : ∀ H', (pP_ P w K mg base (k + 1) (cells.map (·.2)) os ws t (ids t) (gs t)).At K' F H' v [] := by
 intro H'
 obtain ⟨rfl, f, rfl, il⟩ := (show fp = [] /\ ∃ f, v = .ref f /\ IsLm F (ids t).qual (ids t).params (ids t).body (ids t).scope (ids t).cl f from h)
 obtain ⟨S, hb, nd, has, inj, tb, dx, e, hbody, hval⟩ := C.lam t ht
 rw [e]
 refine oL_ S hb nd (by rw [hl, C.len]) hbody hval has inj (fun p hp => ?_) il
 obtain ⟨h1, h2⟩ := C.cl t ht p hp
 obtain ⟨i, hi⟩ := List.getElem?_of_mem h1
 obtain ⟨j, hj, hF⟩ := C.at_ i _ hi
 obtain ⟨u, hu, hσ⟩ := hw i j hj
 exact ⟨List.mem_map.mpr ⟨(p.1, p.2), PySem.mem_of_lookup h2, rfl⟩, i, u, hi, hu, hos j _ u _ hF hσ h2⟩
theorem kj_ {cs : List Addr} {os : Addr -> Obj} {F H F' H' : Hp} {fa fr f2 : List Addr} (hf : ∀ c ∈ cs, H c = none) (g : Grow F (gb_ cs os H) (fa ++ cs) F' H' (fr ++ (f2 ++ cs))) (nd : (fr ++ (f2 ++ cs)).Nodup) (of : ∀ a ∈ fr ++ (f2 ++ cs), F' a = none) :
  Grow F H fa F' (bS_ cs H') (fr ++ f2) /\ (∀ b o, F' b = some o -> bS_ cs H' b = some o) /\ (∀ a ∈ fr ++ f2, a ∉ cs) /\ (fr ++ f2).Nodup /\ ∀ a ∈ fr ++ f2, F' a = none := by
 rw [<- List.append_assoc] at nd of
 have nc : ∀ a ∈ fr ++ f2, a ∉ cs := fun a m mc => (List.nodup_append.mp nd).2.2 a m a mc rfl
 have sub : ∀ b o, F' b = some o -> bS_ cs H' b = some o := fun b o e => by
  rw [aM_ fun mc => by rw [of b (List.mem_append_right _ mc)] at e; cases e]
  exact g.sub b o e
 refine ⟨⟨g.f, sub, fun a o e n => ?_, fun a m => ?_, fun a h0 n fa' => ?_⟩, sub, nc, (List.nodup_append.mp nd).1, fun a m => of a (List.mem_append_left _ m)⟩
 ·have na : a ∉ cs := fun mc => by rw [hf a mc] at e; cases e
  rw [aM_ na]
  exact g.keep a o (by rw [be_ na]; exact e) fun z => (List.mem_append.mp z).elim n na
 ·rcases g.new a (by rw [<- List.append_assoc]; exact List.mem_append_left _ m) with z | z
  ·exact (List.mem_append.mp z).elim .inl fun mc => absurd mc (nc a m)
  ·rw [be_ (nc a m)] at z; exact .inr z
 ·have na : a ∉ cs := fun mc => h0 (hf a mc)
  exact g.off a (by rw [be_ na]; exact h0) (fun z => (List.mem_append.mp z).elim n na) fa'
theorem gu_ {cs : List Addr} {os : Addr -> Obj} {F H : Hp} (hf : ∀ c ∈ cs, H c = none) (s : ∀ b o, F b = some o -> H b = some o) : ∀ b o, F b = some o -> gb_ cs os H b = some o := fun b o e => by
 rw [be_ fun m => by have := hf b m; rw [s b o e] at this; cases this]
 exact s b o e
open Classical in
noncomputable def ee_ (m : Nat) (ids : Nat -> LamId) (gs : Nat -> List S -> Option (Rx × List S)) (js : List Nat) (de : En -> Option (S × En)) (E : En) : Option (S × En) := match de E with
 | some (.ext y, E1) => if y.id < m /\ y = ob_ y.id (ids y.id) then ag_ (ji_ (gs y.id)) (eO_ js) E1 else none
 | _ => none
theorem kk_ {as : Ro} {te : TE} {de : En -> Option (S × En)} (C : Site P w K mg base k FN cells n N js m ids gs) (he : EvE K n as te de) : EvE K n as (l9_ FN cells (h2_ P w K mg base (k + 1)) (tCons te tNil)) (ee_ m ids gs js de) := by
 intro F H σ E fp L R s0 E0 e Q q
 unfold ee_ at e
 split at e
 ·next y E1 ed =>
  split at e
  ·next hy =>
   obtain ⟨hm, hy⟩ := hy
   refine he L R ed fun v F1 H1 fr fp1 g1 R1 ow nd of => ?_
   have at0 := ow.ext_inv rfl
   rw [hy] at at0
   obtain ⟨rfl, _⟩ := id at0
   intro os hfree hcl
   have run := lx_ (sp := fun ws H2 Q2 => (∀ c ∈ cells.map (·.2), H2 c = none) -> ws.length = js.length -> (∀ (i j : Nat), js[i]? = some j -> ∃ v, ws[i]? = some v /\ σ[j]? = some (some v)) →
     h2_ P w K mg base (k + 1) [v] (gb_ (cells.map (·.2)) os H2) (fun v H3 => (∀ c ∈ cells.map (·.2), H3 c = some (cb_ c (os c))) /\ Q2 v (bS_ (cells.map (·.2)) H3)) fun _ _ _ => False)
    (oM_ (K := K) (as := as) C.lt) L R1 e (Q := Q) (fun ws F2 H2 ss fa ss' hF hH hs l nd2 of2 hg cont hf2 hl hw => ?_) (fun v' F' H' fr' fp' g R' ow' nd' of' => q v' F' H' fr' fp' ((g1.less fun a m => by simpa using m).trans g) R' ow' nd' of')
   ·obtain ⟨ws, hl, hw, r⟩ := hn_ run
    exact r hfree hl hw
   ·have nc : ∀ a ∈ fa, a ∉ cells.map (·.2) := fun a ma mc => by
     obtain ⟨o, eo⟩ := l.there a ma
     rw [hf2 a mc] at eo; cases eo
    refine ⟨v, F2, cells.map (·.2), os, ws, y.id, ids y.id, gs y.id, fa, ss, s0, ss', rfl, ?_, gu_ hf2 hs, l.frame (fun _ _ e => e) (gu_ hf2 hs) (fun a ma o eo => by rw [be_ (nc a ma)]; exact eo), aG_ nd2 C.cnd (fun a ma b mb ab => nc a ma (ab ▸ mb)), fun a ma => ?_, fun c mc => hL_ mc, hg, fun v' F' H' fr f2 g l' ik_ ow' nd' of' => ⟨ik_, ?_⟩⟩
    ·exact (pP_ P w K mg base (k + 1) (cells.map (·.2)) os ws y.id (ids y.id) (gs y.id)).frame hF (gu_ hf2 hs) (lz_ C hcl hl hw hm at0 H1) (fun _ z => nomatch z)
    ·rcases List.mem_append.mp ma with ma | mc
     ·exact of2 a ma
     ·cases q2 : F2 a with
      | none => rfl
      | some o => have := hs a o q2; rw [hf2 a mc] at this; cases this
    ·obtain ⟨g3, sub3, nc3, nd3, of3⟩ := kj_ hf2 g nd' of'
     exact cont v' F' _ fr f2 g3 (l'.frame (fun _ _ e => e) sub3 fun a ma o eo => by rw [aM_ (nc3 a (List.mem_append_right _ ma))]; exact eo) (ow'.frame (fun _ _ e => e) sub3 fun a ma o eo => by rw [aM_ (nc3 a (List.mem_append_left _ ma))]; exact eo) nd3 of3
  ·cases e
 ·cases e
end
end Mv
namespace Gn
open PySem PySem.Spec PyProof.Rows L2 Mv
theorem dW_ : ∀ (ns : List Int), PyData.canLayAll0 (ns.map PyData.int) = true
 | [] => rfl
 | a :: r => by simp [PyData.canLayAll0, PyData.canLay0, dW_ r]
theorem f0_ : ∀ (ns : List Int), PyData.depthAll (ns.map PyData.int) = 0
 | [] => rfl
 | a :: r => by simp [PyData.depthAll, PyData.depth, f0_ r]
theorem cU_ (ns : List Int) : SeqAt.shaped (.list (ns.map PyData.int)) = true := by
 unfold SeqAt.shaped
 simp [PyData.canLay0, dW_, PyData.depth, f0_]
theorem lA_ (ns : List Int) : e5_ (.list (ns.map PyData.int)) (.list (ns.map PyData.int)) = some (.bool true) := by
 unfold e5_
 rw [if_pos ⟨cU_ ns, cU_ ns⟩, SeqAt.eqv_refl _ (by simp [PyData.canLay0, dW_])]
theorem oO_ (ns : List Int) : (lI ns).toD = some (.list (ns.map .int)) := by
 show (S.toDs _).map PyData.list = _
 have : (ns.map fun i => S.dat (.int i)) = (ns.map PyData.int).map S.dat := by simp
 rw [this, eb_]; rfl
theorem kl_ {E : En} {f : List PyData -> Option PyData} {dr : En -> Option (List Rs)} {rs : List Rs} {ds : List PyData} {c : PyData} (h : dr E = some rs) (h2 : jO_ E rs = some ds) (h3 : f ds = some c) : dCB f dr E = some (.val (.dat c)) := by
 unfold dCB; rw [h]; simp only [h2, h3]; rfl
theorem bs_ {E : En} {f : PyData -> PyData -> Option PyData} {da db : En -> Option Rs} {a b : Rs} {x y c : PyData} (ha : da E = some a) (hb : db E = some b) (hx : a.full E = some x) (hy : b.full E = some y) (h : f x y = some c) : dOp f da db E = some (.val (.dat c)) := by
 unfold dOp; rw [ha, hb]; simp only [hx, hy, h]; rfl
theorem qe_ {E : En} {da db : En -> Option Rs} {ns : List Int} {k : Nat} {v : Int} {r : Rs} (ha : da E = some r) (hr : r.at E = some (lI ns)) (hb : db E = some (.val (.dat (.int (k : Int))))) (h : ns[k]? = some v) : aC_ da db E = some (.val (.dat (.int v))) := by
 unfold aC_
 rw [ha, hb]
 have hk := (List.getElem?_eq_some_iff.mp h).1
 have e1 : ixN (ns.map fun i => S.dat (.int i)).length (k : Int) = some k := fU_ (by simpa using hk)
 simp only [hr, lI, e1, List.getElem?_map, h, Option.map_some]
 cases r <;> rfl
def dL {α : Type} (f : α -> PyData) (m : List α) : S := .lst (m.map fun d => S.dat (f d))
def d__law_begun : En -> Option Out := (aE_ (ap_ 1 (dC (.int 0)))
  (aE_ (d8_ (c5_ (ab_ 0)) (au_ 2) (ap_ 1 (dOp fG_ (dOp dR_ (dOp dR_ (dOp fh_ (ab_ 1) (dC (.int 48271))) (dOp fh_ (ab_ 2) (dC (.int 69621)))) (dC (.int 11))) (dC (.int 2147483647)))))
  (aY_ (ae_ (ba_ (aa_ (dCS i8_ (aa_ (ab_ 0) ai_)) (aa_ (dOp fh_ (ab_ 1) (dCB lb_ (aa_ (dOp fGt (bp_ (ab_ 0)) (dC (.int 2))) ai_))) ai_)))))))
def g__law_begun : List S -> Option (S × List S) := fnG 3 d__law_begun
def d__law_take : En -> Option Out := (aE_ (dIf (ao_ (aj_ (dOp e5_ (aC_ (ab_ 0) (dC (.int 0))) (ba_ ai_)))) (aE_ (eV_ (ab_ 0) (dC (.int 1)) (ae_ (dOp fG_ (dOp fh_ (aC_ (ab_ 0) (dC (.int 1))) (dC (.int 48271))) (dC (.int 2147483647)))))
  (aY_ (ae_ (dOp fG_ (dOp mc_ (aC_ (ab_ 0) (dC (.int 1))) (dC (.int 7))) (ab_ 1))))) aH_)
  (aE_ (ap_ 2 (aC_ (aC_ (ab_ 0) (dC (.int 0))) (dC (.int 0))))
  (aE_ (eV_ (aC_ (ab_ 0) (dC (.int 0))) (dC (.int 0)) (ae_ (dOp mc_ (ab_ 2) (ab_ 1))))
  (aE_ (dIf (ao_ (dOr (aj_ (dOp bP_ (aC_ (aC_ (ab_ 0) (dC (.int 0))) (dC (.int 0))) (dC (.int 0)))) (aj_ (dOp bP_ (aC_ (aC_ (ab_ 0) (dC (.int 0))) (dC (.int 0))) (la_ (dC (.int 1))))))) (cr_ (dH_ eJ_ (aC_ (ab_ 0) (dC (.int 0))) (dC (.int 0)))) aH_)
  (aY_ (ae_ (dOp fG_ (ab_ 2) (ab_ 1))))))))
def g__law_take : List S -> Option (S × List S) := fnG 3 d__law_take
def bx (ns : List Int) (st : Int) : S := .lst [lI ns, .dat (.int st)]
theorem pQ_ {i j : Int} (h : -1000000 < j /\ j < 1000000) : fh_ (.int i) (.int j) = some (.int (i * j)) := by
 show (if (-(2 ^ 64) < i /\ i < 2 ^ 64) ∨ (-(2 ^ 64) < j /\ j < 2 ^ 64) then some (PyData.int (i * j)) else none) = _
 exact if_pos (.inr ⟨by omega, by omega⟩)
theorem pR_ {i j : Int} (h : 0 < j) : fG_ (.int i) (.int j) = some (.int (i % j)) := if_pos h
def eBg (ns : List Int) (st : Int) (s2 : Sl) : En := [.own (.dat (.list (ns.map .int))), .own (.dat (.int st)), s2, .own (.dat (.list (ns.map .int)))]
theorem v_begun {ns : List Int} (hl : ns.length < 1000) : ∃ st, g__law_begun [.dat (.list (ns.map .int))] = some (bx ns st, [.dat (.list (ns.map .int))]) := by
 have hloop := e8_ (rd := rdD (ns.map .int)) (bd := au_ 2) (db := ap_ 1 (dOp fG_ (dOp dR_ (dOp dR_ (dOp fh_ (ab_ 1) (dC (.int 48271))) (dOp fh_ (ab_ 2) (dC (.int 69621)))) (dC (.int 11))) (dC (.int 2147483647))))
  (fun i E => ∃ st s2, E = eBg ns st s2) ns.length
  (fun i E hi hJ => by
   obtain ⟨st, s2, rfl⟩ := hJ
   have hv : ns[i]? = some ns[i] := List.getElem?_eq_getElem _
   generalize ns[i] = x at hv
   let E1 : En := [.own (.dat (.list (ns.map .int))), .own (.dat (.int st)), .own (.dat (.int x)), .own (.dat (.list (ns.map .int)))]
   have a1 : dOp fh_ (ab_ 1) (dC (.int 48271)) E1 = some (.val (.dat (.int (st * 48271)))) := bs_ rfl rfl rfl rfl (pQ_ (by omega))
   have a2 : dOp fh_ (ab_ 2) (dC (.int 69621)) E1 = some (.val (.dat (.int (x * 69621)))) := bs_ rfl rfl rfl rfl (pQ_ (by omega))
   have a3 : dOp fG_ (dOp dR_ (dOp dR_ (dOp fh_ (ab_ 1) (dC (.int 48271))) (dOp fh_ (ab_ 2) (dC (.int 69621)))) (dC (.int 11))) (dC (.int 2147483647)) E1 = some (.val (.dat (.int ((st * 48271 + x * 69621 + 11) % 2147483647)))) :=
    bs_ (bs_ (bs_ a1 a2 rfl rfl rfl) rfl rfl rfl rfl) rfl rfl rfl (pR_ (by omega))
   refine ⟨_, E1, eBg ns ((st * 48271 + x * 69621 + 11) % 2147483647) (.own (.dat (.int x))), oB_ hv, rfl, ?_, _, _, rfl⟩
   unfold ap_
   rw [a3]; rfl)
  (fun E _ => j1_ (Nat.le_refl _)) ns.length 0 (ns.map PyData.int).length (eBg ns 0 .no) (by omega) (by simp) ⟨0, .no, rfl⟩
 obtain ⟨E', hE, st, s2, rfl⟩ := hloop
 have c2 := cE_ (src := c5_ (ab_ 0)) (E := eBg ns 0 .no) (c := ⟨eBg ns 0 .no, [], rdD (ns.map .int), (ns.map PyData.int).length⟩) rfl hE
 have hll : (ns.map PyData.int).length = ns.length := by simp
 refine ⟨st * (if decide ((2 : Int) < (ns.length : Int)) = true then 1 else 0), ?_⟩
 have b1 : dCS i8_ (aa_ (ab_ 0) ai_) (eBg ns st s2) = some (.val (lI ns)) := by
  show (some (S.lst ((ns.map PyData.int).map S.dat))).map Rs.val = _
  simp [lI]
 have b2 : dCB lb_ (aa_ (dOp fGt (bp_ (ab_ 0)) (dC (.int 2))) ai_) (eBg ns st s2) = some (.val (.dat (.int (if decide ((2 : Int) < (ns.length : Int)) = true then 1 else 0)))) := by
  refine kl_ (am_ (bs_ (x := .int (ns.length : Int)) (show bp_ (ab_ 0) (eBg ns st s2) = some (.val (.dat (.int (ns.length : Int)))) from ?_) rfl rfl rfl rfl) rfl) rfl rfl
  show some (Rs.val (.dat (.int ((ns.map PyData.int).length : Nat)))) = _
  rw [hll]
 have b3 : dOp fh_ (ab_ 1) (dCB lb_ (aa_ (dOp fGt (bp_ (ab_ 0)) (dC (.int 2))) ai_)) (eBg ns st s2) = some (.val (.dat (.int (st * (if decide ((2 : Int) < (ns.length : Int)) = true then 1 else 0))))) :=
  bs_ rfl b2 rfl rfl (pQ_ (by split <;> omega))
 have c3 : aY_ (ae_ (ba_ (aa_ (dCS i8_ (aa_ (ab_ 0) ai_)) (aa_ (dOp fh_ (ab_ 1) (dCB lb_ (aa_ (dOp fGt (bp_ (ab_ 0)) (dC (.int 2))) ai_))) ai_)))) (eBg ns st s2) = some (.rt (bx ns (st * (if decide ((2 : Int) < (ns.length : Int)) = true then 1 else 0))) (eBg ns st s2)) := by
  unfold aY_ ae_ ba_
  rw [am_ b1 (am_ b3 rfl)]; rfl
 exact aU_ (ad_ (E1 := eBg ns 0 .no) rfl (ad_ c2 c3)) rfl
section
variable {E E1 E2 : En} {s : S} {de : En -> Option (S × En)} {da : En -> Option Rs} {dl : En -> Option (Nat × En)}
theorem nk_ {dl : En -> Option (Nat × En)} {dc : Nat -> En -> Option (S × En)} {k : Nat} (h : dl E = some (k, E1)) (h2 : dc k E1 = some (s, E2)) : bh_ dl dc E = some (s, stripN k E2) := by unfold bh_; rw [h]; simp only [h2]
theorem when_go {k : Nat} {r : Option (S × En)} (h : de E = r) : aT_ k k de E = r := by unfold aT_; rw [if_pos rfl]; exact h
def frs (n : Nat) : Sl -> Bool
 | .bor (i :: _) => decide (i < n)
 | _ => true
theorem iO_ {n j : Nat} (hj : n <= j) : ∀ {E : En}, E.all (frs n) = true -> E.map (aW_ j) = E
 | [], _ => rfl
 | e :: r, h => by
  simp only [List.all_cons, Bool.and_eq_true] at h
  rw [List.map_cons, iO_ hj h.2]
  congr 1
  cases e with
  | no => rfl
  | own s => rfl
  | bor q => cases q with
   | nil => rfl
   | cons i q =>
    have : i < n := by simpa [frs] using h.1
    exact if_neg (by simp; omega)
theorem f1_ (E : En) (x : Sl) : strip1 (E ++ [x]) = E.map (aW_ E.length) := by
 have hl : (E ++ [x]).length - 1 = E.length := by simp
 unfold strip1 ak_
 rw [hl, List.map_append, List.set_append_right _ _ (by simp)]
 simp
theorem ho_ {E : En} (h : E.all (frs E.length) = true) : ∀ (k : Nat) (G : En), G.length = k -> stripN k (E ++ G) = E
 | 0, G, hg => by rw [List.eq_nil_of_length_eq_zero hg, List.append_nil]; rfl
 | k + 1, G, hg => by
  rcases List.eq_nil_or_concat G with rfl | ⟨G', x, rfl⟩
  ·cases hg
  ·rw [List.concat_eq_append, <- List.append_assoc]
   show stripN k (strip1 _) = E
   rw [f1_, List.map_append, iO_ (by simp) h]
   exact ho_ h k _ (by simpa using hg)
theorem lE_go {k : Nat} (h : de E = some (s, E1)) (h2 : dl (E1 ++ [.own s]) = some (k, E2)) : af_ de dl E = some (k + 1, E2) := by unfold af_; rw [h]; simp only [h2]; rfl
theorem lP_own {k : Nat} (h : da E = some (.val s)) (h2 : dl (E ++ [.own s]) = some (k, E2)) : an_ da dl E = some (k + 1, E2) := by unfold an_; rw [h]; simp only [h2]; rfl
theorem lP_bor {k : Nat} {p : List Nat} (h : da E = some (.pl p)) (h2 : dl (E ++ [.bor p]) = some (k, E2)) : an_ da dl E = some (k + 1, E2) := by unfold an_; rw [h]; simp only [h2]; rfl
theorem km_ {src : En -> Option Src} {bd : Rs -> En -> Option En} {db : En -> Option Out} {c : Src} (h : src E = some c) (h2 : dLoop c.rd bd db c.fuel 0 (c.env ++ c.exE) = some (.rt s E1)) : d8_ src bd db E = some (.rt s (cz_ c E1)) := by
 unfold d8_; rw [h]; simp only [h2]; rfl
theorem fp_ {f : S -> S -> Option S} {da db : En -> Option Rs} {a b : Rs} {s t u : S} (ha : da E = some a) (hb : db E = some b) (hx : a.at E = some s) (hy : b.at E = some t) (h : f s t = some u) : cq_ f da db E = some (.val u) := by
 unfold cq_; rw [ha, hb]; simp only [hx, hy, h]; rfl
theorem fq_ {dr : En -> Option (List Rs)} {rs : List Rs} {ds : List PyData} (h : dr E = some rs) (hl : rs.length < 1000) (h2 : tupD E rs = some ds) : aS_ dr E = some (.val (.dat (.tuple ds))) := by
 unfold aS_; rw [h]; simp only [if_pos hl]; unfold pM_; rw [h]; simp only [h2]; rfl
theorem eff_go {dc : Nat -> En -> Option (S × En)} {k : Nat} {A B G G2 : En} (h : dl E = some (k, A ++ G)) (h2 : dc k (A ++ G) = some (s, B ++ G2)) (hB : B.all (frs B.length) = true) (hG : G2.length = k) : bh_ dl dc E = some (s, B) := by
 rw [nk_ h h2, ho_ hB k G2 hG]
theorem ePure_go {d : PyData} (h : da E = some (.val (.dat d))) : ae_ da E = some (.dat d, E) := by unfold ae_; rw [h]
theorem hp_ {f : PyData -> PyData -> Option PyData} {da db : En -> Option (S × En)} {x y c : PyData} (h : da E = some (.dat x, E1)) (h2 : db E1 = some (.dat y, E2)) (h3 : f x y = some c) : eOp f da db E = some (.dat c, E2) := by
 unfold eOp
 rw [h]
 simp only [h2]
 show (f x y).map (fun c => (S.dat c, E2)) = _
 rw [h3]; rfl
theorem mu_ {α : Type} {f : α -> PyData} {l : List α} {p : List Nat} {i : Nat} {x : α} (h1 : E.getLast? = some (.bor p)) (h2 : aZ_ E p = some (dL f l)) (h3 : l[i]? = some x) : rdP E i = some (some (.val (.dat (f x)))) := by
 unfold rdP
 simp only [h1, h2, dL, List.getElem?_map, h3, Option.map_some]
 rfl
theorem mv_ {α : Type} {f : α -> PyData} {l : List α} {p : List Nat} {i : Nat} (h1 : E.getLast? = some (.bor p)) (h2 : aZ_ E p = some (dL f l)) (h3 : l.length <= i) : rdP E i = some none := by
 unfold rdP
 simp only [h1, h2, dL, List.getElem?_map, List.getElem?_eq_none_iff.mpr h3, Option.map_none]
theorem lcF {α : Type} {xs : List α} {f : α -> PyData} {p : α -> Bool} {g : α -> S} {rd : En -> Nat -> Option (Option Rs)} {j : Nat} {dt : En -> Option (Bool × En)} {E0 : En} (hn : xs.length < 100000)
  (hrd : ∀ i a, xs[i]? = some a -> rd E0 i = some (some (.val (.dat (f a))))) (hend : rd E0 xs.length = some none)
  (hs : ∀ a ∈ xs, ∃ E1, au_ j (.val (.dat (f a))) E0 = some E1 /\ dt E1 = some (p a, E1) /\ (p a = true -> de E1 = some (g a, E1)) /\ ak_ E1 j .no = E0) :
  ∀ (m i fuel : Nat) (acc : List S), i + m = xs.length -> m <= fuel -> acc.length <= i -> dLcLoop rd j dt de fuel i acc E0 = some (acc ++ ((xs.drop i).filter p).map g, E0) := by
 intro m
 induction m with
 | zero =>
  intro i fuel acc hi _ _
  have : i = xs.length := by omega
  subst this
  rw [er_ hend]; simp
 | succ m ih =>
  intro i fuel acc hi hf ha
  cases fuel with
  | zero => omega
  | succ fuel =>
   have hil : i < xs.length := by omega
   have hv : xs[i]? = some xs[i] := List.getElem?_eq_getElem hil
   obtain ⟨E1, h1, h2, h3, h4⟩ := hs xs[i] (List.getElem_mem _)
   rw [List.drop_eq_getElem_cons hil]
   cases hp : p xs[i] with
   | true =>
    rw [hp] at h2
    rw [es_ (hrd i _ hv) h1 h2 (h3 hp) (by omega), h4, ih (i + 1) fuel (acc ++ [g xs[i]]) (by omega) (by omega) (by simp; omega), List.filter_cons_of_pos hp, List.map_cons, List.append_assoc]; rfl
   | false =>
    rw [hp] at h2
    rw [jZ_ (hrd i _ hv) h1 h2, h4, ih (i + 1) fuel acc (by omega) (by omega) (by omega), List.filter_cons_of_neg (by rw [hp]; exact Bool.false_ne_true)]
theorem lcP {α : Type} {xs : List α} {f : α -> PyData} {p : α -> Bool} {g : α -> S} {q : List Nat} {j : Nat} {src : En -> Option Src} {dt : En -> Option (Bool × En)} {E0 : En} (hn : xs.length < 100000) (hsrc : src E = some ⟨E, [.bor q], rdP, xs.length⟩)
  (h0 : ak_ (E ++ [.bor q]) j .no = E0) (hl : E0.getLast? = some (.bor q)) (hq : aZ_ E0 q = some (dL f xs))
  (hs : ∀ a ∈ xs, ∃ E1, au_ j (.val (.dat (f a))) E0 = some E1 /\ dt E1 = some (p a, E1) /\ (p a = true -> de E1 = some (g a, E1)) /\ ak_ E1 j .no = E0) :
  eLc src j dt de E = some (.lst ((xs.filter p).map g), stripN 1 E0) := by
 refine iB_ hsrc ?_
 show dLcLoop rdP j dt de xs.length 0 [] (ak_ (E ++ [.bor q]) j .no) = _
 rw [h0, lcF (f := f) (p := p) (g := g) hn (fun i a h => mu_ hl hq h) (mv_ hl hq (Nat.le_refl _)) hs xs.length 0 xs.length [] (by omega) (Nat.le_refl _) (Nat.le_refl _)]
 simp
end
section
variable {α : Type} {f : α -> PyData} {xs ys : List α} {E : En} {da db dl dh : En -> Option Rs} {r r2 : Rs} {k l : Nat}
theorem bG_ : (dL f xs).seqL = some (xs.map f) := by
 show bc_ _ = _
 have : (xs.map fun d => S.dat (f d)) = (xs.map f).map S.dat := by simp
 rw [this, b8_]
theorem nl_ (xs : List α) : S.lst ((xs.map f).map S.dat) = dL f xs := by simp [dL]
theorem kn_ : (dL f xs).toD = some (.list (xs.map f)) := by
 show (S.toDs _).map PyData.list = _
 have : (xs.map fun d => S.dat (f d)) = (xs.map f).map S.dat := by simp
 rw [this, eb_]; rfl
theorem h3_ {lo hi : Option Int} {dlo dhi : En -> Option (Option Int)} (ha : da E = some r) (hr : r.at E = some (dL f xs)) (h1 : dlo E = some lo) (h2 : dhi E = some hi) : dSl c8_ da dlo dhi E = some (.val (dL f (Mv.cutD xs lo hi))) := by
 unfold dSl
 rw [ha, h1, h2]
 show (match r.at E with | some s => (c8_ s lo hi).map Rs.val | none => none) = _
 rw [hr]
 show ((dL f xs).seqL.map fun ds => S.lst ((Mv.cutD ds lo hi).map S.dat)).map Rs.val = _
 rw [bG_, Option.map_some, Option.map_some]
 have : Mv.cutD (xs.map f) lo hi = (Mv.cutD xs lo hi).map f := by
  unfold Mv.cutD
  rw [List.length_map, <- List.map_drop, <- List.map_take]
 rw [this, nl_]
theorem eu_ {i : Int} (h : dl E = some (.val (.dat (.int i)))) : aV_ dl E = some (some i) := by unfold aV_; rw [h]
theorem nm_ (h : k <= xs.length) : Mv.cutD xs none (some (k : Int)) = xs.take k := by
 unfold Mv.cutD
 rw [HT.sIx_nat, HT.sIx_none, Nat.min_eq_left h]; simp
theorem nn_ : Mv.cutD xs (some (k : Int)) none = xs.drop k := by
 by_cases h : k <= xs.length
 ·exact j0_ h
 ·unfold Mv.cutD
  rw [HT.sIx_nat, HT.sIx_none, Nat.min_eq_right (by omega), List.drop_length, List.drop_eq_nil_of_le (by omega)]; simp
theorem no_ (h : k <= xs.length) : Mv.cutD xs (some (k : Int)) (some ((k + l : Nat) : Int)) = (xs.drop k).take l := by
 unfold Mv.cutD
 rw [HT.sIx_nat, HT.sIx_nat, Nat.min_eq_left h]
 by_cases h2 : k + l <= xs.length
 ·rw [Nat.min_eq_left h2, show k + l - k = l by omega]
 ·rw [Nat.min_eq_right (by omega), List.take_of_length_le (by simp), List.take_of_length_le (by simp; omega)]
theorem np_ (ha : da E = some r) (hr : r.at E = some (dL f xs)) (h : dl E = some (.val (.dat (.int (k : Int))))) (hk : k <= xs.length) : dSl c8_ da ax_ (aV_ dl) E = some (.val (dL f (xs.take k))) := by
 rw [h3_ ha hr rfl (eu_ h), nm_ hk]
theorem h4_ (ha : da E = some r) (hr : r.at E = some (dL f xs)) (h : dl E = some (.val (.dat (.int (k : Int))))) : dSl c8_ da (aV_ dl) ax_ E = some (.val (dL f (xs.drop k))) := by
 rw [h3_ ha hr (eu_ h) rfl, nn_]
theorem nq_ (ha : da E = some r) (hr : r.at E = some (dL f xs)) (h : dl E = some (.val (.dat (.int (k : Int))))) (h2 : dh E = some (.val (.dat (.int ((k + l : Nat) : Int))))) (hk : k <= xs.length) : dSl c8_ da (aV_ dl) (aV_ dh) E = some (.val (dL f ((xs.drop k).take l))) := by
 rw [h3_ ha hr (eu_ h) (eu_ h2), no_ hk]
theorem eP_ {a : α} (ha : da E = some r) (hr : r.at E = some (dL f xs)) (hb : db E = some (.val (.dat (.int (k : Int))))) (h : xs[k]? = some a) : aC_ da db E = some (.val (.dat (f a))) := by
 unfold aC_
 rw [ha, hb]
 have hk := (List.getElem?_eq_some_iff.mp h).1
 have e1 : ixN (xs.map fun d => S.dat (f d)).length (k : Int) = some k := fU_ (by simpa using hk)
 simp only [hr, dL, e1, List.getElem?_map, h, Option.map_some]
 cases r <;> rfl
theorem ko_ (ha : da E = some r) (hr : r.at E = some (dL f xs)) : bp_ da E = some (.val (.dat (.int (xs.length : Nat)))) := by
 unfold bp_
 rw [ha]
 simp only [hr]
 show some (Rs.val (.dat (.int ((xs.map fun d => S.dat (f d)).length : Nat)))) = _
 rw [List.length_map]
end
def killR (n m : Nat) : Sl -> Sl
 | .bor (j :: q) => if n <= j /\ j < n + m then .no else .bor (j :: q)
 | e => e
theorem kp_ : ∀ (m : Nat) (E : En) (ss : List S), ss.length = m -> jX_ m (E ++ ss.map Sl.own) = some (ss, E.map (killR E.length m))
 | 0, E, ss, h => by
  have : ss = [] := List.eq_nil_of_length_eq_zero h
  subst this
  have : E.map (killR E.length 0) = E := by
   have hk : ∀ e : Sl, killR E.length 0 e = e := by
    intro e
    cases e with
    | no => rfl
    | own s => rfl
    | bor q => cases q with
     | nil => rfl
     | cons j q => exact if_neg (by omega)
   rw [show killR E.length 0 = id from funext hk, List.map_id]
  rw [this]
  simp [jX_]
 | m + 1, E, ss, h => by
  rcases List.eq_nil_or_concat ss with rfl | ⟨ss', s, rfl⟩
  ·cases h
  ·rw [List.concat_eq_append] at h ⊢
   have hm : ss'.length = m := by simpa using h
   have hk : ∀ (j : Nat) (l : List S), (l.map Sl.own).map (aW_ j) = l.map Sl.own := by
    intro j l
    rw [List.map_map]; rfl
   have e1 : E ++ (ss' ++ [s]).map Sl.own = (E ++ ss'.map Sl.own) ++ [.own s] := by simp
   rw [e1]
   unfold jX_
   simp only [List.getLast?_append, List.getLast?_singleton, Option.some_or, List.dropLast_concat]
   have hl : ((E ++ ss'.map Sl.own) ++ [Sl.own s]).length - 1 = E.length + m := by simp [hm]
   rw [hl, List.map_append, hk, kp_ m _ ss' hm]
   simp only [List.length_map, List.map_map]
   congr 3
   funext e
   cases e with
   | no => rfl
   | own s => rfl
   | bor q => cases q with
    | nil => rfl
    | cons j q =>
     show killR E.length m (if some j = some (E.length + m) then .no else .bor (j :: q)) = if E.length <= j /\ j < E.length + (m + 1) then .no else .bor (j :: q)
     by_cases hj : j = E.length + m
     ·rw [if_pos (by rw [hj]), if_pos (by omega)]; rfl
     ·rw [if_neg (by simpa using hj)]
      show (if E.length <= j /\ j < E.length + m then Sl.no else .bor (j :: q)) = _
      by_cases hh : E.length <= j /\ j < E.length + m
      ·rw [if_pos hh, if_pos (by omega)]
      ·rw [if_neg hh, if_neg (by omega)]
theorem nr_ {E E1 E2 E3 E4 : En} {dl : En -> Option (Nat × En)} {i j : Nat} {a b : S} (h : dl E = some (2, E1)) (hp : jX_ 2 E1 = some ([a, b], E2)) (h1 : ak_ E2 i (.own a) = E3) (h2 : ak_ E3 j (.own b) = E4) : jd_ i j dl E = some (.nx E4) := by
 subst h1 h2
 unfold jd_
 simp only [h, hp]
theorem pop_go {E E1 : En} {ss : List S} {m : Nat} (h : ss.length = m) (h2 : E.map (killR E.length m) = E1) : jX_ m (E ++ ss.map Sl.own) = some (ss, E1) := by subst h2; exact kp_ m E ss h
section
variable {α : Type} {f : α -> PyData} {xs ys : List α} {E : En} {da db dl dh : En -> Option Rs} {r r2 : Rs} {k l : Nat}
theorem len_dat (ha : da E = some (.val (.dat (.list (xs.map f))))) : bp_ da E = some (.val (.dat (.int (xs.length : Nat)))) := by
 unfold bp_
 rw [ha]
 show some (Rs.val (.dat (.int ((xs.map f).length : Nat)))) = _
 rw [List.length_map]
theorem mw_ {i : Nat} {x : α} (h3 : xs[i]? = some x) : rdD (xs.map f) E i = some (some (.val (.dat (f x)))) := by
 unfold rdD
 rw [List.getElem?_map, h3]; rfl
theorem mx_ {i : Nat} (h3 : xs.length <= i) : rdD (xs.map f) E i = some none := by
 unfold rdD
 rw [List.getElem?_map, List.getElem?_eq_none_iff.mpr h3]; rfl
theorem fr_ {de : En -> Option (S × En)} {E1 : En} (h : de E = some (dL f xs, E1)) : fH_ de E = some (.dat (.list (xs.map f)), E1) := by
 unfold fH_
 rw [h]
 show (bc_ (xs.map fun d => S.dat (f d))).map _ = _
 have : (xs.map fun d => S.dat (f d)) = (xs.map f).map S.dat := by simp
 rw [this, b8_]; rfl
theorem gv_ {de : En -> Option (S × En)} {E1 : En} {d : PyData} (h : de E = some (.dat d, E1)) : fH_ de E = some (.dat d, E1) := by
 unfold fH_
 rw [h]
theorem oP_ (h : da E = some (.val (dL f xs))) : hY_ da E = some (.val (.dat (.list (xs.map f)))) := by
 unfold hY_
 rw [h]
 show (bc_ (xs.map fun d => S.dat (f d))).map _ = _
 have : (xs.map fun d => S.dat (f d)) = (xs.map f).map S.dat := by simp
 rw [this, b8_]; rfl
end
end Gn
namespace Mv
open PySem PySem.Spec PyProof.Rows L2 CLX LamX
section
variable {E : En} {s : S}
def rsO (j : Nat) : S -> Rs
 | .dat d => .val (.dat d)
 | .con v => .val (.con v)
 | _ => .pl [j]
theorem ns_ {j : Nat} (h : E[j]? = some (.own s)) : ab_ j E = some (rsO j s) := by
 unfold ab_ rsO
 rw [h]
 cases s <;> rfl
theorem oQ_ {j : Nat} (h : E[j]? = some (.own s)) : (rsO j s).at E = some s := by
 cases s with
 | dat d => rfl
 | con v => rfl
 | _ => simp only [rsO, Rs.at, aZ_, h, S.get_nil]
end
section
variable {K : PySem.W.Frag} {F F' H H' : Hp} {v : V} {n m : Nat} {as : Ro} {E : En} {fp : List Addr} {tb tc : TE} {db : En -> Option Rs} {de : En -> Option (S × En)} {ids : Nat -> LamId}
open Classical in
noncomputable def ld_ (j : Nat) (P : Addr) (t : Nat) (i : LamId) (E : En) : Option (S × En) := match E[j]? with
 | some (.own (.ext x)) => if x = jf_ P i.qual then some (.ext (ob_ t i), bV_ E [j]) else none
 | _ => none
theorem nt_ {j t : Nat} {P : Addr} {i : LamId} (h : E[j]? = some (.own (.ext (jf_ P i.qual)))) : ld_ j P t i E = some (.ext (ob_ t i), bV_ E [j]) := by
 unfold ld_
 rw [h]
 exact if_pos rfl
theorem oR_ {j t : Nat} {P : Addr} {i : LamId} : EvE K n as (tLm P i.qual i.params i.body i.scope i.cl) (ld_ j P t i) := by
 intro F H σ E fp L R s0 E0 e Q q
 unfold ld_ at e
 split at e
 ·next x ex =>
  split at e
  ·next hx =>
   subst hx
   cases e
   refine qT_ (K := K) (n := n) (as := as) L R (oI_ (i := i) ex) fun v F1 H1 fr fp1 g1 R1 ow nd of => ?_
   obtain ⟨rfl, f, rfl, il⟩ := ow.ext_inv rfl
   exact q (.ref f) F1 H1 [] fp1 g1 R1 (.ext ⟨rfl, f, rfl, il⟩) nd of
  ·cases e
 ·cases e
open Classical in
noncomputable def oc_ (g : Nat -> List S -> List S -> Option (S × List S × List S)) (ss tts : List S) : Option (S × List S × List S) := if h : ∃ r, ∀ n, g n ss tts = some r then some h.choose else none
theorem gAll_go {g : Nat -> List S -> List S -> Option (S × List S × List S)} {ss tts : List S} {r : S × List S × List S} (h : ∀ n, g n ss tts = some r) : oc_ g ss tts = some r := by
 have h2 : ∃ r, ∀ n, g n ss tts = some r := ⟨r, h⟩
 unfold oc_
 rw [dif_pos h2]
 have := h2.choose_spec 0
 rw [h 0] at this
 exact this.symm
theorem lB_ {g : Nat -> List S -> List S -> Option (S × List S × List S)} {ss tts : List S} {r : S × List S × List S} (h : oc_ g ss tts = some r) (n : Nat) : g n ss tts = some r := by
 unfold oc_ at h
 split at h
 ·next h2 => cases h; exact h2.choose_spec n
 ·cases h
section
variable {P : Program} {w : World} {mg : Str -> Option Value} {base : Heap}
theorem nu_ {x qual : Str} {st : Stmt} {f cA : Addr} {fd : FuncData} {N ps : List Str} {k : Nat} {dd : Nat -> En -> Option Out} (ws : List V) (Fn : FunC K x qual st f fd cA) (Sc : FnScope N ps (defScope st))
  (body : ∀ (A : Around) (outer : List Env) (s : Shared) (H : Hp) (E : XK) (vs : List V), vs.length = ps.length -> Room k (A.deeper (envOfC qual (defScope st) s.heap.objs.size f (.ref cA))) →
   ∃ t, PSs (cxOf CX0 P w K mg base N qual (defScope st) f (.ref cA) A outer s H E).nox (defBody st) t /\ ∀ W, EvS K N.length (vs.map some ++ ws.map some) W t (dd s.heap.objs.size)) :
  FnOk P w K mg base CX0 (k + 1) f fd ps (spG ws K ps.length (oc_ fun n => oa_ N.length (dd n))) := by
 have hps : ps.length <= N.length := by have := congrArg List.length Sc.pre; rw [List.length_take] at this; omega
 obtain ⟨oc, od, kV, doc, pm, an, ct, osl, rfl, lk, hcd⟩ := Fn.ex
 refine fn_of lk hcd Sc (fun vs H Q E h => h.1) fun A outer s H vs Q E hr h => ?_
 obtain ⟨t, h1, h2⟩ := body A outer s H E vs h.1 hr
 refine ⟨t, h1.nox, lv_ (E := E) hps ?_ h2⟩
 obtain ⟨hl, F, ss, tts, fp, fq, s1, ss', tts', sub, l, lw, nd, of, hg, q⟩ := h
 exact ⟨hl, F, ss, tts, fp, fq, s1, ss', tts', sub, l, lw, nd, of, lB_ hg _, q⟩
end
variable {tr : TA} {dr : En -> Option (List Rs)} {ws : List V}
end
section
variable {K : PySem.W.Frag} {n : Nat} {as : Ro} {W : WXm} {ta tb te : TE} {da db : En -> Option Rs} {de : En -> Option (S × En)}
theorem kq_ {x y : Str} {c : Addr} : ∀ {cl : List (Str × Addr)}, (cl.map (·.2)).Nodup -> (x, c) ∈ cl -> (y, c) ∈ cl -> x = y
 | [], _, m, _ => nomatch m
 | p :: r, nd, m1, m2 => by
  obtain ⟨n1, n2⟩ := List.nodup_cons.mp nd
  rcases List.mem_cons.mp m1 with e1 | m1
  ·rcases List.mem_cons.mp m2 with e2 | m2
   ·rw [<- e1] at e2; exact (congrArg Prod.fst e2).symm
   ·exact absurd (List.mem_map.mpr ⟨(y, c), m2, by rw [<- e1]⟩) n1
  ·rcases List.mem_cons.mp m2 with e2 | m2
   ·exact absurd (List.mem_map.mpr ⟨(x, c), m1, by rw [<- e2]⟩) n1
   ·exact kq_ n2 m1 m2
theorem f2_ {cl : List (Str × Addr)} (nd : (cl.map (·.2)).Nodup) : ∀ x y c, cl.lookup x = some c -> cl.lookup y = some c -> x = y :=
 fun _ _ _ h1 h2 => kq_ nd (PySem.mem_of_lookup h1) (PySem.mem_of_lookup h2)
def exN : Expr := .Constant .none default default
def qM_ : Stmt -> Expr | .If t _ _ _ => t | _ => exN
def pS_ : Stmt -> List Stmt | .For _ _ b _ _ => b | _ => []
def aSt (i : Nat) (l : List Stmt) : Stmt := match l[i]? with | some s => s | none => .Pass default
def pT_ (i : Nat) : Expr -> Expr | .Call _ as _ _ => (match as[i]? with | some e => e | none => exN) | _ => exN
def qN_ : Expr -> Expr | .UnaryOp _ e _ => e | _ => exN
def qf_ : Expr -> Arguments | .Lambda p _ _ _ => p | _ => default
def qg_ : Expr -> Expr | .Lambda _ b _ _ => b | _ => exN
def eY_ : Expr -> Scope | .Lambda _ _ s _ => s | _ => default
def oS_ (st : Stmt) (q : Str) (e : Expr) (n : Nat) : LamId := ⟨(envOfC q (defScope st) 0 0 .none).qual ++ "<lambda>", qf_ e, qg_ e, eY_ e, cloFrom (envOfC q (defScope st) n 0 .none).cells (eY_ e).names []⟩
end
end Mv
namespace Mv
open PySem PySem.Spec PyProof.Rows L2
variable {K : PySem.W.Frag} {F F' F1 F2 F3 H H' H1 H2 H3 : Hp} {v u x y w : V} {vs ws xs : List V} {s t c : S} {ss tts : List S} {fp fq fr fp' fp1 fp2 f1 f2 : List Addr} {ρ as : Ro} {E E' : En} {n : Nat}
variable {W : WXm} {te ta tb tc tk tv td : TE} {d da db dc dk dv : En -> Option Rs} {tr : TA} {dr : En -> Option (List Rs)} {de df : En -> Option (S × En)} {tt : TT} {dte : En -> Option (Bool × En)} {Q : VK} {dl : En -> Option (Nat × En)} {js : List Nat} {ds : List PyData}
variable {tl th : TO}
def dLcGX (rd : En -> Nat -> Option (Option Rs)) (js : List Nat) (bd : Rs -> En -> Option En) (dt : En -> Option (Bool × En)) (dx : En -> Option (Rx × En)) : Nat -> Nat -> List S -> En -> Option ((List S ⊕ Nat) × En)
 | fuel, i, acc, E => match rd E i with
  | none => none
  | some none => some (.inl acc, E)
  | some (some r) => match fuel with
   | 0 => none
   | fuel + 1 => match bd r E with
    | none => none
    | some E1 => match dt E1 with
     | some (true, E2) => match dx E2 with
      | some (.rt s, E3) => if acc.length < 100000 then dLcGX rd js bd dt dx fuel (i + 1) (acc ++ [s]) (dh_ E3 js) else none
      | some (.ex c, E3) => some (.inr c, dh_ E3 js)
      | none => none
     | some (false, E2) => dLcGX rd js bd dt dx fuel (i + 1) acc (dh_ E2 js)
     | none => none
def oT_ : List S ⊕ Nat -> Rx
 | .inl acc => .rt (.lst acc)
 | .inr c => .ex c
def od_ (src : En -> Option Src) (js : List Nat) (bd : Rs -> En -> Option En) (dt : En -> Option (Bool × En)) (dx : En -> Option (Rx × En)) (E : En) : Option (Rx × En) := match src E with
 | some c => match dLcGX c.rd js bd dt dx c.fuel 0 [] (dh_ (c.env ++ c.exE) js) with
  | some (res, E') => some (oT_ res, cz_ c E')
  | none => none
 | none => none
section
variable {P : Program} {w : World} {mg : Str -> Option Value} {base : Heap}
theorem qh_ {k m : Nat} {f : Addr} {fd : FuncData} {ps : List Str} {g : List S -> Option (Rx × List S)} (Fn : FnOk P w K mg base (L2.CX P w) k f fd ps (hj_ K m g)) : FnOk P w K mg base CX0 k f fd ps (dO_ K m (gRt g)) :=
 ⟨fun vs H Q E h => Fn.len vs H Q E (iD_ vs H Q E h), fun A outer s H args us vs Q E hr I b r h =>
  codeAny_mono (Fn.run A outer s H args us vs Q (fun _ _ _ => False) hr I b r (iD_ vs H Q _ h)) fun r s' hq => by
   cases r with
   | error e =>
    obtain ⟨_, _, _, _, _, _, _, _, _, _, _, _, z⟩ := (show L2.CX P w outer H s (fun _ _ _ => False) e s' from hq)
    exact z.elim
   | ok fl => cases fl <;> exact hq⟩
end
def le_ : PyData -> PyData -> Option PyData
 | .str z, .int i => if z.length <= sizeLine then (atI z.cps.toList i).map fun c => .str ⟨#[c]⟩ else none
 | _, _ => none
theorem my_ : Rv2 K rIxS le_ := by
 intro H x y a b c ha hb e Q q
 unfold le_ at e
 split at e
 ·next z i =>
  cases ha
  cases hb
  split at e
  ·next hz =>
   obtain ⟨u, hu, rfl⟩ := Option.map_eq_some_iff.mp e
   exact ⟨z, i, u, rfl, rfl, hz, hu, q rfl⟩
  ·cases e
 ·cases e
def mz_ (neg : Bool) : PyData -> PyData -> Option PyData
 | .str i, .str j => some (.bool (!(Builtin.Str.occurrences j i 0 j.length 1).isEmpty != neg))
 | _, _ => none
def eZ_ (s : S) (lo hi : Option Int) : Option S := match s with
 | .dat (.str z) => if z.length <= sizeLine then some (.dat (.str (Txt.slice z lo hi))) else none
 | _ => none
theorem fs_ : p7_ K C8.rSlX eZ_ := by
 intro F H x a c lo hi f1 sub o e Q m
 unfold eZ_ at e
 split at e
 ·next z =>
  split at e
  ·next hz =>
   cases e
   obtain ⟨dq, rfl⟩ := o.dat_inv rfl
   cases dq
   exact ⟨z, rfl, hz, hc_ sub (.str _) m⟩
  ·cases e
 ·cases e
def rdS (z : Str) (_ : En) (i : Nat) : Option (Option Rs) := some ((z.cps[i]?).map fun c => .val (.dat (.str ⟨#[c]⟩)))
def jj_ (d : En -> Option Rs) (E : En) : Option Src := match d E with
 | some (.val (.dat (.str z))) => some ⟨E, [], rdS z, z.cps.size⟩
 | _ => none
theorem oU_ (h : EvP K n as te d) : EvI K n as (iStr te) (jj_ d) := by
 intro F H σ E fp L R c e Rr q
 unfold jj_ at e
 split at e
 ·next z ed =>
  cases e
  refine h L R ed fun v F1 H1 f1 g1 a1 n1 o1 => ?_
  obtain ⟨dq, rfl⟩ := Own.dat_inv (show Own K F1 H1 v (.dat (.str z)) f1 from a1) rfl
  cases dq
  refine ⟨z, rfl, q (Its z) F1 H1 [] fp g1.mine (by simpa using R.grow g1) rfl fun F2 H2 σ2 E2 fp2 L2 g2 R2 i => ⟨fun r hr => ?_, fun hr => ?_⟩⟩
  ·have hr' : (z.cps[i]?).map (fun c => Rs.val (.dat (.str ⟨#[c]⟩))) = some r := Option.some.inj hr
   obtain ⟨u, hu, rfl⟩ := Option.map_eq_some_iff.mp hr'
   refine ⟨(Array.getElem?_eq_some_iff.mp hu).1, fun x H' y => ?_⟩
   obtain ⟨rfl, u', hu', rfl⟩ := y
   rw [hu] at hu'
   cases hu'
   exact ⟨rfl, .dat (.str _)⟩
  ·have hr' : (z.cps[i]?).map (fun c => Rs.val (.dat (.str ⟨#[c]⟩))) = none := Option.some.inj hr
   have hn := Option.map_eq_none_iff.mp hr'
   exact Array.getElem?_eq_none_iff.mp hn
 ·cases e
theorem nv_ : Rv2 K (fun x y H Q => ∃ i j, x = .str i /\ y = .str j /\ Q (.bl (!(!(Builtin.Str.occurrences j i 0 j.length 1).isEmpty))) H) (mz_ true) := by
 intro H x y a b c ha hb e Q q
 unfold mz_ at e
 split at e
 ·next i j =>
  cases e
  cases ha
  cases hb
  refine ⟨i, j, rfl, rfl, ?_⟩
  have := q rfl
  simpa [scV] using this
 ·cases e
def cF_ : S -> S -> Option (S × S)
 | .lst ss, .dat d => match (S.lst ss).toD with
  | some (.list ds) => if SeqAt.shaped (.list ds) = true /\ SeqAt.shaped d = true then match ds.findIdx? (fun z => PyData.eqv z d) with
    | some j => some (.lst ss, .dat (.int (j : Nat)))
    | none => none
   else none
  | _ => none
 | _, _ => none
theorem kr_ : Nd1 K (fun u y H Q => rIndexD K u [y] H Q) cF_ := by
 intro F H u y t s t' c fp1 fr sub ot os nd of e Q q
 unfold cF_ at e
 split at e
 ·next ss d =>
  split at e
  ·next ds hds =>
   split at e
   ·next hc =>
    split at e
    ·next j hj =>
     cases e
     obtain ⟨hd, rfl⟩ := os.dat_inv rfl
     have dl := Own.dp sub _ ot hds
     obtain ⟨a, vs, fq, rfl, hH, l, rfl⟩ := ot.lst_inv rfl
     obtain ⟨h1, h2, h3⟩ := List.findIdx?_eq_some_iff_getElem.mp hj
     refine ⟨a, y, d, ds, j, ds[j], rfl, rfl, dl.dp, (Dq.mono sub hd).dp, hc.1, hc.2, List.getElem?_eq_getElem h1, h2, fun m z hm hz => ?_, ?_⟩
     ·obtain ⟨hm2, hz2⟩ := List.getElem?_eq_some_iff.mp hz
      have := h3 m hm
      rw [hz2] at this
      simpa using this
     ·rw [List.nil_append] at nd of
      exact q _ F H [] _ (by rw [List.nil_append]; exact .refl sub _) ot (.dat (.int _)) (by rw [List.nil_append]; exact nd) (by rw [List.nil_append]; exact of)
    ·cases e
   ·cases e
  ·cases e
 ·cases e
def KTab (K : PySem.W.Frag) (a : Addr) (f : Str -> Option Int) : Prop := ∀ z : Str, ∃ r, PySem.W.nsIn K a z = some r /\ (f z = none -> r = none) /\ ∀ i, f z = some i -> ∃ t, r = some (.int i t)
def nw_ (a : Addr) (f : Str -> Option Int) (da db : En -> Option Rs) (E : En) : Option Rs := match da E, db E with
 | some (.val (.con (.ref b))), some (.val (.dat (.str z))) => if b = a then some (.val (.dat (match f z with | some i => .int i | none => .none))) else none
 | _, _ => none
theorem oV_ {a : Addr} {f : Str -> Option Int} (T : KTab K a f) (hd : EvP K n as ta da) (hb : EvP K n as tb db) : EvP K n as (NX.tKGet1 K a ta tb) (nw_ a f da db) := by
 intro F H σ E fp L R r e Q q
 unfold nw_ at e
 split at e
 ·next b z ea eb =>
  split at e
  ·next hba =>
   subst hba
   cases e
   refine hd L R ea fun v F1 H1 f1 g1 a1 n1 o1 => ?_
   have hv : v = .ref b := by
    exact (Own.con_inv (show Own K F1 H1 v (.con (.ref b)) f1 from a1) rfl).1
   refine ⟨hv, hb L (R.grow g1) eb fun y F2 H2 f2 g2 a2 n2 o2 => ?_⟩
   obtain ⟨dq, rfl⟩ := Own.dat_inv (show Own K F2 H2 y (.dat (.str z)) f2 from a2) rfl
   cases dq
   obtain ⟨r, hr, hn, hs⟩ := T z
   have gg : Grow F H [] F2 H2 [] := (g1.seq0 g2).drop
   refine ⟨z, r, rfl, hr, fun hr0 => ?_, fun u0 hu => ?_⟩
   ·cases hf : f z with
    | none => rw [hf] at q; exact q .non F2 H2 [] gg (.dat .non) List.nodup_nil fun _ m => nomatch m
    | some i => obtain ⟨t, ht⟩ := hs i hf; rw [hr0] at ht; cases ht
   ·cases hf : f z with
    | none => rw [hn hf] at hu; cases hu
    | some i =>
     obtain ⟨t, ht⟩ := hs i hf
     rw [hu] at ht
     cases ht
     rw [hf] at q
     exact ⟨.int i, ⟨t, rfl⟩, q (.int i) F2 H2 [] gg (.dat (.int i)) List.nodup_nil fun _ m => nomatch m⟩
  ·cases e
 ·cases e
end Mv
set_option maxHeartbeats 1000000
namespace Ex2
open PySem PySem.Spec PyProof.Rows L2
def oexB (K : PySem.W.Frag) (C : Addr) : Bool := match K.lookup C with
 | some ⟨.type "type", _, .cls cd, sl⟩ => (match cd.mro, sl.toList with
  | .ref C' :: bm, [_, _, _, _, some (.builtin n), _] => C' == C && n == "ValueError.__new__" && !cd.hasDel && cd.hasDict && PySem.HandSPX.refsVE bm
  | _, _ => false)
 | _ => false
theorem oex_cls {K : PySem.W.Frag} {C : Addr} (q : oexB K C = true) : ∃ nm q N bs bm sn sub ab col dd k0 k1 k2 k3 k5, K.lookup C = some (excClassObj nm q C N bs bm true sn sub ab col dd k0 k1 k2 k3 k5 "ValueError.__new__") /\ PySem.HandSPX.refsVE bm = true := by
 unfold oexB at q
 split at q
 ·rename_i dd cd sl ho
  split at q
  ·rename_i C' bm k0 k1 k2 k3 n k5 hm hs
   simp only [Bool.and_eq_true, beq_iff_eq, Bool.not_eq_true'] at q
   obtain ⟨⟨⟨⟨rfl, rfl⟩, hdel⟩, hdict⟩, ht⟩ := q
   obtain ⟨nm, bs, mro, ns, qn, hd, sn, sub, ab, col, del⟩ := cd
   dsimp only at hm hdel hdict
   subst hm hdel hdict
   have hsl : sl = #[k0, k1, k2, k3, some (.builtin "ValueError.__new__"), k5] := by
    obtain ⟨l⟩ := sl
    simp only at hs
    rw [hs]
   subst hsl
   exact ⟨nm, qn, ns, bs, bm, sn, sub, ab, col, dd, k0, k1, k2, k3, k5, ho, ht⟩
  ·cases q
 ·cases q
def jk_ (e : DictEntry) : Option (Str × Int) := match e.key, e.val with
 | .str x _, .int i _ => some (x, i)
 | _, _ => none
def ktabB (K : PySem.W.Frag) (a : Addr) (l : List (Str × Int)) : Bool := match K.lookup a with
 | some ⟨_, _, .dict es _, _⟩ => decide (es.toList.map jk_ = l.map some)
 | _ => false
theorem oW_ {e : DictEntry} {x : Str} {i : Int} (h : jk_ e = some (x, i)) : ∃ t u, e.key = .str x t /\ e.val = .int i u := by
 unfold jk_ at h
 split at h
 ·next y t j u hk hv => cases h; exact ⟨t, u, hk, hv⟩
 ·cases h
theorem ks_ {z : Str} : ∀ {es : List DictEntry} {l : List (Str × Int)}, es.map jk_ = l.map some →
  (es.any (·.refKey)) = false /\ ((l.lookup z = none -> es.find? (·.key.isStr z) = none) /\ ∀ i, l.lookup z = some i -> ∃ e t, es.find? (·.key.isStr z) = some e /\ e.val = .int i t)
 | [], [], _ => ⟨rfl, fun _ => rfl, fun i h => by cases h⟩
 | [], _ :: _, h => by cases h
 | _ :: _, [], h => by cases h
 | e :: r, (x, i) :: l, h => by
  have h : jk_ e :: r.map jk_ = some (x, i) :: l.map some := h
  injection h with h1 h2
  obtain ⟨t, u, hk, hv⟩ := oW_ h1
  obtain ⟨a, b, c⟩ := ks_ (z := z) h2
  have hs : e.key.isStr z = (x == z) := by rw [hk]; rfl
  refine ⟨?_, fun hn => ?_, fun j hj => ?_⟩
  ·rw [List.any_cons, a]
   have : e.refKey = false := by unfold DictEntry.refKey; rw [hk]
   rw [this]; rfl
  ·rw [List.lookup] at hn
   split at hn
   ·cases hn
   ·next hz =>
    have : (x == z) = false := by
     rw [beq_eq_false_iff_ne] at hz ⊢
     exact fun q => hz q.symm
    rw [List.find?_cons, hs, this]
    exact b hn
  ·rw [List.lookup] at hj
   split at hj
   ·next hz =>
    cases hj
    have : (x == z) = true := by
     rw [beq_iff_eq] at hz ⊢
     exact hz.symm
    rw [List.find?_cons, hs, this]
    exact ⟨e, u, rfl, hv⟩
   ·next hz =>
    have : (x == z) = false := by
     rw [beq_eq_false_iff_ne] at hz ⊢
     exact fun q => hz q.symm
    rw [List.find?_cons, hs, this]
    exact c j hj
theorem ktab_ok {K : PySem.W.Frag} {a : Addr} {l : List (Str × Int)} (h : ktabB K a l = true) : Mv.KTab K a (fun z => l.lookup z) := fun z => by
 unfold ktabB at h
 split at h
 ·next c d es n sl ho =>
  have h := of_decide_eq_true h
  obtain ⟨ha, hb, hc⟩ := ks_ (z := z) h
  have e : PySem.W.nsIn K a z = (match es.toList.find? (·.key.isStr z) with
   | some e => some (some e.val)
   | none => if es.toList.any (·.refKey) then none else some none) := by
   unfold PySem.W.nsIn
   rw [ho]; rfl
  cases hl : l.lookup z with
  | none =>
   refine ⟨none, ?_, fun _ => rfl, fun i hi => by have hi : l.lookup z = some i := hi; rw [hl] at hi; cases hi⟩
   rw [e, hb hl, ha]; rfl
  | some i =>
   obtain ⟨en, t, h1, h2⟩ := hc i hl
   refine ⟨some en.val, ?_, fun hn => (by have hn : l.lookup z = none := hn; rw [hl] at hn; cases hn), fun j hj => ⟨t, by have hj : l.lookup z = some j := hj; rw [hl] at hj; cases hj; rw [h2]⟩⟩
   rw [e, h1]
 ·cases h
end Ex2
namespace Mv
open PySem PySem.Spec PyProof.Rows L2
section
variable {K : PySem.W.Frag} {n : Nat} {as : Ro}
theorem zv0 : EvP K (n + 1) as (tVar 0) (ab_ 0) := bB_ (i := 0) (by omega)
theorem zv1 : EvP K (n + 2) as (tVar 1) (ab_ 1) := bB_ (i := 1) (by omega)
theorem zv2 : EvP K (n + 3) as (tVar 2) (ab_ 2) := bB_ (i := 2) (by omega)
theorem zv3 : EvP K (n + 4) as (tVar 3) (ab_ 3) := bB_ (i := 3) (by omega)
theorem zv4 : EvP K (n + 5) as (tVar 4) (ab_ 4) := bB_ (i := 4) (by omega)
theorem zv5 : EvP K (n + 6) as (tVar 5) (ab_ 5) := bB_ (i := 5) (by omega)
theorem zv6 : EvP K (n + 7) as (tVar 6) (ab_ 6) := bB_ (i := 6) (by omega)
end
theorem zrm {j k : Nat} {A : Around} (r : Room k A) (h : j <= k := by decide) : Room j A := r.mono h
end Mv
set_option maxHeartbeats 4000000
namespace Mv
open PySem PySem.Spec PyProof.Rows L2
variable {K : PySem.W.Frag} {F F' F1 F2 F3 H H' H1 H2 H3 : Hp} {v u x y w : V} {vs ws xs : List V} {s t c : S} {ss tts : List S} {fp fq fr fp' fp1 fp2 f1 f2 : List Addr} {ρ as : Ro} {E E' : En} {n : Nat}
variable {W : WXm} {te ta tb tc tk tv td : TE} {d da db dc dk dv : En -> Option Rs} {tr : TA} {dr : En -> Option (List Rs)} {de df : En -> Option (S × En)} {tt : TT} {dte : En -> Option (Bool × En)} {Q : VK} {dl : En -> Option (Nat × En)} {js : List Nat} {ds : List PyData}
theorem oX_ {t0 : TE} {gs : TGs} {bs : List PyData -> En -> Option En} {te : WX -> TE} {dx : En -> Option (Rx × En)} (hjs : ∀ j ∈ js, j < n) (h : EvP K n as t0 d) (hs : lt_ K n js gs bs) (ht : ∀ as, hI_ K n as tt dte) (he : ∀ as (W : WXm), EvX K n as W (te W) dx) : EvX K n as W (qc_ (iEnum K (tCons t0 tNil)) (gTup K 2 gs) tt te js W) (od_ (hl_ d) js (fJ_ 2 bs) dte dx) := by
 intro F H σ E fp L R r0 E0 e Q q
 unfold od_ at e
 split at e
 ·next c ec =>
  split at e
  ·next res E9 hd =>
   cases e
   obtain ⟨c0, e0, rfl⟩ := Option.map_eq_some_iff.mp ec
   refine ni_ h L R e0 fun aL F1 H1 ex fpx g1' R1 hx hxs spec => ?_
   obtain ⟨xs0, hxs0⟩ := hxs
   refine ⟨aL, xs0, rfl, hxs0, fun D hD => ?_⟩
   dsimp only at hd
   have gD : Grow F1 H1 [] F1 (upd H1 D (.lst [])) [D] := Grow.alloc R1.sub hD
   have lt : ∀ {τ : L2.St}, τ.length = n -> ∀ j ∈ js, j < τ.length := fun h j m => by rw [h]; exact hjs j m
   obtain ⟨fw, Rw, sbw⟩ := (R1.grow gD).wipeN js (lt L)
   have noOf : ∀ {ρ : Ro} {τ : L2.St} {F H : Hp} {X : En} {fq : List Addr}, τ.length = n -> Rep K F H (τ ++ ρ) X fq -> ∀ j ∈ js, (dh_ X js)[j]? = some Sl.no := fun {ρ τ F H X fq} hl RR => iH_ fun j m => by
    rw [RR.core.len, List.length_append]
    have := lt hl j m
    omega
   refine ⟨fun i m Hm => ∃ Fm Em fpm accV accS fa, Grow F1 H1 fpx Fm Hm (D :: (fa ++ fpm)) /\ Rep K Fm Hm (wipe σ js ++ (as ++ ex.map some)) Em fpm /\ (∀ j ∈ js, Em[j]? = some Sl.no) /\ Hm D = some (.lst accV) /\ OwnL K Fm Hm accV accS fa ∧
     (D :: (fa ++ fpm)).Nodup /\ (∀ a ∈ D :: fa, Fm a = none) /\ dLcGX (jx_ c0.rd) js (fJ_ 2 bs) dte dx m i accS Em = some (res, E9),
    ⟨c0.fuel, F1, _, fw, [], [], [], ?_, Rw, noOf L (R1.grow gD), upd_same, .nil, ?_, ?_, hd⟩, fun i m Hm hW => ?_⟩
   ·have := gD.wide (fq := fpx) (fr := D :: ([] ++ fw)) (fun _ m => nomatch m) fun a m => ?_
    ·exact this
    ·rcases List.mem_cons.mp m with rfl | m
     ·exact .inr hD
     ·exact .inl (sbw a (by simpa using m))
   ·refine List.nodup_cons.mpr ⟨fun m => ?_, by simpa using Rw.nd⟩
    obtain ⟨o, eo⟩ := R1.there D (sbw D (by simpa using m))
    rw [hD] at eo; cases eo
   ·intro a m
    rw [List.mem_singleton.mp m]
    cases h : F1 D with
    | none => rfl
    | some o => rw [R1.sub D o h] at hD; cases hD
   ·obtain ⟨Fm, Em, fpm, accV, accS, fa, gm, Rm, hno, hHD, lacc, nd, off, hl⟩ := hW
    have gm' : Grow F1 H1 fpx Fm Hm fpm := gm.less fun a m => List.mem_cons_of_mem _ (List.mem_append_right _ m)
    have Lw : (wipe σ js).length = n := by rw [wipe_length]; exact L
    obtain ⟨sp1, sp2⟩ := spec Fm Hm (wipe σ js) Em fpm Lw gm' Rm i
    rw [dLcGX.eq_def] at hl
    dsimp only at hl
    have subD : (D :: fa ++ fpm).Nodup := by simpa using nd
    cases hr : jx_ c0.rd Em i with
    | none => rw [hr] at hl; cases hl
    | some r0 => cases r0 with
     | none =>
      rw [hr] at hl
      cases hl
      refine .inl ⟨?_, ?_⟩
      ·unfold jx_ at hr
       split at hr
       ·split at hr
        ·cases hr
        ·cases hr
       ·next hn => exact sp2 hn
       ·cases hr
      have R3 : Rep K Fm Hm (σ ++ (as ++ ex.map some)) E9 fpm := Rm.unwipe (lt L) hno
      obtain ⟨fq9, R4, sb9⟩ := bL_ (c := c0) R3 hx
      refine q (.ref D) Fm Hm (D :: fa) fq9 (g1'.trans (gm.less fun a m => (List.mem_append.mp m).elim (fun m => (List.mem_cons.mp m).elim (fun z => by rw [z]; exact List.mem_cons_self) fun m => List.mem_cons_of_mem _ (List.mem_append_left _ m)) fun m => List.mem_cons_of_mem _ (List.mem_append_right _ (sb9 a m)))) R4 (Own.node (s := .lst accS) (ex := []) hHD (show Head _ Hm D (.lst accV) (.lst accS) [] from rfl) lacc) ?_ off
      have nd' := List.nodup_append.mp (show (D :: fa ++ fpm).Nodup by simpa using nd)
      exact List.nodup_append.mpr ⟨nd'.1, R4.nd, fun a m b m2 => nd'.2.2 a m b (sb9 b m2)⟩
     | some r =>
      rw [hr] at hl
      dsimp only at hl
      unfold jx_ at hr
      split at hr
      case h_2 => cases hr
      case h_3 => cases hr
      next r1 hr1 =>
      split at hr
      case h_2 => cases hr
      next dd hdd =>
      cases hr
      obtain ⟨xs, w, hq, hw, ar⟩ := sp1 r1 hr1
      obtain ⟨f3, ow3⟩ := ar.own Rm hdd
      have dq := (ow3.dat_inv rfl).1
      cases m with
      | zero => cases hl
      | succ m =>
       dsimp only at hl
       refine .inr ⟨⟨xs, w, hq, hw⟩, fun H' => ∃ Fm Em fpm accV accS fa, Grow F1 H1 fpx Fm H' (D :: (fa ++ fpm)) /\ Rep K Fm H' (wipe σ js ++ (as ++ ex.map some)) Em fpm /\ (∀ j ∈ js, Em[j]? = some Sl.no) /\ H' D = some (.lst accV) /\ OwnL K Fm H' accV accS fa ∧
        (D :: (fa ++ fpm)).Nodup /\ (∀ a ∈ D :: fa, Fm a = none) /\ dLcGX (jx_ c0.rd) js (fJ_ 2 bs) dte dx m (i + 1) accS Em = some (res, E9), fun H' hN => ⟨m, Nat.lt_succ_self m, hN⟩, fun x H' hy => ?_⟩
       obtain ⟨T, x', rfl, hT, rfl, hall⟩ := hy
       obtain rfl := Option.some.inj ((hall xs hq).symm.trans hw)
       have gA : Grow Fm Hm fpm Fm (upd Hm T (.tup [.int (i : Nat), x'])) fpm := (Grow.alloc Rm.sub hT).drop.mine
       have Rm2 := Rm.grow (Grow.alloc (o := .tup [.int (i : Nat), x']) Rm.sub hT)
       have hTt : (upd Hm T (.tup [.int (i : Nat), x'])) T = some (.tup [.int (i : Nat), x']) := upd_same
       have asideA : ∀ a ∈ D :: fa, a ∉ fpm := fun a m m2 => (List.nodup_append.mp subD).2.2 a m a m2 rfl
       have hHD2 := gA.keep D _ hHD (asideA D List.mem_cons_self)
       have lacc2 := lacc.frame gA.f gA.sub fun a m o e => gA.keep a o e (asideA a (List.mem_cons_of_mem _ m))
       have gm2 : Grow F1 H1 fpx Fm (upd Hm T (.tup [.int (i : Nat), x'])) (D :: (fa ++ fpm)) := by
        have g0 : Grow F1 H1 fpx Fm Hm (D :: fa ++ fpm) := gm.less fun a m => by simpa using m
        exact (g0.trans (gA.beside (D :: fa))).less fun a m => by simpa using m
       clear gm' gm Rm hHD lacc spec sp1 sp2
       generalize (upd Hm T (.tup [.int (i : Nat), x'])) = H' at gA Rm2 hTt hHD2 lacc2 gm2 ⊢
       have gm := gm2
       have Rm := Rm2
       have hHD := hHD2
       have lacc := lacc2
       split at hl
       ·cases hl
       ·next E1 e1 =>
        refine ⟨T, [.int (i : Nat), x'], rfl, .inl (.inl hTt), rfl, hs Lw Rm (.cons (.int _) (.cons dq .nil)) e1 fun σ1 Fg Hg fq L1 w1 gg R1' => ?_⟩
        have w1' : wipe σ1 js = wipe σ js := w1.trans (j6_ σ js)
        refine ⟨w1', ?_⟩
        -- D and what is made so far stand aside
        have aside0 : ∀ a ∈ D :: fa, a ∉ fpm := fun a m m2 => (List.nodup_append.mp subD).2.2 a m a m2 rfl
        have th0 : ∀ a ∈ D :: fa, ∃ o, H' a = some o := fun a m => by
         rcases List.mem_cons.mp m with rfl | m
         ·exact ⟨_, hHD⟩
         ·exact lacc.there a m
        have hHDg : Hg D = some (.lst accV) := gg.keep D _ hHD (aside0 D List.mem_cons_self)
        have laccg : OwnL K Fg Hg accV accS fa := lacc.frame gg.f gg.sub fun a m o e => gg.keep a o e (aside0 a (List.mem_cons_of_mem _ m))
        have offg : ∀ a ∈ D :: fa, Fg a = none := fun a m => by
         obtain ⟨o, eo⟩ := th0 a m
         exact gg.off a (by rw [eo]; exact fun z => nomatch z) (aside0 a m) (off a m)
        have asideD : ∀ a ∈ D :: fa, a ∉ fq := fun a m m2 => by
         rcases gg.new a m2 with z | z
         ·exact aside0 a m z
         ·obtain ⟨o, eo⟩ := th0 a m
          rw [eo] at z; cases z
        have thD : ∀ a ∈ D :: fa, ∃ o, Hg a = some o := fun a m => by
         rcases List.mem_cons.mp m with rfl | m
         ·exact ⟨_, hHDg⟩
         ·exact laccg.there a m
        have gfq : Grow F1 H1 fpx Fg Hg (D :: fa ++ fq) := by
         have g0 : Grow F1 H1 fpx Fm H' (D :: fa ++ fpm) := gm.less fun a m => by simpa using m
         exact g0.trans (gg.beside (D :: fa))
        have keepD : ∀ {F3 H3 fp3}, Grow Fg Hg fq F3 H3 fp3 -> H3 D = some (.lst accV) /\ OwnL K F3 H3 accV accS fa /\ (∀ a ∈ D :: fa, F3 a = none) /\ (∀ a ∈ D :: fa, a ∉ fp3) := fun {F3 H3 fp3} g3 => by
         refine ⟨g3.keep D _ hHDg (asideD D List.mem_cons_self), laccg.frame g3.f g3.sub fun a m o e => g3.keep a o e (asideD a (List.mem_cons_of_mem _ m)), fun a m => ?_, fun a m m2 => ?_⟩
         ·obtain ⟨o, eo⟩ := thD a m
          exact g3.off a (by rw [eo]; exact fun z => nomatch z) (asideD a m) (offg a m)
         ·rcases g3.new a m2 with z | z
          ·exact asideD a m z
          ·obtain ⟨o, eo⟩ := thD a m
           rw [eo] at z; cases z
        have ndD : (D :: fa).Nodup := (List.nodup_append.mp subD).1
        split at hl
        ·next E2 e2 =>
         split at hl
         ·next s3 E3 e3 =>
          split at hl
          ·next hlen =>
           refine ht _ L1 R1' e2 fun F3 H3 fp3 g3 R3 => iteT (he _ _ L1 R3 e3 (fun y F4 H4 fr fp4 g4 R4 ow nd4 of4 => ?_))
           have g34 : Grow Fg Hg fq F4 H4 (fr ++ fp4) := g3.trans g4
           obtain ⟨kD, kacc, koff, kas⟩ := keepD g34
           refine ⟨accV, kD, by rw [lacc.length, sizeLine_eq]; omega, ?_⟩
           obtain ⟨fq5, R5, sb5⟩ := R4.wipeN js (lt L1)
           rw [w1'] at R5
           have gw : Grow F4 H4 [D] F4 (upd H4 D (.lst (accV ++ [y]))) [D] := Grow.write R4.sub (koff D List.mem_cons_self)
           have D4 : D ∉ fr ++ fp4 := kas D List.mem_cons_self
           have R6 := R5.grow2 gw (fun a m m2 => D4 (by rw [<- List.mem_singleton.mp m2]; exact List.mem_append_right _ (sb5 a m)))
           have nDfa : D ∉ fa := (List.nodup_cons.mp ndD).1
           have ow6 : Own K F4 (upd H4 D (.lst (accV ++ [y]))) y s3 fr := ow.grow gw fun a m m2 => D4 (by rw [<- List.mem_singleton.mp m2]; exact List.mem_append_left _ m)
           have acc6 : OwnL K F4 (upd H4 D (.lst (accV ++ [y]))) accV accS fa := kacc.frame gw.f gw.sub fun a m o e => gw.keep a o e fun m2 => nDfa (by rw [<- List.mem_singleton.mp m2]; exact m)
           have lall := acc6.append (OwnL.cons ow6 .nil)
           rw [List.append_nil] at lall
           refine ⟨F4, dh_ E3 js, fq5, accV ++ [y], accS ++ [s3], fa ++ fr, ?_, R6, noOf L1 R4, upd_same, lall, ?_, ?_, hl⟩
           ·have ga : Grow F1 H1 fpx F4 H4 (D :: fa ++ (fr ++ fp4)) := gfq.trans (g34.beside (D :: fa))
            have gb : Grow F4 H4 (D :: fa ++ (fr ++ fp4)) F4 (upd H4 D (.lst (accV ++ [y]))) (D :: (fa ++ fr ++ fq5)) := gw.wide (fun a m => by rw [List.mem_singleton.mp m]; exact List.mem_append_left _ List.mem_cons_self) fun a m => by
             left
             rcases List.mem_cons.mp m with rfl | m
             ·exact List.mem_append_left _ List.mem_cons_self
             ·rcases List.mem_append.mp m with m | m
              ·rcases List.mem_append.mp m with m | m
               ·exact List.mem_append_left _ (List.mem_cons_of_mem _ m)
               ·exact List.mem_append_right _ (List.mem_append_left _ m)
              ·exact List.mem_append_right _ (List.mem_append_right _ (sb5 a m))
            exact ga.trans gb
           ·refine List.nodup_cons.mpr ⟨fun m => ?_, ?_⟩
            ·rcases List.mem_append.mp m with m | m
             ·rcases List.mem_append.mp m with m | m
              ·exact nDfa m
              ·exact D4 (List.mem_append_left _ m)
             ·exact D4 (List.mem_append_right _ (sb5 D m))
            ·refine aG_ (aG_ (List.nodup_cons.mp ndD).2 (List.nodup_append.mp nd4).1 fun a m b m2 z => ?_) R5.nd fun a m b m2 z => ?_
             ·subst z; exact kas a (List.mem_cons_of_mem _ m) (List.mem_append_left _ m2)
             ·subst z
              rcases List.mem_append.mp m with m | m
              ·exact kas a (List.mem_cons_of_mem _ m) (List.mem_append_right _ (sb5 a m2))
              ·exact (List.nodup_append.mp nd4).2.2 a m a (sb5 a m2) rfl
           ·intro a m
            rcases List.mem_cons.mp m with rfl | m
            ·exact koff a List.mem_cons_self
            ·rcases List.mem_append.mp m with m | m
             ·exact koff a (List.mem_cons_of_mem _ m)
             ·exact of4 a m
          ·cases hl
         ·next c3 E3 e3 =>
          cases hl
          refine ht _ L1 R1' e2 fun F3 H3 fp3 g3 R3 => iteT (he _ _ L1 R3 e3 (fun C dX F4 H4 fp4 hC g4 R4 => ?_))
          have g34 : Grow Fg Hg fq F4 H4 fp4 := g3.trans g4
          obtain ⟨fq5, R5, sb5⟩ := R4.wipeN js (lt L1)
          rw [w1'] at R5
          have R6 : Rep K F4 H4 (σ ++ (as ++ ex.map some)) (dh_ E3 js) fq5 := R5.unwipe (lt L) (noOf L1 R4)
          obtain ⟨fq9, R7, sb9⟩ := bL_ (c := c0) R6 hx
          exact q C dX F4 H4 fq9 hC ((g1'.trans (gfq.trans (g34.beside (D :: fa)))).less fun a m => List.mem_append_right _ (sb5 a (sb9 a m))) R7
         ·cases hl
        ·next E2 e2 =>
         refine ht _ L1 R1' e2 fun F3 H3 fp3 g3 R3 => iteF ?_
         obtain ⟨kD, kacc, koff, kas⟩ := keepD g3
         obtain ⟨fq5, R5, sb5⟩ := R3.wipeN js (lt L1)
         rw [w1'] at R5
         refine ⟨F3, dh_ E2 js, fq5, accV, accS, fa, ?_, R5, noOf L1 R3, kD, kacc, ?_, koff, hl⟩
         ·exact (gfq.trans (g3.beside (D :: fa))).less fun a m => by
           rcases List.mem_cons.mp m with rfl | m
           ·exact List.mem_append_left _ List.mem_cons_self
           ·rcases List.mem_append.mp m with m | m
            ·exact List.mem_append_left _ (List.mem_cons_of_mem _ m)
            ·exact List.mem_append_right _ (sb5 a m)
         ·have : (D :: fa ++ fq5).Nodup := aG_ ndD R5.nd fun a m b m2 z => by subst z; exact kas a m (sb5 a m2)
          simpa using this
        ·cases hl
  ·cases e
 ·cases e
theorem lC_ {a : Addr} {o : HO} (sub : ∀ b q, F b = some q -> H b = some q) (h : H a = none) : Grow F H [] (upd F a o) (upd H a o) [] := by
 have na : ∀ b q, H b = some q -> b ≠ a := fun b q e z => by rw [z, h] at e; cases e
 have nf : ∀ b q, F b = some q -> b ≠ a := fun b q e => na b q (sub b q e)
 refine ⟨fun b q e => by rw [upd_ne (nf b q e)]; exact e, fun b q e => ?_, fun b q e _ => by rw [upd_ne (na b q e)]; exact e, fun b m => (nomatch m), fun b h0 _ fb => ?_⟩
 ·by_cases hb : b = a
  ·subst hb; rw [upd_same] at e ⊢; exact e
  ·rw [upd_ne hb] at e ⊢; exact sub b q e
 ·have : b ≠ a := fun z => h0 (by rw [z]; exact h)
  rw [upd_ne this]; exact fb
def kt_ (d : En -> Option Rs) (E : En) : Option Bool := match d E with
 | some (.val (.dat (.str z))) => if z.length <= sizeLine then some ((z.length : Int) != 0) else none
 | _ => none
theorem oY_ (h : EvP K n as te d) : EvT K n as (qS_ K te) (kt_ d) := by
 intro F H σ E fp L R b e Q q
 unfold kt_ at e
 split at e
 ·next z ed =>
  split at e
  ·next hz =>
   cases e
   refine h L R ed fun v F1 H1 f1 g1 a1 n1 o1 => ?_
   obtain ⟨dq, rfl⟩ := Own.dat_inv (show Own K F1 H1 v (.dat (.str z)) f1 from a1) rfl
   cases dq
   exact ⟨_, ⟨hz, rfl⟩, q F1 H1 g1.drop⟩
  ·cases e
 ·cases e
def ch_ (dp : En -> Option Rs) (E : En) : Option Out := match dp E with
 | some (.val (.dat (.int i))) => if 0 <= i /\ i < 2 ^ 62 then some (.ex (1000 + i.toNat) E) else none
 | _ => none
theorem gw_ {C : Addr} (hC : clsOf K 22 C) (h : EvP K n as te d) : EvS K n as W (fun _ σ H => tMkO C (NX.spPlace C) [] (tCons te tNil) σ H (fun cls d H => W cls d σ H)) (ch_ d) := by
 intro F H σ E fp L R o e D g
 unfold ch_ at e
 split at e
 ·next i ei =>
  split at e
  ·next hi =>
   cases e
   refine h L R ei fun v F1 H1 f1 g1 a1 n1 o1 => ?_
   obtain ⟨dq, rfl⟩ := Own.dat_inv (show Own K F1 H1 v (.dat (.int i)) f1 from a1) rfl
   cases dq
   refine ⟨by show 1 <= 1000; decide, fun a ha => ⟨a, i, rfl, ?_, upd_same, fun d hd ne => ⟨rfl, d, [("place", .int i)], upd_same, ?_, ?_, ?_⟩⟩⟩
   ·by_cases hz : i.natAbs = 0
    ·rw [hz]; decide
    ·have := (Nat.log2_lt hz).mpr (show i.natAbs < 2 ^ 1920 from Nat.lt_of_lt_of_le (show i.natAbs < 2 ^ 62 by omega) (Nat.pow_le_pow_right (by decide) (by decide)))
     exact this
   ·rw [upd_ne ne, upd_same]
   ·rw [upd_ne ne] at hd; exact hd
   ·rw [upd_ne ne] at hd
    have R1 := R.grow g1
    have eq : upd (del (upd (upd (upd H1 a (exo a C none)) d (exd d [("place", .int i)])) a (exo a C (some d))) a) d (.xd [("place", .int i)]) = upd H1 d (.xd [("place", .int i)]) := by
     funext b
     by_cases hb : b = d
     ·rw [hb, upd_same, upd_same]
     ·rw [upd_ne hb, upd_ne hb]
      by_cases hba : b = a
      ·rw [hba, del_same, ha]
      ·rw [del_ne hba, upd_ne hba, upd_ne hb, upd_ne hba]
    rw [eq]
    have gf := lC_ (a := d) (o := .xd [("place", .int i)]) R1.sub hd
    refine g C (some d) σ _ _ fp (.inr ⟨by omega, hC, d, rfl, ?_⟩) L ?_ (R1.grow gf)
    ·rw [upd_same, show 1000 + i.toNat - 1000 = i.toNat by omega, Int.toNat_of_nonneg hi.1]
    ·have := (g1.trans gf).ours fp
     simpa using this
  ·cases e
 ·cases e
end Mv
namespace K20
open PySem PySem.Spec PyProof.Rows L2 Mv
def topS (i : Nat) : Stmt := PySem.Challenge.pw_drainhouse_k20_texts_refused.main.body.getD i (.Pass ⟨0, 0, 0, 0⟩)
abbrev ev_ : Stmt := topS 16
theorem h5_ : FnScope ["word"] ["word"] (defScope ev_) := ⟨rfl, rfl, rfl, by decide +kernel, rfl, by decide +kernel, by decide +kernel⟩
abbrev dX_ : Stmt := topS 17
theorem hq_ : FnScope ["word"] ["word"] (defScope dX_) := ⟨rfl, rfl, rfl, by decide +kernel, rfl, by decide +kernel, by decide +kernel⟩
abbrev dY_ : Stmt := topS 22
theorem hr_ : FnScope ["value", "least", "most"] ["value", "least", "most"] (defScope dY_) := ⟨rfl, rfl, rfl, by decide +kernel, rfl, by decide +kernel, by decide +kernel⟩
abbrev ew_ : Stmt := topS 23
theorem h6_ : FnScope ["value"] ["value"] (defScope ew_) := ⟨rfl, rfl, rfl, by decide +kernel, rfl, by decide +kernel, by decide +kernel⟩
abbrev cV_ : Stmt := topS 24
theorem sc_is_owners : FnScope ["value", "owner"] ["value"] (defScope cV_) := ⟨rfl, rfl, rfl, by decide +kernel, rfl, by decide +kernel, by decide +kernel⟩
abbrev dl_ : Stmt := topS 25
theorem sc_is_edition : FnScope ["value", "number", "make", "owners"] ["value"] (defScope dl_) := ⟨rfl, rfl, rfl, by decide +kernel, rfl, by decide +kernel, by decide +kernel⟩
abbrev ci_ : Stmt := topS 26
theorem cZ_ : FnScope ["edition"] ["edition"] (defScope ci_) := ⟨rfl, rfl, rfl, by decide +kernel, rfl, by decide +kernel, by decide +kernel⟩
abbrev bv_ : Stmt := topS 29
theorem sc_written_steps : FnScope ["steps", "step", "part"] ["steps"] (defScope bv_) := ⟨rfl, rfl, rfl, by decide +kernel, rfl, by decide +kernel, by decide +kernel⟩
abbrev cA_ : Stmt := topS 30
theorem sc_read_steps : FnScope ["text", "rows", "place", "row"] ["text"] (defScope cA_) := ⟨rfl, rfl, rfl, by decide +kernel, rfl, by decide +kernel, by decide +kernel⟩
abbrev cj_ : Stmt := topS 31
theorem sc_read_step : FnScope ["place", "row", "word", "numbers", "values", "number"] ["place", "row"] (defScope cj_) := ⟨rfl, rfl, rfl, by decide +kernel, rfl, by decide +kernel, by decide +kernel⟩
abbrev ef_ : Stmt := topS 37
theorem sc_written : FnScope ["edition", "number", "make", "owners", "words", "word"] ["edition"] (defScope ef_) := ⟨rfl, rfl, rfl, by decide +kernel, rfl, by decide +kernel, by decide +kernel⟩
abbrev iP_ : Stmt := topS 38
theorem sc_read : FnScope ["text", "words", "place", "number", "make", "owners", "edition", "word"] ["text"] (defScope iP_) := ⟨rfl, rfl, rfl, by decide +kernel, rfl, by decide +kernel, by decide +kernel⟩
abbrev dZ_ : Stmt := topS 39
theorem hs_ : FnScope ["word", "place"] ["word", "place"] (defScope dZ_) := ⟨rfl, rfl, rfl, by decide +kernel, rfl, by decide +kernel, by decide +kernel⟩
abbrev dm_ : Stmt := topS 41
theorem sc__law_begun : FnScope ["_law_script", "_law_stirred", "_law_cell"] ["_law_script"] (defScope dm_) := ⟨rfl, rfl, rfl, by decide +kernel, rfl, by decide +kernel, by decide +kernel⟩
abbrev d0_ : Stmt := topS 42
theorem sc__law_take : FnScope ["_law_box", "_law_many", "_law_number_here"] ["_law_box", "_law_many"] (defScope d0_) := ⟨rfl, rfl, rfl, by decide +kernel, rfl, by decide +kernel, by decide +kernel⟩
abbrev dn_ : Stmt := topS 43
theorem sc__law_alike : FnScope ["_law_found", "_law_due", "_law_k"] ["_law_found", "_law_due"] (defScope dn_) := ⟨rfl, rfl, rfl, by decide +kernel, rfl, by decide +kernel, by decide +kernel⟩
abbrev b7_ : Stmt := topS 47
theorem sc__law_number : FnScope ["_law_word", "_law_sign"] ["_law_word"] (defScope b7_) := ⟨rfl, rfl, rfl, by decide +kernel, rfl, by decide +kernel, by decide +kernel⟩
abbrev bR_ : Stmt := topS 48
theorem sc__law_edition : FnScope ["_law_text", "_law_words", "_law_place", "_law_number_here", "_law_found", "_law_word"] ["_law_text"] (defScope bR_) := ⟨rfl, rfl, rfl, by decide +kernel, rfl, by decide +kernel, by decide +kernel⟩
abbrev d1_ : Stmt := topS 49
theorem sc__law_step : FnScope ["_law_row", "_law_words", "_law_counts", "_law_found", "_law_word", "_law_number_here"] ["_law_row"] (defScope d1_) := ⟨rfl, rfl, rfl, by decide +kernel, rfl, by decide +kernel, by decide +kernel⟩
abbrev cB_ : Stmt := topS 50
theorem sc__law_steps : FnScope ["_law_text", "_law_found", "_law_row"] ["_law_text"] (defScope cB_) := ⟨rfl, rfl, rfl, by decide +kernel, rfl, by decide +kernel, by decide +kernel⟩
abbrev cW_ : Stmt := topS 51
theorem sc__law_spoilt : FnScope ["_law_box", "_law_text", "_law_deed", "_law_place", "_law_signs", "_law_sign", "_law_rows", "_law_k", "_law_words", "_law_j", "_law_odd"] ["_law_box", "_law_text"] (defScope cW_) := ⟨rfl, rfl, rfl, by decide +kernel, rfl, by decide +kernel, by decide +kernel⟩
abbrev do_ : Stmt := topS 52
theorem sc__law_drawn : FnScope ["_law_box", "_law_found", "_law_turn", "_law_one", "_law_two", "_law_some"] ["_law_box"] (defScope do_) := ⟨rfl, rfl, rfl, by decide +kernel, rfl, by decide +kernel, by decide +kernel⟩
abbrev ck_ : Stmt := topS 53
theorem sc_law : FnScope ["_law_script", "_law_box", "_law_odd", "_law_turn", "_law_steps_here", "_law_make", "_law_edition_here", "_law_one", "_law_other", "_law_change", "_law_again", "_law_k"] ["_law_script"] (defScope ck_) := ⟨rfl, rfl, rfl, by decide +kernel, rfl, by decide +kernel, by decide +kernel⟩
def numL : List (Str × Int) := [("come", 1), ("farewell", 1), ("turn", 0), ("ask", 3), ("send", 0), ("carry", 1), ("twice", 1), ("lose", 1), ("settle", 1)]
def numF (z : Str) : Option Int := numL.lookup z
def jz_ (db : En -> Option Rs) (E : En) : Option Rs := match db E with
 | some (.val (.dat (.str z))) => some (.val (.dat (match numF z with | some i => .int i | none => .none)))
 | _ => none
theorem qi_ {K : PySem.W.Frag} {n : Nat} {as : Ro} {a : Addr} {tb : TE} {db : En -> Option Rs} (T : KTab K a numF) (hb : EvP K n as tb db) : EvP K n as (NX.tKGet1 K a (tC (.ref a)) tb) (jz_ db) := by
 intro F H σ E fp L R r e Q q
 refine oV_ T (p0_ (v := .ref a)) hb L R ?_ q
 unfold jz_ at e
 unfold nw_ qG_
 split at e
 ·next z ez => rw [ez]; simp only [if_true]; exact e
 ·cases e
abbrev cG_ : Stmt := inClass (topS 13) 0
theorem ft_ : FnScope ["self", "place"] ["self", "place"] (defScope cG_) := ⟨rfl, rfl, rfl, by decide +kernel, rfl, by decide +kernel, by decide +kernel⟩
structure Txt (w : World) (K : PySem.W.Frag) (mg : Str -> Option Value) where
 C_DrainErrorB : Addr
 a_NUMBERS : Addr
 g_NUMBERS : mg "NUMBERS" = some (.ref a_NUMBERS)
 kd_NUMBERS : ∃ es n, KDict K w a_NUMBERS es n
 kt_NUMBERS : KTab K a_NUMBERS numF
 C_BadText : Addr
 k_BadText : clsOf K 22 C_BadText
 g_BadText : mg "BadText" = some (.ref C_BadText)
 ox_BadText : OexC K C_BadText
 a_BadText_init : Addr
 d_BadText_init : FuncData
 iC_BadText : PySem.W.findIn K (.ref C_BadText) "__init__" = some (some (.ref a_BadText_init))
 tI_BadText : PySem.W.typeIn K (.ref a_BadText_init) = some (.type "function")
 np_BadText : PySem.W.findIn K (.ref C_BadText) "place" = some none
 F_BadText_init : Fun K "__init__" "BadText.__init__" cG_ a_BadText_init d_BadText_init
 b_BadText_init : Binds K d_BadText_init ["self", "place"] []
 gB_DrainError : mg "DrainError" = some (.ref C_DrainErrorB)
 bs_DrainError : NX.BaseI K C_DrainErrorB
 n_all : mg "all" = none
 n_bool : mg "bool" = none
 n_enumerate : mg "enumerate" = none
 n_int : mg "int" = none
 n_isinstance : mg "isinstance" = none
 n_len : mg "len" = none
 n_list : mg "list" = none
 n_min : mg "min" = none
 n_range : mg "range" = none
 n_str : mg "str" = none
 n_tuple : mg "tuple" = none
 t_MOST_FIGURES : Tok
 c_MOST_FIGURES : mg "MOST_FIGURES" = some (.int (7) t_MOST_FIGURES)
 t_SLOTS : Tok
 c_SLOTS : mg "SLOTS" = some (.int (12) t_SLOTS)
 t_LAST_NAME : Tok
 c_LAST_NAME : mg "LAST_NAME" = some (.int (19) t_LAST_NAME)
 t_LAST_NUMBER : Tok
 c_LAST_NUMBER : mg "LAST_NUMBER" = some (.int (1000000) t_LAST_NUMBER)
 t_NO_MAKE : Tok
 c_NO_MAKE : mg "NO_MAKE" = some (.str ("-") t_NO_MAKE)
 t_MAKE_PLACE : Tok
 c_MAKE_PLACE : mg "MAKE_PLACE" = some (.int (1) t_MAKE_PLACE)
 t_FIRST_OWNER : Tok
 c_FIRST_OWNER : mg "FIRST_OWNER" = some (.int (2) t_FIRST_OWNER)
 t_WORDS : Tok
 c_WORDS : mg "WORDS" = some (.int (14) t_WORDS)
 C_BadEdition : Addr
 k_BadEdition : clsOf K 17 C_BadEdition
 g_BadEdition : mg "BadEdition" = some (.ref C_BadEdition)
 x_BadEdition : PySem.W.excIn K C_BadEdition [.type "ValueError", .type "Exception", .type "BaseException", .type "object"] "ValueError.__new__" = true
 kp_BadEdition : PySem.W.keepIn K (.ref C_BadEdition) = true
 eb_BadEdition : PySem.W.subIn K (.ref C_BadEdition) (.type "BaseException") = some true
 et_BadEdition : PySem.W.typeIn K (.ref C_BadEdition) = some (.type "type")
 kp_BadText : PySem.W.keepIn K (.ref C_BadText) = true
 eb_BadText : PySem.W.subIn K (.ref C_BadText) (.type "BaseException") = some true
 et_BadText : PySem.W.typeIn K (.ref C_BadText) = some (.type "type")
 a_is_plain : Addr
 d_is_plain : FuncData
 F_is_plain : Fun K "is_plain" "is_plain" ev_ a_is_plain d_is_plain
 b_is_plain : Binds K d_is_plain ["word"] []
 m_is_plain : mg "is_plain" = some (.ref a_is_plain)
 a_is_signed : Addr
 d_is_signed : FuncData
 F_is_signed : Fun K "is_signed" "is_signed" dX_ a_is_signed d_is_signed
 b_is_signed : Binds K d_is_signed ["word"] []
 m_is_signed : mg "is_signed" = some (.ref a_is_signed)
 a_is_within : Addr
 d_is_within : FuncData
 F_is_within : Fun K "is_within" "is_within" dY_ a_is_within d_is_within
 b_is_within : Binds K d_is_within ["value", "least", "most"] []
 m_is_within : mg "is_within" = some (.ref a_is_within)
 a_is_house : Addr
 d_is_house : FuncData
 F_is_house : Fun K "is_house" "is_house" ew_ a_is_house d_is_house
 b_is_house : Binds K d_is_house ["value"] []
 m_is_house : mg "is_house" = some (.ref a_is_house)
 a_is_owners : Addr
 d_is_owners : FuncData
 F_is_owners : Fun K "is_owners" "is_owners" cV_ a_is_owners d_is_owners
 b_is_owners : Binds K d_is_owners ["value"] []
 m_is_owners : mg "is_owners" = some (.ref a_is_owners)
 a_is_edition : Addr
 d_is_edition : FuncData
 F_is_edition : Fun K "is_edition" "is_edition" dl_ a_is_edition d_is_edition
 b_is_edition : Binds K d_is_edition ["value"] []
 m_is_edition : mg "is_edition" = some (.ref a_is_edition)
 a_check_edition : Addr
 d_check_edition : FuncData
 F_check_edition : Fun K "check_edition" "check_edition" ci_ a_check_edition d_check_edition
 b_check_edition : Binds K d_check_edition ["edition"] []
 m_check_edition : mg "check_edition" = some (.ref a_check_edition)
 a_written_steps : Addr
 d_written_steps : FuncData
 F_written_steps : Fun K "written_steps" "written_steps" bv_ a_written_steps d_written_steps
 b_written_steps : Binds K d_written_steps ["steps"] []
 m_written_steps : mg "written_steps" = some (.ref a_written_steps)
 a_read_steps : Addr
 d_read_steps : FuncData
 F_read_steps : Fun K "read_steps" "read_steps" cA_ a_read_steps d_read_steps
 b_read_steps : Binds K d_read_steps ["text"] []
 m_read_steps : mg "read_steps" = some (.ref a_read_steps)
 a_read_step : Addr
 d_read_step : FuncData
 F_read_step : Fun K "read_step" "read_step" cj_ a_read_step d_read_step
 b_read_step : Binds K d_read_step ["place", "row"] []
 m_read_step : mg "read_step" = some (.ref a_read_step)
 a_written : Addr
 d_written : FuncData
 F_written : Fun K "written" "written" ef_ a_written d_written
 b_written : Binds K d_written ["edition"] []
 m_written : mg "written" = some (.ref a_written)
 a_read : Addr
 d_read : FuncData
 F_read : Fun K "read" "read" iP_ a_read d_read
 b_read : Binds K d_read ["text"] []
 m_read : mg "read" = some (.ref a_read)
 a_can_stand : Addr
 d_can_stand : FuncData
 F_can_stand : Fun K "can_stand" "can_stand" dZ_ a_can_stand d_can_stand
 b_can_stand : Binds K d_can_stand ["word", "place"] []
 m_can_stand : mg "can_stand" = some (.ref a_can_stand)
 a__law_begun : Addr
 d__law_begun : FuncData
 F__law_begun : Fun K "_law_begun" "_law_begun" dm_ a__law_begun d__law_begun
 b__law_begun : Binds K d__law_begun ["_law_script"] []
 m__law_begun : mg "_law_begun" = some (.ref a__law_begun)
 a__law_take : Addr
 d__law_take : FuncData
 F__law_take : Fun K "_law_take" "_law_take" d0_ a__law_take d__law_take
 b__law_take : Binds K d__law_take ["_law_box", "_law_many"] []
 m__law_take : mg "_law_take" = some (.ref a__law_take)
 a__law_alike : Addr
 d__law_alike : FuncData
 F__law_alike : Fun K "_law_alike" "_law_alike" dn_ a__law_alike d__law_alike
 b__law_alike : Binds K d__law_alike ["_law_found", "_law_due"] []
 m__law_alike : mg "_law_alike" = some (.ref a__law_alike)
 a__law_number : Addr
 d__law_number : FuncData
 F__law_number : Fun K "_law_number" "_law_number" b7_ a__law_number d__law_number
 b__law_number : Binds K d__law_number ["_law_word"] []
 m__law_number : mg "_law_number" = some (.ref a__law_number)
 a__law_edition : Addr
 d__law_edition : FuncData
 F__law_edition : Fun K "_law_edition" "_law_edition" bR_ a__law_edition d__law_edition
 b__law_edition : Binds K d__law_edition ["_law_text"] []
 m__law_edition : mg "_law_edition" = some (.ref a__law_edition)
 a__law_step : Addr
 d__law_step : FuncData
 F__law_step : Fun K "_law_step" "_law_step" d1_ a__law_step d__law_step
 b__law_step : Binds K d__law_step ["_law_row"] []
 m__law_step : mg "_law_step" = some (.ref a__law_step)
 a__law_steps : Addr
 d__law_steps : FuncData
 F__law_steps : Fun K "_law_steps" "_law_steps" cB_ a__law_steps d__law_steps
 b__law_steps : Binds K d__law_steps ["_law_text"] []
 m__law_steps : mg "_law_steps" = some (.ref a__law_steps)
 a__law_spoilt : Addr
 d__law_spoilt : FuncData
 F__law_spoilt : Fun K "_law_spoilt" "_law_spoilt" cW_ a__law_spoilt d__law_spoilt
 b__law_spoilt : Binds K d__law_spoilt ["_law_box", "_law_text"] []
 m__law_spoilt : mg "_law_spoilt" = some (.ref a__law_spoilt)
 a__law_drawn : Addr
 d__law_drawn : FuncData
 F__law_drawn : Fun K "_law_drawn" "_law_drawn" do_ a__law_drawn d__law_drawn
 b__law_drawn : Binds K d__law_drawn ["_law_box"] []
 m__law_drawn : mg "_law_drawn" = some (.ref a__law_drawn)
 a_law : Addr
 d_law : FuncData
 F_law : Fun K "law" "law" ck_ a_law d_law
 b_law : Binds K d_law ["_law_script"] []
 m_law : mg "law" = some (.ref a_law)
end K20
namespace K20
open PySem PySem.Spec PyProof.Rows L2 Mv NX CLX LamX
def d_is_plain : En -> Option Out := (aE_ (dIf (ao_ (dOr (hO_ (aj_ (dM0 pO_ (ab_ 0)))) (aj_ (dOp fGt (dCB dk_ (aa_ (ab_ 0) ai_)) (dC (.int 7)))))) (aY_ (ae_ (dC (.bool false)))) aH_)
  (aY_ (ae_ (ok_ (dOp bP_ (ab_ 0) (dC (.str "0"))) (fe_ (dM1 fm_ (ab_ 0) (dC (.str "0"))))))))
def g_is_plain : List S -> Option (S × List S) := fnG 1 d_is_plain
def d_is_signed : En -> Option Out := (aE_ (dIf (ao_ (aj_ (dM1 fm_ (ab_ 0) (dC (.str "-"))))) (aY_ (cf_ (ae_ (dOp dD_ (ab_ 0) (dC (.str "-0")))) (ag_ g_is_plain (aa_ (dSl eZ_ (ab_ 0) (aV_ (dC (.int 1))) ax_) ai_)))) aH_)
  (aY_ (ag_ g_is_plain (aa_ (ab_ 0) ai_))))
def g_is_signed : List S -> Option (S × List S) := fnG 1 d_is_signed
def d_is_within : En -> Option Out := (aY_ (ae_ (b4_ (cp_ .int (ab_ 0)) (b4_ (fe_ (cp_ .bool (ab_ 0))) (cw_ fLe fLe (ab_ 1) (ab_ 0) (ab_ 2))))))
def g_is_within : List S -> Option (S × List S) := fnG 3 d_is_within
def d_is_house : En -> Option Out := (aY_ (ag_ g_is_within (aa_ (ab_ 0) (aa_ (dC (.int 0)) (aa_ (dC (.int 19)) ai_)))))
def g_is_house : List S -> Option (S × List S) := fnG 1 d_is_house
def d_is_owners : En -> Option Out := (aY_ (cf_ (ae_ (cp_ .tuple (ab_ 0))) (cf_ (ae_ (dOp bP_ (bp_ (ab_ 0)) (dC (.int 12)))) (jv_ jP_ (eLc (eU_ (ab_ 0)) 1 cs_ (ag_ g_is_house (aa_ (ab_ 1) ai_)))))))
def g_is_owners : List S -> Option (S × List S) := fnG 2 d_is_owners
def d_is_edition : En -> Option Out := (aE_ (dIf (ao_ (dOr (hO_ (aj_ (cp_ .tuple (ab_ 0)))) (aj_ (dOp dD_ (bp_ (ab_ 0)) (dC (.int 3)))))) (aY_ (ae_ (dC (.bool false)))) aH_)
  (aE_ (hU_ (fJ_ 3 (aX_ (au_ 1) (aX_ (au_ 2) (aX_ (au_ 3) e6_)))) (ae_ (ab_ 0)))
  (aE_ (dIf (gc_ (ao_ (aj_ (dOp fI_ (ab_ 2) (dC .none)))) (dG_ (bb_ (ag_ g_is_within (aa_ (ab_ 2) (aa_ (dC (.int 0)) (aa_ (dC (.int 1000000)) ai_))))))) (aY_ (ae_ (dC (.bool false)))) aH_)
  (aY_ (cf_ (ag_ g_is_within (aa_ (ab_ 1) (aa_ (dC (.int 1)) (aa_ (dC (.int 1000000)) ai_)))) (ag_ g_is_owners (aa_ (ab_ 3) ai_)))))))
def g_is_edition : List S -> Option (S × List S) := fnG 4 d_is_edition
def d_check_edition : En -> Option Out := (dIf (dG_ (bb_ (ag_ g_is_edition (aa_ (ab_ 0) ai_)))) (mm_ 17) aH_)
def g_check_edition : List S -> Option (Rx × List S) := jw_ 1 d_check_edition
def e0_ : En -> Option Out := (dIf (dG_ (bb_ (ag_ g_is_edition (aa_ (ab_ 0) ai_)))) ir_ aH_)
def c0_ : List S -> Option (S × List S) := fnG 1 e0_
def d_written_steps : En -> Option Out := (aY_ (cv_ (dC (.str "\n")) (eLc (c5_ (ab_ 0)) 1 cs_ (cv_ (dC (.str " ")) (eLc (eU_ (ab_ 1)) 2 cs_ (ae_ (dCB hZ_ (aa_ (ab_ 2) ai_))))))))
def g_written_steps : List S -> Option (S × List S) := fnG 3 d_written_steps
def d_read_step : En -> Option Out := (aE_ (eN_ 1 (aX_ (au_ 2) (aX_ (au_ 3) e6_)) (ae_ (a7_ (ab_ 1) (dC (.str " ")))))
  (aE_ (dIf (eOr (ao_ (aj_ (dOp k9_ (jz_ (ab_ 2)) (bp_ (ab_ 3))))) (dG_ (bb_ (jv_ jP_ (eLc (c5_ (ab_ 3)) 5 cs_ (ag_ g_is_signed (aa_ (ab_ 5) ai_))))))) (ch_ (ab_ 0)) aH_)
  (aE_ (cd_ 4 (eLc (c5_ (ab_ 3)) 5 cs_ (ae_ (dCB c7_ (aa_ (ab_ 5) ai_)))))
  (aY_ (ae_ (aS_ (aa_ (ab_ 2) (di_ (ab_ 4) ai_))))))))
def g_read_step : List S -> Option (Rx × List S) := jw_ 6 d_read_step
def d_read_steps : En -> Option Out := (aE_ (ap_ 1 (dM_ (kt_ (ab_ 0)) (a7_ (ab_ 0) (dC (.str "\n"))) (ba_ ai_)))
  (j5_ (od_ (hl_ (ab_ 1)) [2, 3] (fJ_ 2 (aX_ (au_ 2) (aX_ (au_ 3) e6_))) cs_ (eW_ g_read_step (aa_ (ab_ 2) (aa_ (ab_ 3) ai_))))))
def g_read_steps : List S -> Option (Rx × List S) := jw_ 4 d_read_steps
noncomputable def g_read_stepsN : List S -> Option (S × List S) := gRt g_read_steps
def d_written : En -> Option Out := (aE_ (cr_ (ag_ c0_ (aa_ (ab_ 0) ai_)))
  (aE_ (hU_ (fJ_ 3 (aX_ (au_ 1) (aX_ (au_ 2) (aX_ (au_ 3) e6_)))) (ae_ (ab_ 0)))
  (aE_ (ap_ 4 (ba_ (aa_ (ab_ 1) (aa_ (dM_ (aj_ (dOp fS_ (ab_ 2) (dC .none))) (dC (.str "-")) (ab_ 2)) (di_ (ab_ 3) ai_)))))
  (aY_ (cv_ (dC (.str " ")) (eLc (c5_ (ab_ 4)) 5 cs_ (ae_ (dCB hZ_ (aa_ (ab_ 5) ai_)))))))))
def g_written : List S -> Option (S × List S) := fnG 6 d_written
def d_can_stand : En -> Option Out := (aE_ (dIf (ao_ (aj_ (dOp bP_ (ab_ 0) (dC (.str "-"))))) (aY_ (ae_ (dOp bP_ (ab_ 1) (dC (.int 1))))) aH_)
  (aY_ (cf_ (ag_ g_is_plain (aa_ (ab_ 0) ai_)) (oo_ (ae_ (dOp fLt (ab_ 1) (dC (.int 2)))) (ag_ g_is_house (aa_ (dCB c7_ (aa_ (ab_ 0) ai_)) ai_))))))
def g_can_stand : List S -> Option (S × List S) := fnG 2 d_can_stand
def d_read : En -> Option Out := (aE_ (ap_ 1 (a7_ (ab_ 0) (dC (.str " "))))
  (aE_ (d8_ (by_ (dC (.int 14))) (au_ 2) (dIf (eOr (ao_ (aj_ (dOp bP_ (ab_ 2) (bp_ (ab_ 1))))) (dG_ (bb_ (ag_ g_can_stand (aa_ (aC_ (ab_ 1) (ab_ 2)) (aa_ (ab_ 2) ai_)))))) (ch_ (ab_ 2)) aH_))
  (aE_ (dIf (ao_ (aj_ (dOp fGt (bp_ (ab_ 1)) (dC (.int 14))))) (ch_ (dC (.int 14))) aH_)
  (aE_ (eN_ 2 (aX_ (au_ 3) (aX_ (au_ 4) (aX_ (au_ 5) e6_))) (eLc (c5_ (ab_ 1)) 7 cs_ (ae_ (dM_ (aj_ (dOp bP_ (ab_ 7) (dC (.str "-")))) (dC .none) (dCB c7_ (aa_ (ab_ 7) ai_))))))
  (aE_ (ap_ 6 (aS_ (aa_ (ab_ 3) (aa_ (ab_ 4) (aa_ (dCS fTuple (aa_ (ab_ 5) ai_)) ai_)))))
  (aE_ (fl_ (eW_ g_check_edition (aa_ (ab_ 6) ai_)))
  (aY_ (c6_ 6))))))))
def g_read : List S -> Option (Rx × List S) := jw_ 8 d_read
def d__law_begun : En -> Option Out := (aE_ (ap_ 1 (dC (.int 0)))
  (aE_ (d8_ (c5_ (ab_ 0)) (au_ 2) (ap_ 1 (dOp fG_ (dOp dR_ (dOp dR_ (dOp fh_ (ab_ 1) (dC (.int 48271))) (dOp fh_ (ab_ 2) (dC (.int 69621)))) (dC (.int 11))) (dC (.int 2147483647)))))
  (aY_ (ae_ (ba_ (aa_ (dCS i8_ (aa_ (ab_ 0) ai_)) (aa_ (dOp fh_ (ab_ 1) (dCB lb_ (aa_ (dOp fGt (bp_ (ab_ 0)) (dC (.int 2))) ai_))) ai_)))))))
def g__law_begun : List S -> Option (S × List S) := fnG 3 d__law_begun
def d__law_take : En -> Option Out := (aE_ (dIf (ao_ (aj_ (dOp e5_ (aC_ (ab_ 0) (dC (.int 0))) (ba_ ai_)))) (aE_ (eV_ (ab_ 0) (dC (.int 1)) (ae_ (dOp fG_ (dOp fh_ (aC_ (ab_ 0) (dC (.int 1))) (dC (.int 48271))) (dC (.int 2147483647)))))
  (aY_ (ae_ (dOp fG_ (dOp eX_ (aC_ (ab_ 0) (dC (.int 1))) (dC (.int 7))) (ab_ 1))))) aH_)
  (aE_ (ap_ 2 (aC_ (aC_ (ab_ 0) (dC (.int 0))) (dC (.int 0))))
  (aE_ (eV_ (aC_ (ab_ 0) (dC (.int 0))) (dC (.int 0)) (ae_ (dOp eX_ (ab_ 2) (ab_ 1))))
  (aE_ (dIf (ao_ (dOr (aj_ (dOp bP_ (aC_ (aC_ (ab_ 0) (dC (.int 0))) (dC (.int 0))) (dC (.int 0)))) (aj_ (dOp bP_ (aC_ (aC_ (ab_ 0) (dC (.int 0))) (dC (.int 0))) (la_ (dC (.int 1))))))) (cr_ (dH_ eJ_ (aC_ (ab_ 0) (dC (.int 0))) (dC (.int 0)))) aH_)
  (aY_ (ae_ (dOp fG_ (ab_ 2) (ab_ 1))))))))
def g__law_take : List S -> Option (S × List S) := fnG 3 d__law_take
def f__law_alike (g : List S -> Option (S × List S)) : En -> Option Out := (aE_ (dIf (ao_ (aj_ (dOp fS_ (ab_ 1) (dC .none)))) (aY_ (ae_ (dOp fS_ (ab_ 0) (dC .none)))) aH_)
  (aE_ (dIf (ao_ (aj_ (cp_ .bool (ab_ 1)))) (aY_ (ae_ (b4_ (cp_ .bool (ab_ 0)) (dOp e5_ (ab_ 0) (ab_ 1))))) aH_)
  (aE_ (dIf (ao_ (aj_ (cp_ .int (ab_ 1)))) (aY_ (ae_ (b4_ (cp_ .int (ab_ 0)) (b4_ (fe_ (cp_ .bool (ab_ 0))) (dOp e5_ (ab_ 0) (ab_ 1)))))) aH_)
  (aE_ (dIf (ao_ (aj_ (cp_ .str (ab_ 1)))) (aY_ (ae_ (b4_ (cp_ .str (ab_ 0)) (dOp e5_ (ab_ 0) (ab_ 1))))) aH_)
  (aE_ (dIf (ao_ (dOr (aj_ (dOp dD_ (cp_ .tuple (ab_ 1)) (cp_ .tuple (ab_ 0)))) (aj_ (dOp dD_ (cp_ .list (ab_ 1)) (cp_ .list (ab_ 0)))))) (aY_ (ae_ (dC (.bool false)))) aH_)
  (aE_ (dIf (ao_ (aj_ (dOp dD_ (bp_ (ab_ 0)) (bp_ (ab_ 1))))) (aY_ (ae_ (dC (.bool false)))) aH_)
  (aE_ (d8_ (by_ (bp_ (ab_ 1))) (au_ 2) (dIf (dG_ (bb_ (ag_ g (aa_ (eL_ (ab_ 0) (ab_ 2)) (aa_ (eL_ (ab_ 1) (ab_ 2)) ai_))))) (aY_ (ae_ (dC (.bool false)))) aH_))
  (aY_ (ae_ (dC (.bool true)))))))))))
def g__law_alike : Nat -> List S -> Option (S × List S)
 | 0 => m4_
 | k + 1 => fnG 3 (f__law_alike (g__law_alike k))
def d__law_number : En -> Option Out := (aE_ (dIf (eOr (ao_ (hO_ (aj_ (cw_ fLe fLe (dC (.int 1)) (dCB dk_ (aa_ (ab_ 0) ai_)) (dC (.int 7)))))) (bb_ (bh_ (af_ (eLc (jj_ (ab_ 0)) 1 (ao_ (aj_ (dOp (mz_ true) (ab_ 1) (dC (.str "0123456789"))))) (ae_ (ab_ 1))) (an_ (ba_ ai_) aJ_)) fun k => aT_ k 2 (ae_ ((dOp k9_) (dGh k 0) (dGh k 1)))))) (aY_ (ae_ (dC .none))) aH_)
  (aY_ (ae_ (dM_ (aj_ (dOp bP_ (dCB hZ_ (aa_ (dCB c7_ (aa_ (ab_ 0) ai_)) ai_)) (ab_ 0))) (dCB c7_ (aa_ (ab_ 0) ai_)) (dC .none)))))
def g__law_number : List S -> Option (S × List S) := fnG 2 d__law_number
def d__law_edition : En -> Option Out := (aE_ (ap_ 1 (a7_ (ab_ 0) (dC (.str " "))))
  (aE_ (d8_ (by_ (bp_ (ab_ 1))) (au_ 2) (aE_ (cd_ 3 (ag_ g__law_number (aa_ (aC_ (ab_ 1) (ab_ 2)) ai_)))
  (dIf (ao_ (dOr (aj_ (dOp fGt (ab_ 2) (dC (.int 13)))) (dOr (hH_ (aj_ (dOp fS_ (ab_ 3) (dC .none))) (dOr (aj_ (dOp dD_ (ab_ 2) (dC (.int 1)))) (aj_ (dOp dD_ (aC_ (ab_ 1) (dC (.int 1))) (dC (.str "-")))))) (hH_ (aj_ (dOp fGt (ab_ 2) (dC (.int 1)))) (aj_ (dOp fGt (ab_ 3) (dC (.int 19)))))))) (aY_ (ae_ (aS_ (aa_ (dC (.str "BadText")) (aa_ (ab_ 2) ai_))))) aH_)))
  (aE_ (dIf (ao_ (aj_ (dOp fLt (bp_ (ab_ 1)) (dC (.int 14))))) (aY_ (ae_ (aS_ (aa_ (dC (.str "BadText")) (aa_ (bp_ (ab_ 1)) ai_))))) aH_)
  (aE_ (cd_ 4 (eLc (c5_ (ab_ 1)) 5 cs_ (ag_ g__law_number (aa_ (ab_ 5) ai_))))
  (aE_ (dIf (ao_ (dOr (hO_ (aj_ (cw_ fLe fLe (dC (.int 1)) (aC_ (ab_ 4) (dC (.int 0))) (dOp fZ_ (dC (.int 10)) (dC (.int 6)))))) (hH_ (aj_ (dOp fI_ (aC_ (ab_ 4) (dC (.int 1))) (dC .none))) (aj_ (dOp fGt (aC_ (ab_ 4) (dC (.int 1))) (dOp fZ_ (dC (.int 10)) (dC (.int 6)))))))) (aY_ (ae_ (aS_ (aa_ (dC (.str "BadEdition")) (aa_ (dC (.int 0)) ai_))))) aH_)
  (aY_ (ae_ (aS_ (aa_ (aC_ (ab_ 4) (dC (.int 0))) (aa_ (aC_ (ab_ 4) (dC (.int 1))) (aa_ (dCS fTuple (aa_ (dSl c8_ (ab_ 4) (aV_ (dC (.int 2))) ax_) ai_)) ai_)))))))))))
def g__law_edition : List S -> Option (S × List S) := fnG 6 d__law_edition
def d__law_step : En -> Option Out := (aE_ (ap_ 1 (a7_ (ab_ 0) (dC (.str " "))))
  (aE_ (cd_ 2 (lu_ (cO_ (ae_ (dC (.str "come"))) (ae_ (dC (.int 1))) (cO_ (ae_ (dC (.str "farewell"))) (ae_ (dC (.int 1))) (cO_ (ae_ (dC (.str "turn"))) (ae_ (dC (.int 0))) (cO_ (ae_ (dC (.str "ask"))) (ae_ (dC (.int 3))) (cO_ (ae_ (dC (.str "send"))) (ae_ (dC (.int 0))) (cO_ (ae_ (dC (.str "carry"))) (ae_ (dC (.int 1))) (cO_ (ae_ (dC (.str "twice"))) (ae_ (dC (.int 1))) (cO_ (ae_ (dC (.str "lose"))) (ae_ (dC (.int 1))) (cO_ (ae_ (dC (.str "settle"))) (ae_ (dC (.int 1))) aJ_)))))))))))
  (aE_ (dIf (ao_ (aj_ (dOp dD_ (fW_ (ab_ 2) (aC_ (ab_ 1) (dC (.int 0))) (la_ (dC (.int 1)))) (dOp e4_ (bp_ (ab_ 1)) (dC (.int 1)))))) (aY_ (ae_ (dC .none))) aH_)
  (aE_ (ap_ 3 (aS_ (aa_ (aC_ (ab_ 1) (dC (.int 0))) ai_)))
  (aE_ (d8_ (c5_ (dSl c8_ (ab_ 1) (aV_ (dC (.int 1))) ax_)) (au_ 4) (aE_ (cd_ 5 (ag_ g__law_number (aa_ (dM_ (aj_ (dOp bP_ (dSl eZ_ (ab_ 4) ax_ (aV_ (dC (.int 1)))) (dC (.str "-")))) (dSl eZ_ (ab_ 4) (aV_ (dC (.int 1))) ax_) (ab_ 4)) ai_)))
  (aE_ (dIf (ao_ (dOr (aj_ (dOp fS_ (ab_ 5) (dC .none))) (hH_ (aj_ (dOp bP_ (dSl eZ_ (ab_ 4) ax_ (aV_ (dC (.int 1)))) (dC (.str "-")))) (aj_ (dOp bP_ (ab_ 5) (dC (.int 0))))))) (aY_ (ae_ (dC .none))) aH_)
  (ap_ 3 (cq_ i7_ (ab_ 3) (aS_ (aa_ (dM_ (aj_ (dOp bP_ (dSl eZ_ (ab_ 4) ax_ (aV_ (dC (.int 1)))) (dC (.str "-")))) (dOp e4_ (dC (.int 0)) (ab_ 5)) (ab_ 5)) ai_)))))))
  (aY_ (c6_ 3)))))))
def g__law_step : List S -> Option (S × List S) := fnG 6 d__law_step
def d__law_steps : En -> Option Out := (aE_ (cd_ 1 (hg_ (ao_ (aj_ (dOp dD_ (ab_ 0) (dC (.str ""))))) (eLc (c5_ (a7_ (ab_ 0) (dC (.str "\n")))) 2 cs_ (ag_ g__law_step (aa_ (ab_ 2) ai_))) (ae_ (ba_ ai_))))
  (aY_ (hg_ (ao_ (aj_ (cq_ (ne_ false) (dC .none) (ab_ 1)))) (bh_ (an_ (dC (.str "BadText")) (af_ (dH_ cF_ (ab_ 1) (dC .none)) aJ_)) fun k => ae_ (aS_ (ct_ k))) (c6_ 1))))
def g__law_steps : List S -> Option (S × List S) := fnG 3 d__law_steps
def d__law_spoilt : En -> Option Out := (aE_ (cd_ 2 (ag_ g__law_take (aa_ (ab_ 0) (aa_ (dC (.int 8)) ai_))))
  (aE_ (cd_ 3 (ag_ g__law_take (aa_ (ab_ 0) (aa_ (dOp dR_ (dCB dk_ (aa_ (ab_ 1) ai_)) (dC (.int 1))) ai_))))
  (aE_ (ap_ 4 (dC (.str "0123456789 -\nascturnbdefghijklmopqvwxyz!#$&'()*+,./:;<=>?@ABCDEFGHIJKLMNOPQRSTUVWXYZ[]^_`{|}~")))
  (aE_ (cd_ 5 (eOp le_ (ae_ (ab_ 4)) (bh_ (an_ (ab_ 0) (af_ (bh_ (an_ (ba_ (aa_ (dC (.int 20)) (aa_ (dCB dk_ (aa_ (ab_ 4) ai_)) ai_))) (af_ (ag_ g__law_take (aa_ (ab_ 0) (aa_ (dC (.int 2)) ai_))) aJ_)) fun k => aT_ k 2 (ae_ (aC_ (dGh k 0) (dGh k 1)))) aJ_)) fun k => aT_ k 2 (ag_ g__law_take (ct_ k)))))
  (aE_ (cd_ 5 (bh_ (af_ (ek_ (an_ (ab_ 5) (an_ (dC (.str "")) (af_ (eOp le_ (ae_ (ab_ 4)) (ag_ g__law_take (aa_ (ab_ 0) (aa_ (dC (.int 13)) ai_)))) aJ_)))) (an_ (dCB hT_ (aa_ (ab_ 2) (aa_ (dC (.int 2)) ai_))) aJ_)) fun k => aT_ k 2 (ae_ (aC_ (dGh k 0) (dGh k 1)))))
  (aE_ (dIf (ao_ (aj_ (dOp fLt (ab_ 2) (dC (.int 3))))) (aY_ (ae_ (dOp kc_ (dOp kc_ (dSl eZ_ (ab_ 1) ax_ (aV_ (ab_ 3))) (ab_ 5)) (dSl eZ_ (ab_ 1) (aV_ (dOp dR_ (ab_ 3) (dCB lb_ (aa_ (dOp fGt (ab_ 2) (dC (.int 0))) ai_)))) ax_)))) aH_)
  (aE_ (ap_ 6 (a7_ (ab_ 1) (dC (.str "\n"))))
  (aE_ (cd_ 7 (ag_ g__law_take (aa_ (ab_ 0) (aa_ (bp_ (ab_ 6)) ai_))))
  (aE_ (dIf (ao_ (aj_ (dOp fLt (ab_ 2) (dC (.int 5))))) (aY_ (cv_ (dC (.str "\n")) (ae_ (cq_ b0_ (cq_ b0_ (dSl c8_ (ab_ 6) ax_ (aV_ (ab_ 7))) (cq_ lc_ (dSl c8_ (ab_ 6) (aV_ (ab_ 7)) (aV_ (dOp dR_ (ab_ 7) (dC (.int 1))))) (aC_ (ba_ (aa_ (dC (.int 0)) (aa_ (dC (.int 2)) ai_))) (dOp e4_ (ab_ 2) (dC (.int 3)))))) (dSl c8_ (ab_ 6) (aV_ (dOp dR_ (ab_ 7) (dC (.int 1)))) ax_))))) aH_)
  (aE_ (ap_ 8 (a7_ (aC_ (ab_ 6) (ab_ 7)) (dC (.str " "))))
  (aE_ (cd_ 9 (ag_ g__law_take (aa_ (ab_ 0) (aa_ (bp_ (ab_ 8)) ai_))))
  (aE_ (ap_ 10 (ba_ (aa_ (dC (.str "")) (aa_ (dC (.str "0")) (aa_ (dC (.str "00")) (aa_ (dC (.str "-")) (aa_ (dC (.str "-1")) (aa_ (dC (.str "-0")) (aa_ (dC (.str "19")) (aa_ (dC (.str "20")) (aa_ (dC (.str "1000000")) (aa_ (dC (.str "1000001")) (aa_ (dC (.str "10000000")) (aa_ (dC (.str "ask")) (aa_ (dC (.str "turn")) (aa_ (dC (.str "x")) (aa_ (dC (.str "7 8")) ai_)))))))))))))))))
  (aE_ (cd_ 8 (bh_ (af_ (bh_ (an_ (dSl c8_ (ab_ 8) ax_ (aV_ (ab_ 9))) (af_ (bh_ (af_ (ek_ (an_ (hY_ (ba_ ai_)) (an_ (hY_ (cq_ lc_ (ba_ (aa_ (aC_ (ab_ 8) (ab_ 9)) ai_)) (dC (.int 2)))) (af_ (fH_ (ek_ (af_ (bh_ (an_ (ab_ 10) (af_ (ag_ g__law_take (aa_ (ab_ 0) (aa_ (dC (.int 15)) ai_))) aJ_)) fun k => aT_ k 2 (ae_ (aC_ (dGh k 0) (dGh k 1)))) aJ_))) aJ_)))) (an_ (dOp e4_ (ab_ 2) (dC (.int 5))) aJ_)) fun k => aT_ k 2 (ae_ (aC_ (dGh k 0) (dGh k 1)))) aJ_)) fun k => aT_ k 2 (ae_ ((cq_ b0_) (dGh k 0) (dGh k 1)))) (an_ (dSl c8_ (ab_ 8) (aV_ (dOp dR_ (ab_ 9) (dC (.int 1)))) ax_) aJ_)) fun k => aT_ k 2 (ae_ ((cq_ b0_) (dGh k 0) (dGh k 1)))))
  (aY_ (cv_ (dC (.str "\n")) (bh_ (af_ (bh_ (an_ (dSl c8_ (ab_ 6) ax_ (aV_ (ab_ 7))) (af_ (ek_ (af_ (cv_ (dC (.str " ")) (c6_ 8)) aJ_)) aJ_)) fun k => aT_ k 2 (ae_ ((cq_ b0_) (dGh k 0) (dGh k 1)))) (an_ (dSl c8_ (ab_ 6) (aV_ (dOp dR_ (ab_ 7) (dC (.int 1)))) ax_) aJ_)) fun k => aT_ k 2 (ae_ ((cq_ b0_) (dGh k 0) (dGh k 1)))))))))))))))))))
def g__law_spoilt : List S -> Option (S × List S) := fnG 11 d__law_spoilt
def d__law_drawn : En -> Option Out := (aE_ (ap_ 1 (ba_ ai_))
  (aE_ (d8_ (df_ (ag_ g__law_take (aa_ (ab_ 0) (aa_ (dC (.int 9)) ai_)))) (au_ 2) (aE_ (jd_ 3 4 (af_ (bh_ (an_ (ab_ 0) (af_ (bh_ (an_ (ba_ (aa_ (dC (.int 20)) (aa_ (dOp fZ_ (dC (.int 10)) (dC (.int 6))) ai_))) (af_ (ag_ g__law_take (aa_ (ab_ 0) (aa_ (dC (.int 2)) ai_))) aJ_)) fun k => aT_ k 2 (ae_ (aC_ (dGh k 0) (dGh k 1)))) aJ_)) fun k => aT_ k 2 (ag_ g__law_take (ct_ k))) (af_ (eOp e4_ (ag_ g__law_take (aa_ (ab_ 0) (aa_ (dC (.int 199)) ai_))) (ae_ (dC (.int 99)))) aJ_)))
  (aE_ (cd_ 5 (ek_ (an_ (aS_ (aa_ (dC (.str "come")) (aa_ (ab_ 3) ai_))) (an_ (aS_ (aa_ (dC (.str "farewell")) (aa_ (ab_ 4) ai_))) (an_ (aS_ (aa_ (dC (.str "turn")) ai_)) (af_ (bh_ (an_ (dC (.str "ask")) (an_ (ab_ 3) (af_ (ag_ g__law_take (aa_ (ab_ 0) (aa_ (dC (.int 12)) ai_))) (an_ (ab_ 4) aJ_)))) fun k => ae_ (aS_ (ct_ k))) (an_ (aS_ (aa_ (dC (.str "send")) ai_)) aJ_)))))))
  (aE_ (ap_ 5 (cq_ b0_ (ab_ 5) (ba_ (aa_ (aS_ (aa_ (dC (.str "carry")) (aa_ (ab_ 3) ai_))) (aa_ (aS_ (aa_ (dC (.str "twice")) (aa_ (ab_ 3) ai_))) (aa_ (aS_ (aa_ (dC (.str "lose")) (aa_ (ab_ 4) ai_))) (aa_ (aS_ (aa_ (dC (.str "settle")) (aa_ (ab_ 3) ai_))) ai_)))))))
  (cr_ (hV_ bE_ (ab_ 1) (bh_ (an_ (ab_ 5) (af_ (ag_ g__law_take (aa_ (ab_ 0) (aa_ (dC (.int 9)) ai_))) aJ_)) fun k => aT_ k 2 (ae_ (aC_ (dGh k 0) (dGh k 1))))))))))
  (aY_ (c6_ 1))))
def g__law_drawn : List S -> Option (S × List S) := fnG 6 d__law_drawn
def lamQ_law : Str := (envOfC "law" (defScope ck_) 0 0 .none).qual ++ "<lambda>"
def b9_ : Expr := (pT_ 0 (pT_ 0 (qN_ (qM_ (aSt 0 (pS_ (aSt 6 (pS_ (aSt 3 (defBody ck_))))))))))
def lam_law_0 (n : Nat) : LamId := oS_ ck_ "law" b9_ n
def gx_ : En -> Option (Rx × En) := (eW_ g_read (aa_ (ab_ 0) ai_))
def gy_ : List S -> Option (Rx × List S) := mt_ 1 gx_
def ca_ : Expr := (pT_ 0 (pT_ 0 (qN_ (qM_ (aSt 1 (pS_ (aSt 6 (pS_ (aSt 3 (defBody ck_))))))))))
def lam_law_1 (n : Nat) : LamId := oS_ ck_ "law" ca_ n
def gz_ : En -> Option (Rx × En) := (eW_ g_read_steps (aa_ (ab_ 0) ai_))
def gA_ : List S -> Option (Rx × List S) := mt_ 1 gz_
def ids_law_0 (n : Nat) : Nat -> LamId
 | 0 => lam_law_0 n
 | _ => lam_law_0 n
def gs_law_0 : Nat -> List S -> Option (Rx × List S)
 | 0 => gy_
 | _ => gy_
def ids_law_1 (n : Nat) : Nat -> LamId
 | 0 => lam_law_1 n
 | _ => lam_law_1 n
def gs_law_1 : Nat -> List S -> Option (Rx × List S)
 | 0 => gA_
 | _ => gA_
noncomputable def d_law (Pt : Addr) (n : Nat) : En -> Option Out := (aE_ (cd_ 1 (ag_ g__law_begun (aa_ (ab_ 0) ai_)))
  (aE_ (ap_ 2 (ba_ (aa_ (dC (.str "")) (aa_ (dC (.str " ")) (aa_ (dC (.str "turn ")) (aa_ (dC (.str " turn")) (aa_ (dC (.str "turn 1")) (aa_ (dC (.str "ask 1 2")) (aa_ (dC (.str "ask 1 2 -0")) (aa_ (dC (.str "come")) (aa_ (dC (.str "come 07")) (aa_ (dC (.str "send\n")) (aa_ (dC (.str "\nsend")) ai_)))))))))))))
  (aE_ (cr_ (dH_ bE_ (ab_ 2) (dC (.str "Come 1"))))
  (aE_ (d8_ (by_ (dC (.int 6))) (au_ 3) (aE_ (cd_ 4 (fH_ (ag_ g__law_drawn (aa_ (ab_ 1) ai_))))
  (aE_ (dIf (dG_ (bb_ (bh_ (af_ (fH_ (bh_ (af_ (ag_ g_written_steps (aa_ (ab_ 4) ai_)) aJ_) fun k => aT_ k 1 (ag_ g_read_stepsN (ct_ k)))) (an_ (hY_ (ab_ 4)) aJ_)) fun k => aT_ k 2 (ag_ (g__law_alike 9) (ct_ k))))) (aY_ (ae_ (dC (.bool false)))) aH_)
  (aE_ (cd_ 5 (bh_ (an_ (ba_ (aa_ (dC .none) (aa_ (dC (.int 3)) (aa_ (dOp fZ_ (dC (.int 10)) (dC (.int 6))) ai_)))) (af_ (ag_ g__law_take (aa_ (ab_ 1) (aa_ (dC (.int 3)) ai_))) aJ_)) fun k => aT_ k 2 (ae_ (aC_ (dGh k 0) (dGh k 1)))))
  (aE_ (cd_ 6 (bh_ (af_ (eOp dR_ (ae_ (dC (.int 1))) (ag_ g__law_take (aa_ (ab_ 1) (aa_ (dOp fZ_ (dC (.int 10)) (dC (.int 6))) ai_)))) (an_ (ab_ 5) (af_ (eCS fTuple (eLc (by_ (dC (.int 12))) 11 cs_ (ag_ g__law_take (aa_ (ab_ 1) (aa_ (dC (.int 20)) ai_))))) aJ_))) fun k => ae_ (aS_ (ct_ k))))
  (aE_ (hU_ (fJ_ 2 (aX_ (au_ 7) (aX_ (au_ 8) e6_))) (bh_ (af_ (ag_ g_written (aa_ (ab_ 6) ai_)) (af_ (bh_ (af_ (ek_ (af_ (ag_ g_written_steps (aa_ (ab_ 4) ai_)) (af_ (bh_ (an_ (ab_ 2) (af_ (ag_ g__law_take (aa_ (ab_ 1) (aa_ (dC (.int 12)) ai_))) aJ_)) fun k => aT_ k 2 (ae_ (aC_ (dGh k 0) (dGh k 1)))) aJ_))) (af_ (eOp mc_ (ag_ g__law_take (aa_ (ab_ 1) (aa_ (dC (.int 3)) ai_))) (ae_ (dC (.int 2)))) aJ_)) fun k => aT_ k 2 (ae_ (aC_ (dGh k 0) (dGh k 1)))) aJ_)) fun k => ae_ (aS_ (ct_ k))))
  (aE_ (d8_ (df_ (ag_ g__law_take (aa_ (ab_ 1) (aa_ (dC (.int 4)) ai_)))) (au_ 9) (hU_ (fJ_ 2 (aX_ (au_ 7) (aX_ (au_ 8) e6_))) (bh_ (af_ (ag_ g__law_spoilt (aa_ (ab_ 1) (aa_ (ab_ 7) ai_))) (af_ (ag_ g__law_spoilt (aa_ (ab_ 1) (aa_ (ab_ 8) ai_))) aJ_)) fun k => ae_ (aS_ (ct_ k)))))
  (d8_ (by_ (dC (.int 2))) (au_ 10) (aE_ (dIf (dG_ (bb_ (bh_ (af_ (fH_ (ee_ 1 (ids_law_0 n) gs_law_0 [7] (ld_ 13 Pt 0 (lam_law_0 n)))) (af_ (ag_ g__law_edition (aa_ (ab_ 7) ai_)) aJ_)) fun k => aT_ k 2 (ag_ (g__law_alike 9) (ct_ k))))) (aY_ (ae_ (dC (.bool false)))) aH_)
  (dIf (dG_ (bb_ (bh_ (af_ (fH_ (ee_ 1 (ids_law_1 n) gs_law_1 [8] (ld_ 13 Pt 0 (lam_law_1 n)))) (af_ (fH_ (ag_ g__law_steps (aa_ (ab_ 8) ai_))) aJ_)) fun k => aT_ k 2 (ag_ (g__law_alike 9) (ct_ k))))) (aY_ (ae_ (dC (.bool false)))) aH_))))))))))
  (aY_ (ae_ (dC (.bool true))))))))
noncomputable def g_law (Pt : Addr) : List S -> List S -> Option (S × List S × List S) := oc_ fun n => oa_ 12 (d_law Pt n)
section
variable {P : Program} {w : World} {K : PySem.W.Frag} {mg : Str -> Option Value} {base : Heap}
theorem cl_ (T : Txt w K mg) : FnOk P w K mg base CX0 1 T.a_BadText_init T.d_BadText_init ["self", "place"] (NX.spPlace T.C_BadText) := by
 refine T.F_BadText_init.ok ft_ (fun vs H Q E h => by obtain ⟨_, _, rfl, _⟩ := h; rfl) (fun cdv A outer s H vs Q E hr h => ?_)
 obtain ⟨a, i, rfl, hi, ha, q⟩ := h
 refine ⟨_, pss_cons (ps_expr (NX.pe_binit rfl T.gB_DrainError T.bs_DrainError (pa_cons (pv 0) (pa_cons (pe_joined (.cons pe_str (.cons (pe_fmt (pv 1)) .nil))) pa_nil))))
  (pss_one (ps_ost (pv 0) (pv 1))), ?_⟩
 refine ⟨.ref a, rfl, ?_⟩
 refine ⟨_, rfl, by decide, .int i, rfl, .inr ⟨i, rfl, hi, _, rfl, ?_, a, T.C_BadText, _, rfl, by show 1 <= 1000; decide, T.ox_BadText, ha, ?_⟩⟩
 ·have e := PySem.int_text_length_le (k := 1920) (by decide) hi
  rw [PySem.Str.length_append, PySem.ofString_length]
  have e2 : (Str.empty ++ Str.ofString "the text can't be read at place ").length = 32 := by decide +kernel
  have e3 := sizeLine_eq
  omega
 refine ⟨.int i, rfl, .ref a, rfl, a, T.C_BadText, rfl, T.ox_BadText, T.np_BadText, .inl ⟨ha, fun d hd ne => ?_⟩⟩
 exact q d hd ne
theorem d2_ (T : Txt w K mg) : FnOk P w K mg base CX0 1 T.a_is_plain T.d_is_plain ["word"] (dO_ K 1 g_is_plain) := by
 refine cR_ T.F_is_plain h5_ (fun cdv A outer s H E as hr => ?_)
 exact ⟨_, (pss_cons (ps_if (PW.pt (pw_or (pt_not (pt_val (pe_m0 PySem.F.slot_str_isdigit PySem.F.type_str_isdigit mt_isdigit (pv 0)))) (pw_or1 (pt_cmpR op_gt (pe_callB call_len_str (by rfl) T.n_len PySem.boot_len (pa_cons (pv 0) pa_nil)) (pe_glob (v := .int (7)) rfl T.c_MOST_FIGURES ⟨_, rfl⟩) (nomark _))))) (pss_one (ps_ret pe_bl)) pss_nil)
  (pss_one (ps_ret (pe_or (pe_cmpR op_eq (pv 0) pe_str (nomark _)) (pe_one (pe_not (pe_m1 PySem.F.slot_str_startswith PySem.F.type_str_startswith mt_startswith (pv 0) pe_str))))))),
  fun W => (aw_ (d5_ (aP_ (li_ (lj_ (mb_ (ka_ zv0))) (aN_ (bm_ g3_ (hS_ gt_ (ac_ zv0 ar_)) (p_c (d := .int 7)))))) (a4_ (aq_ (p_c (d := .bool false)))) a6_)
  (a4_ (aq_ (p1_ (bm_ dS_ zv0 (p_c (d := .str "0"))) (jL_ (eM_ zv0 (p_c (d := .str "0"))))))))⟩
theorem ht_ (T : Txt w K mg) : FnOk P w K mg base CX0 2 T.a_is_signed T.d_is_signed ["word"] (dO_ K 1 g_is_signed) := by
 refine cR_ T.F_is_signed hq_ (fun cdv A outer s H E as hr => ?_)
 exact ⟨_, (pss_cons (ps_if (pt_val (pe_m1 PySem.F.slot_str_startswith PySem.F.type_str_startswith mt_startswith (pv 0) pe_str)) (pss_one (ps_ret (pe_and (pe_cmpR op_ne (pv 0) pe_str (nomark _)) (pe_one (pe_call (d2_ T) (zrm hr) rfl T.m_is_plain T.F_is_plain.kp T.b_is_plain .nil pass0 (pa_cons (pe_slice (r := C8.rSlX) C8.sl_txt (pv 0) (po_some pe_int) po_none) pa_nil)))))) pss_nil)
  (pss_one (ps_ret (pe_call (d2_ T) (zrm hr) rfl T.m_is_plain T.F_is_plain.kp T.b_is_plain .nil pass0 (pa_cons (pv 0) pa_nil))))),
  fun W => (aw_ (d5_ (aP_ (mb_ (eM_ zv0 (p_c (d := .str "-"))))) (a4_ (g5_ (aq_ (bm_ gh_ zv0 (p_c (d := .str "-0")))) (aD_ (ac_ (dd_ (r := C8.rSlX) (f := eZ_) fs_ zv0 (bY_ (p_c (d := .int 1))) bk_) ar_) (al_ aB_)))) a6_)
  (a4_ (aD_ (ac_ zv0 ar_) (al_ aB_))))⟩
theorem dp_ (T : Txt w K mg) : FnOk P w K mg base CX0 1 T.a_is_within T.d_is_within ["value", "least", "most"] (dO_ K 3 g_is_within) := by
 refine cR_ T.F_is_within hr_ (fun cdv A outer s H E as hr => ?_)
 exact ⟨_, (pss_one (ps_ret (pe_and (pe_callB (r := rIsi K) call_isi (by rfl) T.n_isinstance (by decide +kernel) (pa_cons (pv 0) (pa_cons (pe_bltn (v := .ty "int") (u := .type "int") (by rfl) T.n_int (by decide +kernel) rfl) pa_nil))) (pe_and (pe_not (pe_callB (r := rIsi K) call_isi (by rfl) T.n_isinstance (by decide +kernel) (pa_cons (pv 0) (pa_cons (pe_bltn (v := .ty "bool") (u := .type "bool") (by rfl) T.n_bool (by decide +kernel) rfl) pa_nil)))) (pe_one (pe_chain op_le op_le (pv 1) (pv 0) (pv 2))))))),
  fun W => (a4_ (aq_ (fP_ (dT_ (T := .int) zv0) (fP_ (jL_ (dT_ (T := .bool) zv0)) (hP_ i6_ i6_ zv1 zv0 zv2)))))⟩
theorem fu_ (T : Txt w K mg) : FnOk P w K mg base CX0 2 T.a_is_house T.d_is_house ["value"] (dO_ K 1 g_is_house) := by
 refine cR_ T.F_is_house h6_ (fun cdv A outer s H E as hr => ?_)
 exact ⟨_, (pss_one (ps_ret (pe_call (dp_ T) (zrm hr) rfl T.m_is_within T.F_is_within.kp T.b_is_within .nil pass0 (pa_cons (pv 0) (pa_cons pe_int (pa_cons (pe_glob (v := .int (19)) rfl T.c_LAST_NAME ⟨_, rfl⟩) pa_nil)))))),
  fun W => (a4_ (aD_ (ac_ zv0 (ac_ (p_c (d := .int 0)) (ac_ (p_c (d := .int 19)) ar_))) (al_ (al_ (al_ aB_)))))⟩
theorem hu_ (T : Txt w K mg) : FnOk P w K mg base CX0 3 T.a_is_owners T.d_is_owners ["value"] (dO_ K 1 g_is_owners) := by
 refine cR_ T.F_is_owners sc_is_owners (fun cdv A outer s H E as hr => ?_)
 exact ⟨_, (pss_one (ps_ret (pe_and (pe_callB (r := rIsi K) call_isi (by rfl) T.n_isinstance (by decide +kernel) (pa_cons (pv 0) (pa_cons (pe_bltn (v := .ty "tuple") (u := .type "tuple") (by rfl) T.n_tuple (by decide +kernel) rfl) pa_nil))) (pe_and (pe_cmpR op_eq (pe_callB (r := dE_ K) a5_ (by rfl) T.n_len PySem.boot_len (pa_cons (pv 0) pa_nil)) (pe_glob (v := .int (12)) rfl T.c_SLOTS ⟨_, rfl⟩) (nomark _)) (pe_one (pe_callB (r := rAll K) (cr_all rfl) (by rfl) T.n_all (by decide +kernel) (pa_cons (pe_lc (own := [("owner", 1)]) rfl sc_is_owners.nd (pi_tup (pv 0)) (blkOk_by (N := ["value", "owner"]) (sc := defScope cV_) (by decide +kernel)) (fun _ _ _ _ _ => pg_name (i := 1) sc_is_owners.nd rfl (Or.inl rfl)) (fun _ _ _ _ _ => pts_nil) (fun _ _ _ _ _ => (pe_call (fu_ T) (zrm hr) rfl T.m_is_house T.F_is_house.kp T.b_is_house .nil pass0 (pa_cons (pv 1) pa_nil)))) pa_nil))))))),
  fun W => (a4_ (g5_ (aq_ (dT_ (T := .tuple) zv0)) (g5_ (aq_ (bm_ dS_ (dU_ zv0) (p_c (d := .int 12)))) (or_ mg_ (jQ_ (by decide) (ot_ zv0) (fun _ => fj_) (fun _ => (aD_ (ac_ zv1 ar_) (al_ aB_))))))))⟩
theorem eg_ (T : Txt w K mg) : FnOk P w K mg base CX0 4 T.a_is_edition T.d_is_edition ["value"] (dO_ K 1 g_is_edition) := by
 refine cR_ T.F_is_edition sc_is_edition (fun cdv A outer s H E as hr => ?_)
 exact ⟨_, (pss_cons (ps_if (PW.pt (pw_or (pt_not (pt_val (pe_callB (r := rIsi K) call_isi (by rfl) T.n_isinstance (by decide +kernel) (pa_cons (pv 0) (pa_cons (pe_bltn (v := .ty "tuple") (u := .type "tuple") (by rfl) T.n_tuple (by decide +kernel) rfl) pa_nil))))) (pw_or1 (pt_cmpR op_ne (pe_callB (r := dE_ K) a5_ (by rfl) T.n_len PySem.boot_len (pa_cons (pv 0) pa_nil)) pe_int (nomark _))))) (pss_one (ps_ret pe_bl)) pss_nil)
  (pss_cons (ps_asg (pv 0) (pg_tup rfl (pgs_cons (pg_name (i := 1) sc_is_edition.nd rfl (Or.inl rfl)) (pgs_cons (pg_name (i := 2) sc_is_edition.nd rfl (Or.inl rfl)) (pgs_cons (pg_name (i := 3) sc_is_edition.nd rfl (Or.inl rfl)) pgs_nil)))))
  (pss_cons (ps_if (PW.pt (pw_and (pt_cmpR op_notN (pv 2) pe_non (nomark _)) (pw_and1 (pt_not (pt_val (pe_call (dp_ T) (zrm hr) rfl T.m_is_within T.F_is_within.kp T.b_is_within .nil pass0 (pa_cons (pv 2) (pa_cons pe_int (pa_cons (pe_glob (v := .int (1000000)) rfl T.c_LAST_NUMBER ⟨_, rfl⟩) pa_nil))))))))) (pss_one (ps_ret pe_bl)) pss_nil)
  (pss_one (ps_ret (pe_and (pe_call (dp_ T) (zrm hr) rfl T.m_is_within T.F_is_within.kp T.b_is_within .nil pass0 (pa_cons (pv 1) (pa_cons pe_int (pa_cons (pe_glob (v := .int (1000000)) rfl T.c_LAST_NUMBER ⟨_, rfl⟩) pa_nil)))) (pe_one (pe_call (hu_ T) (zrm hr) rfl T.m_is_owners T.F_is_owners.kp T.b_is_owners .nil pass0 (pa_cons (pv 3) pa_nil))))))))),
  fun W => (aw_ (d5_ (aP_ (li_ (lj_ (mb_ (dT_ (T := .tuple) zv0))) (aN_ (bm_ gh_ (dU_ zv0) (p_c (d := .int 3)))))) (a4_ (aq_ (p_c (d := .bool false)))) a6_)
  (aw_ (ln_ (lm_ (bD_ (br_ (i := 1) (by decide)) (bD_ (br_ (i := 2) (by decide)) (bD_ (br_ (i := 3) (by decide)) fT_)))) (aq_ zv0))
  (aw_ (d5_ (mV_ (aP_ (aN_ (bm_ jN_ zv2 (p_c (d := .none))))) (gd_ (lk_ (aD_ (ac_ zv2 (ac_ (p_c (d := .int 0)) (ac_ (p_c (d := .int 1000000)) ar_))) (al_ (al_ (al_ aB_))))))) (a4_ (aq_ (p_c (d := .bool false)))) a6_)
  (a4_ (g5_ (aD_ (ac_ zv1 (ac_ (p_c (d := .int 1)) (ac_ (p_c (d := .int 1000000)) ar_))) (al_ (al_ (al_ aB_)))) (aD_ (ac_ zv3 ar_) (al_ aB_)))))))⟩
theorem e1_ (T : Txt w K mg) : FnOk P w K mg base (L2.CX P w) 5 T.a_check_edition T.d_check_edition ["edition"] (hj_ K 1 g_check_edition) := by
 refine iE_ T.F_check_edition cZ_ (fun cdv A outer s H E as hr => ?_)
 exact ⟨_, (pss_one (ps_if (pt_not (pt_val (pe_call (eg_ T) (zrm hr) rfl T.m_is_edition T.F_is_edition.kp T.b_is_edition .nil pass0 (pa_cons (pv 0) pa_nil)))) (pss_one (ps_raise rfl (takes_of rfl rfl rfl rfl) (pmk_own PySem.F.excBase_ValueError T.x_BadEdition T.g_BadEdition T.kp_BadEdition (raises_own T.eb_BadEdition T.et_BadEdition) rfl))) pss_nil)),
  (d5_ (gd_ (lk_ (aD_ (ac_ zv0 ar_) (al_ aB_)))) (nc_ T.k_BadEdition) a6_)⟩
theorem ex_ (T : Txt w K mg) : FnOk P w K mg base CX0 5 T.a_check_edition T.d_check_edition ["edition"] (dO_ K 1 c0_) := by
 refine cR_ T.F_check_edition cZ_ (fun cdv A outer s H E as hr => ?_)
 exact ⟨_, (pss_one (ps_if (pt_not (pt_val (pe_call (eg_ T) (zrm hr) rfl T.m_is_edition T.F_is_edition.kp T.b_is_edition .nil pass0 (pa_cons (pv 0) pa_nil)))) (pss_one ps_never) pss_nil)),
  fun W => (d5_ (gd_ (lk_ (aD_ (ac_ zv0 ar_) (al_ aB_)))) mW_ a6_)⟩
theorem c1_ (T : Txt w K mg) : FnOk P w K mg base CX0 1 T.a_written_steps T.d_written_steps ["steps"] (dO_ K 1 g_written_steps) := by
 refine cR_ T.F_written_steps sc_written_steps (fun cdv A outer s H E as hr => ?_)
 exact ⟨_, (pss_one (ps_ret (hJ_ (t := fun K => tM1 (fn_ K) _ _) (pe_join pe_str (pe_lc (own := [("step", 1)]) rfl sc_written_steps.nd (pi_list (pv 0)) (blkOk_by (N := ["steps", "step", "part"]) (sc := defScope bv_) (by decide +kernel)) (fun _ _ _ _ _ => pg_name (i := 1) sc_written_steps.nd rfl (Or.inl rfl)) (fun _ _ _ _ _ => pts_nil) (fun _ _ _ _ _ => (hJ_ (t := fun K => tM1 (fn_ K) _ _) (pe_join pe_str (pe_lc (own := [("part", 2)]) rfl sc_written_steps.nd (pi_tup (pv 1)) (blkOk_by (N := ["steps", "step", "part"]) (sc := relS { kind := ScopeKind.function, names := [(".0", NameKind.local), ("step", NameKind.local)], isGenerator := false, isCoroutine := false, more := [] } (defScope bv_)) (by decide +kernel)) (fun _ _ _ _ _ => pg_name (i := 2) sc_written_steps.nd rfl (Or.inl rfl)) (fun _ _ _ _ _ => pts_nil) (fun _ _ _ _ _ => (pe_callTy gs_ (by rfl) T.n_str (by decide +kernel) (pa_cons (pv 2) pa_nil)))))))))))),
  fun W => (a4_ (fY_ (p_c (d := .str "\n")) (jQ_ (by decide) (gj_ zv0) (fun _ => fj_) (fun _ => (fY_ (p_c (d := .str " ")) (jQ_ (by decide) (ot_ zv1) (fun _ => fj_) (fun _ => (aq_ (hS_ ke_ (ac_ zv2 ar_))))))))))⟩
theorem hv_ (T : Txt w K mg) : FnOk P w K mg base (L2.CX P w) 3 T.a_read_step T.d_read_step ["place", "row"] (hj_ K 2 g_read_step) := by
 refine iE_ T.F_read_step sc_read_step (fun cdv A outer s H E as hr => ?_)
 exact ⟨_, (pss_cons (ps_asg (pe_split (pv 1) pe_str) (NX.pg_star (n := 1) rfl (pgs_cons (pg_name (i := 2) sc_read_step.nd rfl (Or.inl rfl)) (NX.pgs_star (pg_name (i := 3) sc_read_step.nd rfl (Or.inl rfl)) pgs_nil))))
  (pss_cons (ps_if (PW.pt (pw_or (pt_cmpR (r := rNeD K) (op_neD hr.units) (NX.pe_kget1 T.kd_NUMBERS.choose_spec.choose_spec (pe_glob (v := .ref T.a_NUMBERS) rfl T.g_NUMBERS rfl) (pv 2) ⟨rfl, rfl, rfl, rfl⟩) (pe_callB (r := dE_ K) a5_ (by rfl) T.n_len PySem.boot_len (pa_cons (pv 3) pa_nil)) (nomark _)) (pw_or1 (pt_not (pt_val (pe_callB (r := rAll K) (cr_all rfl) (by rfl) T.n_all (by decide +kernel) (pa_cons (pe_lc (own := [("number", 5)]) rfl sc_read_step.nd (pi_list (pv 3)) (blkOk_by (N := ["place", "row", "word", "numbers", "values", "number"]) (sc := defScope cj_) (by decide +kernel)) (fun _ _ _ _ _ => pg_name (i := 5) sc_read_step.nd rfl (Or.inl rfl)) (fun _ _ _ _ _ => pts_nil) (fun _ _ _ _ _ => (pe_call (ht_ T) (zrm hr) rfl T.m_is_signed T.F_is_signed.kp T.b_is_signed .nil pass0 (pa_cons (pv 5) pa_nil)))) pa_nil))))))) (pss_one (ps_raise rfl (takes_of rfl rfl rfl rfl) (pmk_oex T.ox_BadText T.iC_BadText T.tI_BadText (cl_ (w := w) (P := P) (base := base) T) (zrm hr) T.b_BadText_init .nil pass0 rfl T.g_BadText (pa_cons (pv 0) pa_nil)))) pss_nil)
  (pss_cons (ps_setLc (i := 4) (own := [("number", 5)]) rfl sc_read_step.nd rfl rfl (sw_true rfl rfl rfl (by decide +kernel)) (pi_list (pv 3)) (blkOk_by (N := ["place", "row", "word", "numbers", "values", "number"]) (sc := defScope cj_) (by decide +kernel)) (fun _ _ _ _ _ => pg_name (i := 5) sc_read_step.nd rfl (Or.inl rfl)) (fun _ _ _ _ _ => pts_nil) (fun _ _ _ _ _ => (pe_callTy call_int_str (by rfl) T.n_int (by decide +kernel) (pa_cons (pv 5) pa_nil))))
  (pss_one (ps_ret (a1_ (pa_cons (pv 2) (StX.pa_star (pv 4) pa_nil)))))))),
  (aw_ (mr_ (k := 1) (bD_ (br_ (by decide)) (bD_ (br_ (by decide)) fT_)) (aq_ (dj_ zv1 (p_c (d := .str " ")))))
  (aw_ (d5_ (p2_ (aP_ (aN_ (bm_ me_ (qi_ T.kt_NUMBERS zv2) (dU_ zv3)))) (gd_ (lk_ (or_ mg_ (jQ_ (by decide) (gj_ zv3) (fun _ => fj_) (fun _ => (aD_ (ac_ zv5 ar_) (al_ aB_)))))))) (gw_ T.k_BadText zv0) a6_)
  (aw_ (c4_ (by decide) (jQ_ (by decide) (gj_ zv3) (fun _ => fj_) (fun _ => (aq_ (hS_ fo_ (ac_ zv5 ar_))))))
  (a4_ (aq_ (de_ (ac_ zv2 (j8_ zv4 ar_))))))))⟩
theorem eh_ (T : Txt w K mg) : FnOk P w K mg base (L2.CX P w) 4 T.a_read_steps T.d_read_steps ["text"] (hj_ K 1 g_read_steps) := by
 refine iE_ T.F_read_steps sc_read_steps (fun cdv A outer s H E as hr => ?_)
 exact ⟨_, (pss_cons (ps_set (i := 1) sc_read_steps.nd rfl (Or.inl rfl) (pe_ifExp (pt_truth (pv 0) (by intro _; rfl)) (pe_split (pv 0) pe_str) (pe_lst pa_nil)))
  (pss_one (ps_ret (oJ_ (own := [("place", 2), ("row", 3)]) rfl rfl (takes_of rfl rfl rfl rfl) rfl sc_read_steps.nd (pi_enum (by rfl) T.n_enumerate (pa_cons (pv 1) pa_nil)) (blkOk_by (N := ["text", "rows", "place", "row"]) (sc := defScope cA_) (by decide +kernel)) (fun _ _ _ _ _ => pg_tup rfl (pgs_cons (pg_name (i := 2) sc_read_steps.nd rfl (Or.inl rfl)) (pgs_cons (pg_name (i := 3) sc_read_steps.nd rfl (Or.inl rfl)) pgs_nil))) (fun _ _ _ _ _ => pts_nil) (fun _ _ _ _ _ _ _ ps => (pe_callS (hv_ T) (zrm hr) rfl T.m_read_step T.F_read_step.kp T.b_read_step ps (pa_cons (pv 2) (pa_cons (pv 3) pa_nil)))))))),
  (aw_ (aR_ (by decide) (i5_ (oY_ zv0) (dj_ zv0 (p_c (d := .str "\n"))) (bZ_ ar_)))
  (oD_ (oX_ (js := [2, 3]) (by decide) zv1 (iI_ (j7_ (i := 2) (by decide) (by decide)) (iI_ (j7_ (i := 3) (by decide) (by decide)) nd_)) (fun _ => fj_) (fun _ _ => (iF_ (ac_ zv2 (ac_ zv3 ar_)) (al_ (al_ aB_)))))))⟩
theorem fK_ (T : Txt w K mg) : FnOk P w K mg base CX0 4 T.a_read_steps T.d_read_steps ["text"] (dO_ K 1 g_read_stepsN) := qh_ (eh_ T)
theorem jl_ (T : Txt w K mg) : FnOk P w K mg base CX0 6 T.a_written T.d_written ["edition"] (dO_ K 1 g_written) := by
 refine cR_ T.F_written sc_written (fun cdv A outer s H E as hr => ?_)
 exact ⟨_, (pss_cons (ps_expr (pe_call (ex_ T) (zrm hr) rfl T.m_check_edition T.F_check_edition.kp T.b_check_edition .nil pass0 (pa_cons (pv 0) pa_nil)))
  (pss_cons (ps_asg (pv 0) (pg_tup rfl (pgs_cons (pg_name (i := 1) sc_written.nd rfl (Or.inl rfl)) (pgs_cons (pg_name (i := 2) sc_written.nd rfl (Or.inl rfl)) (pgs_cons (pg_name (i := 3) sc_written.nd rfl (Or.inl rfl)) pgs_nil)))))
  (pss_cons (ps_set (i := 4) sc_written.nd rfl (Or.inl rfl) (pe_lst (pa_cons (pv 1) (pa_cons (pe_ifExp (pt_cmpR op_isN (pv 2) pe_non (nomark _)) (pe_glob (v := .str "-") rfl T.c_NO_MAKE ⟨_, rfl⟩) (pv 2)) (StX.pa_star (pv 3) pa_nil)))))
  (pss_one (ps_ret (hJ_ (t := fun K => tM1 (fn_ K) _ _) (pe_join pe_str (pe_lc (own := [("word", 5)]) rfl sc_written.nd (pi_list (pv 4)) (blkOk_by (N := ["edition", "number", "make", "owners", "words", "word"]) (sc := defScope ef_) (by decide +kernel)) (fun _ _ _ _ _ => pg_name (i := 5) sc_written.nd rfl (Or.inl rfl)) (fun _ _ _ _ _ => pts_nil) (fun _ _ _ _ _ => (pe_callTy gs_ (by rfl) T.n_str (by decide +kernel) (pa_cons (pv 5) pa_nil))))))))))),
  fun W => (aw_ (fQ_ (aD_ (ac_ zv0 ar_) (al_ aB_)))
  (aw_ (ln_ (lm_ (bD_ (br_ (i := 1) (by decide)) (bD_ (br_ (i := 2) (by decide)) (bD_ (br_ (i := 3) (by decide)) fT_)))) (aq_ zv0))
  (aw_ (aR_ (by decide) (bZ_ (ac_ zv1 (ac_ (i5_ (aN_ (bm_ g4_ zv2 (p_c (d := .none)))) (p_c (d := .str "-")) zv2) (j8_ zv3 ar_)))))
  (a4_ (fY_ (p_c (d := .str " ")) (jQ_ (by decide) (gj_ zv4) (fun _ => fj_) (fun _ => (aq_ (hS_ ke_ (ac_ zv5 ar_))))))))))⟩
theorem hw_ (T : Txt w K mg) : FnOk P w K mg base CX0 3 T.a_can_stand T.d_can_stand ["word", "place"] (dO_ K 2 g_can_stand) := by
 refine cR_ T.F_can_stand hs_ (fun cdv A outer s H E as hr => ?_)
 exact ⟨_, (pss_cons (ps_if (pt_cmpR op_eq (pv 0) (pe_glob (v := .str "-") rfl T.c_NO_MAKE ⟨_, rfl⟩) (nomark _)) (pss_one (ps_ret (pe_cmpR op_eq (pv 1) (pe_glob (v := .int (1)) rfl T.c_MAKE_PLACE ⟨_, rfl⟩) (nomark _)))) pss_nil)
  (pss_one (ps_ret (pe_and (pe_call (d2_ T) (zrm hr) rfl T.m_is_plain T.F_is_plain.kp T.b_is_plain .nil pass0 (pa_cons (pv 0) pa_nil)) (pe_one (pe_or (pe_cmpR op_lt (pv 1) (pe_glob (v := .int (2)) rfl T.c_FIRST_OWNER ⟨_, rfl⟩) (nomark _)) (pe_one (pe_call (fu_ T) (zrm hr) rfl T.m_is_house T.F_is_house.kp T.b_is_house .nil pass0 (pa_cons (pe_callTy call_int_str (by rfl) T.n_int (by decide +kernel) (pa_cons (pv 0) pa_nil)) pa_nil))))))))),
  fun W => (aw_ (d5_ (aP_ (aN_ (bm_ dS_ zv0 (p_c (d := .str "-"))))) (a4_ (aq_ (bm_ dS_ zv1 (p_c (d := .int 1))))) a6_)
  (a4_ (g5_ (aD_ (ac_ zv0 ar_) (al_ aB_)) (p3_ (aq_ (bm_ ll_ zv1 (p_c (d := .int 2)))) (aD_ (ac_ (hS_ fo_ (ac_ zv0 ar_)) ar_) (al_ aB_))))))⟩
theorem nx_ (T : Txt w K mg) : FnOk P w K mg base (L2.CX P w) 6 T.a_read T.d_read ["text"] (hj_ K 1 g_read) := by
 refine iE_ T.F_read sc_read (fun cdv A outer s H E as hr => ?_)
 exact ⟨_, (pss_cons (ps_set (i := 1) sc_read.nd rfl (Or.inl rfl) (pe_split (pv 0) pe_str))
  (pss_cons (ps_for (passes_of rfl) rfl (pi_range1 (by rfl) T.n_range (pa_cons (pe_glob (v := .int (14)) rfl T.c_WORDS ⟨_, rfl⟩) pa_nil)) (pg_name (i := 2) sc_read.nd rfl (Or.inl rfl)) (pss_one (ps_if (PW.pt (pw_or (pt_cmpR op_eq (pv 2) (pe_callB (r := dE_ K) a5_ (by rfl) T.n_len PySem.boot_len (pa_cons (pv 1) pa_nil)) (nomark _)) (pw_or1 (pt_not (pt_val (pe_call (hw_ T) (zrm hr) rfl T.m_can_stand T.F_can_stand.kp T.b_can_stand .nil pass0 (pa_cons (pe_ix (r := rIxL K) ix_list (pv 1) (pv 2) (fun _ _ => rfl)) (pa_cons (pv 2) pa_nil)))))))) (pss_one (ps_raise rfl (takes_of rfl rfl rfl rfl) (pmk_oex T.ox_BadText T.iC_BadText T.tI_BadText (cl_ (w := w) (P := P) (base := base) T) (zrm hr) T.b_BadText_init .nil pass0 rfl T.g_BadText (pa_cons (pv 2) pa_nil)))) pss_nil)))
  (pss_cons (ps_if (pt_cmpR op_gt (pe_callB (r := dE_ K) a5_ (by rfl) T.n_len PySem.boot_len (pa_cons (pv 1) pa_nil)) (pe_glob (v := .int (14)) rfl T.c_WORDS ⟨_, rfl⟩) (nomark _)) (pss_one (ps_raise rfl (takes_of rfl rfl rfl rfl) (pmk_oex T.ox_BadText T.iC_BadText T.tI_BadText (cl_ (w := w) (P := P) (base := base) T) (zrm hr) T.b_BadText_init .nil pass0 rfl T.g_BadText (pa_cons (pe_glob (v := .int (14)) rfl T.c_WORDS ⟨_, rfl⟩) pa_nil)))) pss_nil)
  (pss_cons (ps_asg (pe_lc (own := [("word", 7)]) rfl sc_read.nd (pi_list (pv 1)) (blkOk_by (N := ["text", "words", "place", "number", "make", "owners", "edition", "word"]) (sc := defScope iP_) (by decide +kernel)) (fun _ _ _ _ _ => pg_name (i := 7) sc_read.nd rfl (Or.inl rfl)) (fun _ _ _ _ _ => pts_nil) (fun _ _ _ _ _ => (pe_ifExp (pt_cmpR op_eq (pv 7) (pe_glob (v := .str "-") rfl T.c_NO_MAKE ⟨_, rfl⟩) (nomark _)) pe_non (pe_callTy call_int_str (by rfl) T.n_int (by decide +kernel) (pa_cons (pv 7) pa_nil))))) (NX.pg_star (n := 2) rfl (pgs_cons (pg_name (i := 3) sc_read.nd rfl (Or.inl rfl)) (pgs_cons (pg_name (i := 4) sc_read.nd rfl (Or.inl rfl)) (NX.pgs_star (pg_name (i := 5) sc_read.nd rfl (Or.inl rfl)) pgs_nil)))))
  (pss_cons (ps_set (i := 6) sc_read.nd rfl (Or.inl rfl) (a1_ (pa_cons (pv 3) (pa_cons (pv 4) (pa_cons (pe_callTy (r := jI_ K) hM_ (by rfl) T.n_tuple (by decide +kernel) (pa_cons (pv 5) pa_nil)) pa_nil)))))
  (pss_cons (ps_expr (pe_callS (e1_ T) (zrm hr) rfl T.m_check_edition T.F_check_edition.kp T.b_check_edition (fun σ => passAt (takes_of rfl rfl rfl rfl) σ) (pa_cons (pv 6) pa_nil)))
  (pss_one (ps_ret (pv 6))))))))),
  (aw_ (aR_ (by decide) (dj_ zv0 (p_c (d := .str " "))))
  (aw_ (gk_ (ep_ (p_c (d := .int 14))) (br_ (i := 2) (by decide)) (fun _ => (d5_ (p2_ (aP_ (aN_ (bm_ dS_ zv2 (dU_ zv1)))) (gd_ (lk_ (aD_ (ac_ (bt_ zv1 zv2) (ac_ zv2 ar_)) (al_ (al_ aB_)))))) (gw_ T.k_BadText zv2) a6_)))
  (aw_ (d5_ (aP_ (aN_ (bm_ g3_ (dU_ zv1) (p_c (d := .int 14))))) (gw_ T.k_BadText (p_c (d := .int 14))) a6_)
  (aw_ (mr_ (k := 2) (bD_ (br_ (by decide)) (bD_ (br_ (by decide)) (bD_ (br_ (by decide)) fT_))) (jQ_ (by decide) (gj_ zv1) (fun _ => fj_) (fun _ => (aq_ (i5_ (aN_ (bm_ dS_ (bB_ (i := 7) (by decide)) (p_c (d := .str "-")))) (p_c (d := .none)) (hS_ fo_ (ac_ (bB_ (i := 7) (by decide)) ar_)))))))
  (aw_ (aR_ (by decide) (de_ (ac_ zv3 (ac_ zv4 (ac_ (p8_ gm_ (ac_ zv5 ar_)) ar_)))))
  (aw_ (nb_ (iF_ (ac_ zv6 ar_) (al_ aB_)))
  (a4_ (hf_ (i := 6) (by decide)))))))))⟩
end
end K20
namespace K19
open PySem PySem.Spec PyProof.Rows L2 Mv
end K19
namespace NX
open PySem PySem.Spec PyProof.Rows L2
def eqb (b : Bool) : Value -> Bool | .bool c => c == b | _ => false
theorem hx_ {b : Bool} : ∀ {us : List Value} {bs : List Bool}, Vals (bs.map V.bl) us -> us.countP (eqb b) = bs.count b
 | _, [], .nil => rfl
 | _, c :: bs, .cons r t => by
  obtain rfl := r
  rw [List.countP_cons, List.count_cons, hx_ t] <;> rfl
theorem ku_ {A : Around} {s : Shared} {b : Bool} {us : List Value} {bs : List Bool} (r : Vals (bs.map V.bl) us) : ∀ y ∈ us, SeqAt.EqAt A s y (.bool b) (eqb b y) := by
 induction bs generalizing us with
 | nil => cases r; intro y m; cases m
 | cons c bs ih => cases r with
  | cons r t =>
   obtain rfl := r
   intro y m
   rcases List.mem_cons.mp m with rfl | m
   ·exact SeqAt.EqAt.bool_bool c b
   ·exact ih t y m
section
variable {X : Cx}
def rCntB (K : PySem.W.Frag) : V -> List V -> Hp -> VK -> Prop := fun x xs H Q => ∃ (p : Addr) (bs : List Bool) (b : Bool), x = .ref p /\ xs = [.bl b] /\ SqL K H p (bs.map V.bl) /\ Q (.int (bs.count b : Nat)) H
theorem mt_lcountB : MtR X "list.count" (rCntB X.K) := by
 intro pins s σ H x xs v us Q I rx rxs h
 obtain ⟨p, bs, b, rfl, rfl, hs, q⟩ := h
 cases rx
 obtain ⟨u, rfl, ru⟩ := rxs.one
 obtain rfl := ru
 obtain ⟨its, rv, ⟨⟨cls, dd, data, sl⟩, n, ho, hc, hdn, hd⟩, hlen⟩ := I.list hs
 simp only at hc hd
 subst hc hd
 refine call_meets PySem.F.slot_list_count ⟨_, ho, rfl⟩ PySem.F.entry_list_count (PySem.F.args_list_count_2 _ _)
  (SeqAt.list_countAt p its.toArray n dd sl (.bool b) (eqb b)) ⟨ho, fun y hy => ku_ rv y (by simpa using hy), ?_⟩
 refine ⟨.int (bs.count b : Nat), H, I.tok _, ⟨s.toks, ?_⟩, q⟩
 show Value.int ((its.toArray.toList.countP (eqb b) : Nat) : Int) s.toks = Value.int ((bs.count b : Nat) : Int) s.toks
 rw [show its.toArray.toList.countP (eqb b) = bs.count b from hx_ rv]
end
end NX
namespace Mv
open PySem PySem.Spec PyProof.Rows L2 NX CLX
section
variable {K : PySem.W.Frag} {F F' F1 F2 H H' H1 H2 : Hp} {v u x y : V} {vs ws us : List V} {s t : S} {ss tts : List S} {n : Nat} {as : Ro} {E E' : En} {fp fq : List Addr}
def ey_ : S -> S -> Option (S × S)
 | .lst ss, .dat (.bool i) => match bc_ ss with
  | some ds => match bq_ ds with
   | some ns => if i ∈ ns /\ ss.length < 100000 then some (.lst ss, .dat (.int (ns.idxOf i : Nat))) else none
   | none => none
  | none => none
 | _, _ => none
theorem ny_ {i : Bool} : ∀ {ns : List Bool}, i ∈ ns -> ns[ns.idxOf i]? = some i /\ ∀ m z, m < ns.idxOf i -> ns[m]? = some z -> z ≠ i := by
 intro ns m
 have h1 : ns.idxOf i < ns.length := List.idxOf_lt_length_iff.mpr m
 refine ⟨by rw [List.getElem?_eq_getElem h1, List.getElem_idxOf], fun j z hj hz e => ?_⟩
 subst e
 have hj2 := (List.getElem?_eq_some_iff.mp hz).1
 have := List.not_of_lt_findIdx (xs := ns) (p := fun x => x == z) (i := j) (by unfold List.idxOf at hj; exact hj)
 rw [(List.getElem?_eq_some_iff.mp hz).2] at this
 simp at this
theorem d3_ : ∀ {ds : List PyData} {xs : List V} {ns : List Bool}, DqAll K H xs ds -> bq_ ds = some ns -> xs = ns.map V.bl
 | [], _, _, .nil, e => by cases e; rfl
 | .bool i :: ds, _, _, .cons (.bl _) t, e => by
  simp only [bq_] at e
  obtain ⟨r, hr, rfl⟩ := Option.map_eq_some_iff.mp e
  rw [d3_ t hr]; rfl
 | .none :: _, _, _, _, e => by simp [bq_] at e
 | .int _ :: _, _, _, _, e => by simp [bq_] at e
 | .str _ :: _, _, _, _, e => by simp [bq_] at e
 | .list _ :: _, _, _, _, e => by simp [bq_] at e
 | .tuple _ :: _, _, _, _, e => by simp [bq_] at e
theorem hy_ : Nd1 K (fun u y H Q => rIndex K u [y] H Q) ey_ := by
 intro F H u y t s t' c fp1 fr sub ot os nd of e Q q
 unfold ey_ at e
 split at e
 ·next ss i =>
  split at e
  ·next ds hds =>
   split at e
   ·next ns hns =>
    split at e
    ·next hi =>
     cases e
     obtain ⟨hd, rfl⟩ := os.dat_inv rfl
     cases hd
     obtain ⟨a, vs, rfl, hH, da⟩ := ot.sqL sub (show (S.lst ss).seqL = some ds from hds)
     have hv := d3_ da hns
     obtain ⟨g1, g2⟩ := ny_ hi.1
     have fl : ∀ ns : List Bool, (ns.map V.bl).all flatV = true := fun ns => by
      rw [List.all_eq_true]
      intro z m
      obtain ⟨k, _, rfl⟩ := List.mem_map.mp m
      rfl
     refine ⟨a, vs, .bl i, ns.idxOf i, .bl i, rfl, rfl, hH, rfl, by rw [hv]; exact fl ns, by rw [hv, List.getElem?_map, g1]; rfl, ?_, fun m z' hm hz => ?_, ?_⟩
     ·simp [eqV]
     ·rw [hv, List.getElem?_map] at hz
      obtain ⟨z, hz1, rfl⟩ := Option.map_eq_some_iff.mp hz
      have := g2 m z hm hz1
      simp [eqV, this]
     ·rw [List.nil_append] at nd of
      refine q _ F H [] fp1 (by rw [List.nil_append]; exact .refl sub fp1) ot (.dat (.int _)) (by rw [List.nil_append]; exact nd) (by rw [List.nil_append]; exact of)
    ·cases e
   ·cases e
  ·cases e
 ·cases e
def fL_ : S -> S -> Option (S × S)
 | .lst ss, .dat (.bool i) => match bc_ ss with
  | some ds => match bq_ ds with
   | some ns => some (.lst ss, .dat (.int (ns.count i : Nat)))
   | none => none
  | none => none
 | _, _ => none
theorem kv_ : Nd1 K (fun u y H Q => rCntB K u [y] H Q) fL_ := by
 intro F H u y t s t' c fp1 fr sub ot os nd of e Q q
 unfold fL_ at e
 split at e
 ·next ss i =>
  split at e
  ·next ds hds =>
   split at e
   ·next ns hns =>
    cases e
    obtain ⟨hd, rfl⟩ := os.dat_inv rfl
    cases hd
    obtain ⟨a, vs, rfl, hH, da⟩ := ot.sqL sub (show (S.lst ss).seqL = some ds from hds)
    have hv := d3_ da hns
    refine ⟨a, ns, i, rfl, rfl, by rw [<- hv]; exact hH, ?_⟩
    rw [List.nil_append] at nd of
    exact q _ F H [] fp1 (by rw [List.nil_append]; exact .refl sub fp1) ot (.dat (.int _)) (by rw [List.nil_append]; exact nd) (by rw [List.nil_append]; exact of)
   ·cases e
  ·cases e
 ·cases e
def cM_ (i : Nat) (a : Addr) (b : Bool) (E : En) : Option Rs := match E[i]? with
 | some (.own (.con (.ref a'))) => if a' = a then some (.val (.dat (.bool b))) else none
 | _ => none
theorem nz_ {i : Nat} {a : Addr} {b : Bool} (h : E[i]? = some (.own (.con (.ref a)))) : cM_ i a b E = some (.val (.dat (.bool b))) := by
 unfold cM_
 rw [h]
 exact if_pos rfl
theorem ez_ {i : Nat} {a D : Addr} {c : V} {cv : Value} {b : Bool} (hi : i < n) (hc : ∀ u, RelV c u -> u = cv) (hk : PySem.W.kitOne K (.ref D) cv = some b) :
  EvP K n as (tCB (rIsE K D a) (tCons (tVar i) (tCons (tC c) tNil))) (cM_ i a b) := by
 intro F H σ E fp L R r e Q q
 unfold cM_ at e
 split at e
 ·next a' ee =>
  split at e
  ·next ha =>
   subst ha
   cases e
   have hv : ab_ i E = some (.val (.con (.ref a'))) := by unfold ab_; rw [ee]
   refine bB_ (K := K) (as := as) hi L R hv (fun v F1 H1 fr g1 a1 nd of => ?_)
   obtain ⟨rfl, rfl⟩ := Own.con_inv (show Own K F1 H1 v (.con (.ref a')) fr from a1) rfl
   exact ⟨c, cv, b, rfl, hc, hk, q _ F1 H1 [] g1 (.dat (.bl b)) List.nodup_nil fun _ m => nomatch m⟩
  ·cases e
 ·cases e
end
end Mv
namespace K19c
open CLX
open Gn hiding g__law_take g__law_begun d__law_take d__law_begun
open PySem PySem.Spec PyProof.Rows L2 Mv NX
end K19c
namespace K19c
open PySem PySem.Spec PyProof.Rows L2 Mv NX CLX
theorem pss_weak {X : Cx} {ts : List Stmt} {t' : TS} (h : ∀ D σ H, t' D σ H -> ∃ t, PSs X ts t /\ t D σ H) : PSs X ts t' := ⟨fun pins s σ H D I q => let ⟨_, p, r⟩ := h D σ H q; p.run pins s σ H D I r⟩
theorem passes_callL {X : Cx} {W : WX} {E : XK} (tk : Takes X W) (hW : ∀ cls d (σ : L2.St) H, σ.length = X.N.length -> E cls d H -> W cls d σ H) : Passes (L2.CX X.prog X.w) X E :=
 fun _ σ _ _ e s' I c => tk e s' (XE.of_call I (fun cls d H' h => hW cls d σ H' I.len h) c)
theorem pe_no {X : Cx} {e : Expr} : PE X e (fun _ _ _ => False) := ⟨fun _ _ _ _ _ _ h => h.elim⟩
end K19c
namespace ErrC
open PySem PySem.Spec PyProof.Rows L2 Mv NX CLX
open Gn hiding g__law_take g__law_begun d__law_take d__law_begun
def okE (K : PySem.W.Frag) (D : Addr) : Bool := decide (PySem.W.findIn K (.ref D) "__getattribute__" = some (some (.builtin "BaseException.__getattribute__"))) && (decide (PySem.W.findIn K (.ref D) "__getattr__" = some none) && (decide (PySem.W.subIn K (.ref D) (.type "BaseException") = some true) && (PySem.W.hasDictIn K D && (decide (PySem.W.findIn K (.ref D) "__class__" = some (some (.builtin "object.__class__"))) &&
 (decide (PySem.W.specialIn K (.builtin "object.__class__") "__get__" = some (some (.builtin "getset_descriptor.__get__"))) && (decide (PySem.W.takesIn K (.builtin "object.__class__") = some true) && decide (PySem.W.mroIn K D (.type "object") = some true)))))))
theorem okE.spec {K : PySem.W.Frag} {D : Addr} (h : okE K D = true) : ExcC K D := by
 unfold okE at h
 simp only [Bool.and_eq_true, decide_eq_true_eq] at h
 obtain ⟨h1, h2, h3, h4, h5, h6, h7, h8⟩ := h
 exact ⟨h1, h2, h3, h4, h5, h6, h7, h8⟩
def eAt (es : List Addr) (i : Nat) : Addr := es.getD i 0
def errChk (K : PySem.W.Frag) (es : List Addr) (D : Addr) : Bool := (List.range 12).all fun i => okE K (eAt es i) && (decide (PySem.W.kitOne K (.ref (eAt es i)) (.type "ValueError") = some true) && (decide (PySem.W.exmOne K (.ref (eAt es i)) (.ref D) = some true) &&
 (List.range 12).all fun j => decide (PySem.W.kitOne K (.ref (eAt es i)) (.ref (eAt es j)) = some (decide (i = j)))))
section
variable {K : PySem.W.Frag} {es : List Addr} {D : Addr} {i j : Nat}
theorem errChk.at (h : errChk K es D = true) (hi : i < 12) : ExcC K (eAt es i) /\ PySem.W.kitOne K (.ref (eAt es i)) (.type "ValueError") = some true /\ PySem.W.exmOne K (.ref (eAt es i)) (.ref D) = some true /\ ∀ j, j < 12 -> PySem.W.kitOne K (.ref (eAt es i)) (.ref (eAt es j)) = some (decide (i = j)) := by
 have := List.all_eq_true.mp h i (List.mem_range.mpr hi)
 simp only [Bool.and_eq_true, decide_eq_true_eq] at this
 obtain ⟨h1, h2, h3, h4⟩ := this
 refine ⟨okE.spec h1, h2, h3, fun j hj => ?_⟩
 have := List.all_eq_true.mp h4 j (List.mem_range.mpr hj)
 exact of_decide_eq_true this
end
def d_class (i : Nat) (a : Addr) : En -> Option Out := (aE_ (ap_ 1 (ba_ (aa_ (cM_ 0 a (decide (i = 0))) (aa_ (cM_ 0 a (decide (i = 1))) (aa_ (cM_ 0 a (decide (i = 2))) (aa_ (cM_ 0 a (decide (i = 3))) ai_))))))
  (aE_ (ap_ 1 (cq_ b0_ (ab_ 1) (ba_ (aa_ (cM_ 0 a (decide (i = 4))) (aa_ (cM_ 0 a (decide (i = 5))) (aa_ (cM_ 0 a (decide (i = 6))) ai_))))))
  (aE_ (ap_ 1 (cq_ b0_ (ab_ 1) (ba_ (aa_ (cM_ 0 a (decide (i = 7))) (aa_ (cM_ 0 a (decide (i = 8))) (aa_ (cM_ 0 a (decide (i = 9))) (aa_ (cM_ 0 a (decide (i = 10))) ai_)))))))
  (aE_ (cr_ (dH_ bE_ (ab_ 1) (cM_ 0 a (decide (i = 11)))))
  (aE_ (ap_ 2 (ba_ (aa_ (dC (.str "BadHouse")) (aa_ (dC (.str "Known")) (aa_ (dC (.str "NoHouse")) (aa_ (dC (.str "TooMany")) (aa_ (dC (.str "LastHouse")) (aa_ (dC (.str "BadAsker")) (aa_ (dC (.str "BadEdition")) (aa_ (dC (.str "BadAsk")) (aa_ (dC (.str "Busy")) ai_)))))))))))
  (aE_ (ap_ 2 (cq_ b0_ (ab_ 2) (ba_ (aa_ (dC (.str "NoLetter")) (aa_ (dC (.str "BadCount")) (aa_ (dC (.str "BadText")) ai_))))))
  (aY_ (hg_ (gc_ (bb_ (eOp bP_ (dH_ fL_ (ab_ 1) (dC (.bool true))) (ae_ (dC (.int 1))))) (ao_ (aj_ (cM_ 0 a true)))) (bh_ (an_ (ab_ 2) (af_ (dH_ ey_ (ab_ 1) (dC (.bool true))) aJ_)) fun k => aT_ k 2 (ae_ (aC_ (dGh k 0) (dGh k 1)))) (ae_ (dC (.str "")))))))))))
def eC (a : Addr) (k w : Sl) (G : En) : En := [.own (.con (.ref a)), k, w, .own (.con (.ref a))] ++ G
def lB (bs : List Bool) : S := dL PyData.bool bs
def lS (ss : List Str) : S := dL PyData.str ss
def fl (i m : Nat) : List Bool := (List.range m).map fun j => decide (i = j)
theorem i12 {i : Nat} (h : i < 12) : i = 0 ∨ i = 1 ∨ i = 2 ∨ i = 3 ∨ i = 4 ∨ i = 5 ∨ i = 6 ∨ i = 7 ∨ i = 8 ∨ i = 9 ∨ i = 10 ∨ i = 11 := by omega
theorem worth_class {i : Nat} (hi : i < 12) (a : Addr) : ∃ E', d_class i a (entry 3 [.con (.ref a)]) = some (.rt (.dat (.str (cQ_ (11 + i)))) E') := by
 have isE : ∀ (b : Bool) (k w : Sl) (G : En), cM_ 0 a b (eC a k w G) = some (.val (.dat (.bool b))) := fun b k w G => nz_ rfl
 have s1 : ap_ 1 (ba_ (aa_ (cM_ 0 a (decide (i = 0))) (aa_ (cM_ 0 a (decide (i = 1))) (aa_ (cM_ 0 a (decide (i = 2))) (aa_ (cM_ 0 a (decide (i = 3))) ai_))))) (eC a .no .no []) = some (.nx (eC a (.own (lB (fl i 4))) .no [])) := by
  unfold ap_ ba_
  rw [am_ (isE _ _ _ _) (am_ (isE _ _ _ _) (am_ (isE _ _ _ _) (am_ (isE _ _ _ _) rfl)))]
  rfl
 have s2 : ap_ 1 (cq_ b0_ (ab_ 1) (ba_ (aa_ (cM_ 0 a (decide (i = 4))) (aa_ (cM_ 0 a (decide (i = 5))) (aa_ (cM_ 0 a (decide (i = 6))) ai_))))) (eC a (.own (lB (fl i 4))) .no []) = some (.nx (eC a (.own (lB (fl i 7))) .no [])) := by
  have l : ba_ (aa_ (cM_ 0 a (decide (i = 4))) (aa_ (cM_ 0 a (decide (i = 5))) (aa_ (cM_ 0 a (decide (i = 6))) ai_))) (eC a (.own (lB (fl i 4))) .no []) = some (.val (lB [decide (i = 4), decide (i = 5), decide (i = 6)])) := by
   unfold ba_
   rw [am_ (isE _ _ _ _) (am_ (isE _ _ _ _) (am_ (isE _ _ _ _) rfl))]
   rfl
  unfold ap_ cq_
  rw [l]
  rfl
 have s3 : ap_ 1 (cq_ b0_ (ab_ 1) (ba_ (aa_ (cM_ 0 a (decide (i = 7))) (aa_ (cM_ 0 a (decide (i = 8))) (aa_ (cM_ 0 a (decide (i = 9))) (aa_ (cM_ 0 a (decide (i = 10))) ai_)))))) (eC a (.own (lB (fl i 7))) .no []) = some (.nx (eC a (.own (lB (fl i 11))) .no [])) := by
  have l : ba_ (aa_ (cM_ 0 a (decide (i = 7))) (aa_ (cM_ 0 a (decide (i = 8))) (aa_ (cM_ 0 a (decide (i = 9))) (aa_ (cM_ 0 a (decide (i = 10))) ai_)))) (eC a (.own (lB (fl i 7))) .no []) = some (.val (lB [decide (i = 7), decide (i = 8), decide (i = 9), decide (i = 10)])) := by
   unfold ba_
   rw [am_ (isE _ _ _ _) (am_ (isE _ _ _ _) (am_ (isE _ _ _ _) (am_ (isE _ _ _ _) rfl)))]
   rfl
  unfold ap_ cq_
  rw [l]
  rfl
 have s4 : cr_ (dH_ bE_ (ab_ 1) (cM_ 0 a (decide (i = 11)))) (eC a (.own (lB (fl i 11))) .no []) = some (.nx (eC a (.own (lB (fl i 12))) .no [])) := by
  unfold cr_ dH_
  show (match g8_ bE_ (ab_ 1) (cM_ 0 a (decide (i = 11))) (eC a (.own (lB (fl i 11))) .no []) with | _ => _) = _
  unfold g8_
  rw [isE]
  rfl
 let W12 : S := lS ["BadHouse", "Known", "NoHouse", "TooMany", "LastHouse", "BadAsker", "BadEdition", "BadAsk", "Busy", "NoLetter", "BadCount", "BadText"]
 let E7 := eC a (.own (lB (fl i 12))) (.own W12) []
 have s7 : aY_ (hg_ (gc_ (bb_ (eOp bP_ (dH_ fL_ (ab_ 1) (dC (.bool true))) (ae_ (dC (.int 1))))) (ao_ (aj_ (cM_ 0 a true)))) (bh_ (an_ (ab_ 2) (af_ (dH_ ey_ (ab_ 1) (dC (.bool true))) aJ_)) fun k => aT_ k 2 (ae_ (aC_ (dGh k 0) (dGh k 1)))) (ae_ (dC (.str "")))) E7 = some (.rt (.dat (.str (cQ_ (11 + i)))) E7) := by
  have t : ao_ (aj_ (cM_ 0 a true)) E7 = some (true, E7) := by
   unfold ao_ aj_
   rw [show cM_ 0 a true E7 = _ from isE _ _ _ _]
   rfl
  have t2 : gc_ (bb_ (eOp bP_ (dH_ fL_ (ab_ 1) (dC (.bool true))) (ae_ (dC (.int 1))))) (ao_ (aj_ (cM_ 0 a true))) E7 = some (true, E7) := by
   have t0 : bb_ (eOp bP_ (dH_ fL_ (ab_ 1) (dC (.bool true))) (ae_ (dC (.int 1)))) E7 = some (true, E7) := by
    rcases i12 hi with rfl | rfl | rfl | rfl | rfl | rfl | rfl | rfl | rfl | rfl | rfl | rfl <;> rfl
   unfold gc_
   rw [t0]
   exact t
  unfold aY_ hg_
  rw [t2]
  rcases i12 hi with rfl | rfl | rfl | rfl | rfl | rfl | rfl | rfl | rfl | rfl | rfl | rfl <;> rfl
 refine ⟨E7, ?_⟩
 exact ad_ (E1 := eC a _ .no []) s1 (ad_ s2 (ad_ s3 (ad_ s4 (ad_ (E1 := eC a (.own (lB (fl i 12))) (.own (lS ["BadHouse", "Known", "NoHouse", "TooMany", "LastHouse", "BadAsker", "BadEdition", "BadAsk", "Busy"])) []) rfl (ad_ rfl s7)))))
end ErrC
namespace Mv
open PySem PySem.Spec PyProof.Rows L2 NX CLX
def oZ_ (K : PySem.W.Frag) (D a dd : Addr) : List V -> Hp -> VK -> Prop := fun xs H Q => ∃ (c : V) (cv : Value) (b : Bool) (fs : List (Str × V)), xs = [.ref a, c] /\ H dd = some (.xd fs) /\ (∀ u, RelV c u -> u = cv) /\ PySem.W.kitOne K (.ref D) cv = some b /\ Q (.bl b) H
theorem bg_ {X : Cx} {a D dd : Addr} {oe : Obj} (C : ExcC X.K D) (hp : (a, oe) ∈ X.pn) (hz : Zc (.ref D) (some dd) oe) (hf : ∃ vs, oe.data = .fields vs) : CallR X (.builtin "isinstance") (oZ_ X.K D a dd) := by
 intro pins s σ H xs us Q I r h
 obtain ⟨c, cv, b, fs, rfl, hdd, hcv, e, q⟩ := h
 obtain ⟨u1, ra, rx, rfl, rr⟩ : ∃ u1 ra, L2.RelV (V.ref a) u1 /\ us = u1 :: ra /\ Vals [c] ra := by
  cases r with
  | cons rx rr => exact ⟨_, _, rx, rfl, rr⟩
 obtain ⟨u2, rfl, rt⟩ := vals1 rr
 have e1 : u1 = Value.ref a := rx
 have e2 := hcv _ rt
 subst e1 e2
 have hget := (I.pin (a, oe) (List.mem_append.mpr (.inl hp))).1
 have hx : ObjOk X.prog X.w H s.heap dd (.xd fs) := I.hok dd _ hdd
 obtain ⟨mA, hns, _⟩ := hx
 obtain ⟨od, ho, _⟩ := lookIn_ns hns
 have J : PySem.W.InstAt s.heap a oe D (some od) := ⟨hget, hz.1, by obtain ⟨vs, hv⟩ := hf; unfold PySem.W.notCls; rw [hv] <;> rfl, by rw [hz.2]; exact ho⟩
 have hcl : (PySem.W.clsIn X.K D).isSome = true := by
  obtain ⟨cd, hc, _⟩ := PySem.W.any_some C.hd
  rw [hc]; rfl
 exact PySem.W.kia_one (PySem.W.kitx_exc hcl C.hg C.hk C.hs C.ha C.hn C.ht C.hm) I.kIn J e (fun z => nomatch z) fun tk => ⟨.bl b, H, I.kept (t' := tk) fun _ _ z => z, rfl, q⟩
def xdX (dd : Addr) : Xt where
 At := fun _ F _ _ fp => fp = [] /\ ∃ fs, F dd = some (.xd fs)
 frame := fun kF _ h _ => ⟨h.1, h.2.imp fun _ z => kF _ _ z⟩
 there := fun h a m => by rw [h.1] at m; cases m
section
variable {K : PySem.W.Frag} {F F' F1 F2 H H' H1 H2 : Hp} {v u x y : V} {n : Nat} {as : Ro} {E E' : En} {fp fq : List Addr}
open Classical in
noncomputable def bd_ (i j : Nat) (a dd : Addr) (b : Bool) (E : En) : Option Rs := match E[i]?, E[j]? with
 | some (.own (.con (.ref a'))), some (.own (.ext x)) => if a' = a /\ x = xdX dd then some (.val (.dat (.bool b))) else none
 | _, _ => none
theorem lD_ {i j : Nat} {a dd : Addr} {b : Bool} (h : E[i]? = some (.own (.con (.ref a)))) (h2 : E[j]? = some (.own (.ext (xdX dd)))) : bd_ i j a dd b E = some (.val (.dat (.bool b))) := by
 unfold bd_
 rw [h, h2]
 exact if_pos ⟨rfl, rfl⟩
theorem cP_ {i j : Nat} {a D dd : Addr} {c : V} {cv : Value} {b : Bool} (hi : i < n) (hc : ∀ u, RelV c u -> u = cv) (hk : PySem.W.kitOne K (.ref D) cv = some b) :
  EvP K n as (tCB (oZ_ K D a dd) (tCons (tVar i) (tCons (tC c) tNil))) (bd_ i j a dd b) := by
 intro F H σ E fp L R r e Q q
 unfold bd_ at e
 split at e
 ·next a' x ee ej =>
  split at e
  ·next ha =>
   obtain ⟨rfl, rfl⟩ := ha
   cases e
   have hv : ab_ i E = some (.val (.con (.ref a'))) := by unfold ab_; rw [ee]
   refine bB_ (K := K) (as := as) hi L R hv (fun v F1 H1 fr g1 a1 nd of => ?_)
   obtain ⟨rfl, rfl⟩ := Own.con_inv (show Own K F1 H1 v (.con (.ref a')) fr from a1) rfl
   have hg : aZ_ E [j] = some (.ext (xdX dd)) := by simp only [aZ_, ej, S.get_nil]
   obtain ⟨u, fp1, fp2, h1, o1, pm, fin⟩ := (R.grow g1).focus2 hg
   obtain ⟨_, fs, hfs⟩ := o1.ext_inv rfl
   exact ⟨c, cv, b, fs, rfl, g1.sub _ _ hfs, hc, hk, q _ F1 H1 [] g1 (.dat (.bl b)) List.nodup_nil fun _ m => nomatch m⟩
  ·cases e
 ·cases e
end
end Mv
namespace ErrC
open PySem PySem.Spec PyProof.Rows L2 Mv NX CLX
open Gn hiding g__law_take g__law_begun d__law_take d__law_begun
noncomputable def d_class2 (a dd : Addr) : En -> Option Out := (aE_ (ap_ 1 (ba_ (aa_ (bd_ 0 4 a dd false) (aa_ (bd_ 0 4 a dd false) (aa_ (bd_ 0 4 a dd false) (aa_ (bd_ 0 4 a dd false) ai_))))))
  (aE_ (ap_ 1 (cq_ b0_ (ab_ 1) (ba_ (aa_ (bd_ 0 4 a dd false) (aa_ (bd_ 0 4 a dd false) (aa_ (bd_ 0 4 a dd false) ai_))))))
  (aE_ (ap_ 1 (cq_ b0_ (ab_ 1) (ba_ (aa_ (bd_ 0 4 a dd false) (aa_ (bd_ 0 4 a dd false) (aa_ (bd_ 0 4 a dd false) (aa_ (bd_ 0 4 a dd false) ai_)))))))
  (aE_ (cr_ (dH_ bE_ (ab_ 1) (bd_ 0 4 a dd true)))
  (aE_ (ap_ 2 (ba_ (aa_ (dC (.str "BadHouse")) (aa_ (dC (.str "Known")) (aa_ (dC (.str "NoHouse")) (aa_ (dC (.str "TooMany")) (aa_ (dC (.str "LastHouse")) (aa_ (dC (.str "BadAsker")) (aa_ (dC (.str "BadEdition")) (aa_ (dC (.str "BadAsk")) (aa_ (dC (.str "Busy")) ai_)))))))))))
  (aE_ (ap_ 2 (cq_ b0_ (ab_ 2) (ba_ (aa_ (dC (.str "NoLetter")) (aa_ (dC (.str "BadCount")) (aa_ (dC (.str "BadText")) ai_))))))
  (aY_ (hg_ (gc_ (bb_ (eOp bP_ (dH_ fL_ (ab_ 1) (dC (.bool true))) (ae_ (dC (.int 1))))) (ao_ (aj_ (bd_ 0 4 a dd true)))) (bh_ (an_ (ab_ 2) (af_ (dH_ ey_ (ab_ 1) (dC (.bool true))) aJ_)) fun k => aT_ k 2 (ae_ (aC_ (dGh k 0) (dGh k 1)))) (ae_ (dC (.str "")))))))))))
theorem worth_class2 (a dd : Addr) : ∃ E', d_class2 a dd (entry 3 [.con (.ref a)] ++ [.own (.ext (xdX dd))]) = some (.rt (.dat (.str (cQ_ 22))) E') := by
 have isE : ∀ (b : Bool) (k w : Sl), bd_ 0 4 a dd b (eC a k w [.own (.ext (xdX dd))]) = some (.val (.dat (.bool b))) := fun b k w => lD_ rfl rfl
 have s1 : ap_ 1 (ba_ (aa_ (bd_ 0 4 a dd false) (aa_ (bd_ 0 4 a dd false) (aa_ (bd_ 0 4 a dd false) (aa_ (bd_ 0 4 a dd false) ai_))))) (eC a .no .no [.own (.ext (xdX dd))]) = some (.nx (eC a (.own (lB (fl 11 4))) .no [.own (.ext (xdX dd))])) := by
  unfold ap_ ba_
  rw [am_ (isE _ _ _) (am_ (isE _ _ _) (am_ (isE _ _ _) (am_ (isE _ _ _) rfl)))]
  rfl
 have s2 : ap_ 1 (cq_ b0_ (ab_ 1) (ba_ (aa_ (bd_ 0 4 a dd false) (aa_ (bd_ 0 4 a dd false) (aa_ (bd_ 0 4 a dd false) ai_))))) (eC a (.own (lB (fl 11 4))) .no [.own (.ext (xdX dd))]) = some (.nx (eC a (.own (lB (fl 11 7))) .no [.own (.ext (xdX dd))])) := by
  have l : ba_ (aa_ (bd_ 0 4 a dd false) (aa_ (bd_ 0 4 a dd false) (aa_ (bd_ 0 4 a dd false) ai_))) (eC a (.own (lB (fl 11 4))) .no [.own (.ext (xdX dd))]) = some (.val (lB [false, false, false])) := by
   unfold ba_
   rw [am_ (isE _ _ _) (am_ (isE _ _ _) (am_ (isE _ _ _) rfl))]
   rfl
  unfold ap_ cq_
  rw [l]
  rfl
 have s3 : ap_ 1 (cq_ b0_ (ab_ 1) (ba_ (aa_ (bd_ 0 4 a dd false) (aa_ (bd_ 0 4 a dd false) (aa_ (bd_ 0 4 a dd false) (aa_ (bd_ 0 4 a dd false) ai_)))))) (eC a (.own (lB (fl 11 7))) .no [.own (.ext (xdX dd))]) = some (.nx (eC a (.own (lB (fl 11 11))) .no [.own (.ext (xdX dd))])) := by
  have l : ba_ (aa_ (bd_ 0 4 a dd false) (aa_ (bd_ 0 4 a dd false) (aa_ (bd_ 0 4 a dd false) (aa_ (bd_ 0 4 a dd false) ai_)))) (eC a (.own (lB (fl 11 7))) .no [.own (.ext (xdX dd))]) = some (.val (lB [false, false, false, false])) := by
   unfold ba_
   rw [am_ (isE _ _ _) (am_ (isE _ _ _) (am_ (isE _ _ _) (am_ (isE _ _ _) rfl)))]
   rfl
  unfold ap_ cq_
  rw [l]
  rfl
 have s4 : cr_ (dH_ bE_ (ab_ 1) (bd_ 0 4 a dd true)) (eC a (.own (lB (fl 11 11))) .no [.own (.ext (xdX dd))]) = some (.nx (eC a (.own (lB (fl 11 12))) .no [.own (.ext (xdX dd))])) := by
  unfold cr_ dH_
  show (match g8_ bE_ (ab_ 1) (bd_ 0 4 a dd true) (eC a (.own (lB (fl 11 11))) .no [.own (.ext (xdX dd))]) with | _ => _) = _
  unfold g8_
  rw [isE]
  rfl
 let W12 : S := lS ["BadHouse", "Known", "NoHouse", "TooMany", "LastHouse", "BadAsker", "BadEdition", "BadAsk", "Busy", "NoLetter", "BadCount", "BadText"]
 let E7 := eC a (.own (lB (fl 11 12))) (.own W12) [.own (.ext (xdX dd))]
 have s7 : aY_ (hg_ (gc_ (bb_ (eOp bP_ (dH_ fL_ (ab_ 1) (dC (.bool true))) (ae_ (dC (.int 1))))) (ao_ (aj_ (bd_ 0 4 a dd true)))) (bh_ (an_ (ab_ 2) (af_ (dH_ ey_ (ab_ 1) (dC (.bool true))) aJ_)) fun k => aT_ k 2 (ae_ (aC_ (dGh k 0) (dGh k 1)))) (ae_ (dC (.str "")))) E7 = some (.rt (.dat (.str (cQ_ 22))) E7) := by
  have t : ao_ (aj_ (bd_ 0 4 a dd true)) E7 = some (true, E7) := by
   unfold ao_ aj_
   rw [show bd_ 0 4 a dd true E7 = _ from isE _ _ _]
   rfl
  have t2 : gc_ (bb_ (eOp bP_ (dH_ fL_ (ab_ 1) (dC (.bool true))) (ae_ (dC (.int 1))))) (ao_ (aj_ (bd_ 0 4 a dd true))) E7 = some (true, E7) := by
   have t0 : bb_ (eOp bP_ (dH_ fL_ (ab_ 1) (dC (.bool true))) (ae_ (dC (.int 1)))) E7 = some (true, E7) := by
    rfl
   unfold gc_
   rw [t0]
   exact t
  unfold aY_ hg_
  rw [t2]
  rfl
 refine ⟨E7, ?_⟩
 exact ad_ (E1 := eC a _ .no [.own (.ext (xdX dd))]) s1 (ad_ s2 (ad_ s3 (ad_ s4 (ad_ (E1 := eC a (.own (lB (fl 11 12))) (.own (lS ["BadHouse", "Known", "NoHouse", "TooMany", "LastHouse", "BadAsker", "BadEdition", "BadAsk", "Busy"])) [.own (.ext (xdX dd))]) rfl (ad_ rfl s7)))))
end ErrC
namespace K20
open PySem PySem.Spec PyProof.Rows L2 Mv NX CLX LamX
abbrev a9_ : Stmt := K20.topS 44
theorem sc__law_class : FnScope ["_law_e", "_law_kinds", "_law_words"] ["_law_e"] (defScope a9_) := ⟨rfl, rfl, rfl, by decide +kernel, rfl, by decide +kernel, by decide +kernel⟩
abbrev cm_ : Stmt := K20.topS 45
theorem sc__law_told : FnScope ["_law_work", "_law_e", "_law_word"] ["_law_work"] (defScope cm_) := ⟨rfl, rfl, rfl, by decide +kernel, rfl, by decide +kernel, by decide +kernel⟩
structure TxtE (K : PySem.W.Frag) (mg : Str -> Option Value) where
 n_isinstance : mg "isinstance" = none
 n_ValueError : mg "ValueError" = none
 C_BadHouse : Addr
 g_BadHouse : mg "BadHouse" = some (.ref C_BadHouse)
 C_Known : Addr
 g_Known : mg "Known" = some (.ref C_Known)
 C_NoHouse : Addr
 g_NoHouse : mg "NoHouse" = some (.ref C_NoHouse)
 C_TooMany : Addr
 g_TooMany : mg "TooMany" = some (.ref C_TooMany)
 C_LastHouse : Addr
 g_LastHouse : mg "LastHouse" = some (.ref C_LastHouse)
 C_BadAsker : Addr
 g_BadAsker : mg "BadAsker" = some (.ref C_BadAsker)
 C_BadEdition : Addr
 g_BadEdition : mg "BadEdition" = some (.ref C_BadEdition)
 C_BadAsk : Addr
 g_BadAsk : mg "BadAsk" = some (.ref C_BadAsk)
 C_Busy : Addr
 g_Busy : mg "Busy" = some (.ref C_Busy)
 C_NoLetter : Addr
 g_NoLetter : mg "NoLetter" = some (.ref C_NoLetter)
 C_BadCount : Addr
 g_BadCount : mg "BadCount" = some (.ref C_BadCount)
 C_BadText : Addr
 g_BadText : mg "BadText" = some (.ref C_BadText)
 C_DrainError : Addr
 g_DrainError : mg "DrainError" = some (.ref C_DrainError)
 hes : ∀ j, j < 12 -> clsOf K (11 + j) (ErrC.eAt [C_BadHouse, C_Known, C_NoHouse, C_TooMany, C_LastHouse, C_BadAsker, C_BadEdition, C_BadAsk, C_Busy, C_NoLetter, C_BadCount, C_BadText] j)
 np_BadText : PySem.W.findIn K (.ref C_BadText) "place" = some none
 chk : ErrC.errChk K [C_BadHouse, C_Known, C_NoHouse, C_TooMany, C_LastHouse, C_BadAsker, C_BadEdition, C_BadAsk, C_Busy, C_NoLetter, C_BadCount, C_BadText] C_DrainError = true
 a__law_class : Addr
 d__law_class : FuncData
 F__law_class : Fun K "_law_class" "_law_class" a9_ a__law_class d__law_class
 b__law_class : Binds K d__law_class ["_law_e"] []
 m__law_class : mg "_law_class" = some (.ref a__law_class)
 a__law_told : Addr
 d__law_told : FuncData
 F__law_told : Fun K "_law_told" "_law_told" cm_ a__law_told d__law_told
 b__law_told : Binds K d__law_told ["_law_work"] []
 m__law_told : mg "_law_told" = some (.ref a__law_told)
section
variable {P : Program} {w : World} {K : PySem.W.Frag} {mg : Str -> Option Value} {base : Heap}
abbrev TxtE.es (T : TxtE K mg) : List Addr := [T.C_BadHouse, T.C_Known, T.C_NoHouse, T.C_TooMany, T.C_LastHouse, T.C_BadAsker, T.C_BadEdition, T.C_BadAsk, T.C_Busy, T.C_NoLetter, T.C_BadCount, T.C_BadText]
def nA_ (T : TxtE K mg) : SpP := fun p vs H Q _ => ∃ i, i < 12 /\ vs = [.ref p.1] /\ Zc (.ref (ErrC.eAt T.es i)) none p.2 /\ (∃ vs, p.2.data = .fields vs) /\ ∀ H', (∀ b o, H b = some o -> H' b = some o) -> Q (.str (cQ_ (11 + i))) H'
theorem gB_ (T : TxtE K mg) : FnW P w K mg base CX0 5 T.a__law_class T.d__law_class ["_law_e"] (nA_ T) := by
 obtain ⟨oc, od, kV, doc, pm, an, cdv, ct, osl, e, lk, hcd⟩ := T.F__law_class.ex
 rw [e] at lk ⊢
 refine ms_ (k := 4) lk hcd sc__law_class (fun p vs H Q E h => by obtain ⟨_, _, rfl, _⟩ := h; rfl) (fun A outer s H vs Q E p hr h => ?_)
 obtain ⟨i, hi, rfl, hz, hf, q⟩ := h
 obtain ⟨ec, hv, _, hk⟩ := ErrC.errChk.at T.chk hi
 have hpn : (p.1, p.2) ∈ (L2H.cxH CX0 P w K mg base ["_law_e", "_law_kinds", "_law_words"] "_law_class" (defScope a9_) T.a__law_class cdv A outer s H E p).pn := List.mem_singleton.mpr rfl
 have key : ∃ t, PSs (L2H.cxH CX0 P w K mg base ["_law_e", "_law_kinds", "_law_words"] "_law_class" (defScope a9_) T.a__law_class cdv A outer s H E p) (defBody a9_) t /\ ∀ W, EvS K 3 [some (.ref p.1)] W t (ErrC.d_class i p.1) := ⟨_, (pss_cons (ps_set (i := 1) sc__law_class.nd rfl (Or.inl rfl) (pe_lst (pa_cons (pe_callB (bx_ ec hpn hz hf) (by rfl) T.n_isinstance (by decide +kernel) (pa_cons (pv 0) (pa_cons (pe_glob (v := .ref T.C_BadHouse) rfl T.g_BadHouse rfl) pa_nil))) (pa_cons (pe_callB (bx_ ec hpn hz hf) (by rfl) T.n_isinstance (by decide +kernel) (pa_cons (pv 0) (pa_cons (pe_glob (v := .ref T.C_Known) rfl T.g_Known rfl) pa_nil))) (pa_cons (pe_callB (bx_ ec hpn hz hf) (by rfl) T.n_isinstance (by decide +kernel) (pa_cons (pv 0) (pa_cons (pe_glob (v := .ref T.C_NoHouse) rfl T.g_NoHouse rfl) pa_nil))) (pa_cons (pe_callB (bx_ ec hpn hz hf) (by rfl) T.n_isinstance (by decide +kernel) (pa_cons (pv 0) (pa_cons (pe_glob (v := .ref T.C_TooMany) rfl T.g_TooMany rfl) pa_nil))) pa_nil))))))
  (pss_cons (ps_set (i := 1) sc__law_class.nd rfl (Or.inl rfl) (pe_op (r := dV_ K) bM_ (pv 1) (pe_lst (pa_cons (pe_callB (bx_ ec hpn hz hf) (by rfl) T.n_isinstance (by decide +kernel) (pa_cons (pv 0) (pa_cons (pe_glob (v := .ref T.C_LastHouse) rfl T.g_LastHouse rfl) pa_nil))) (pa_cons (pe_callB (bx_ ec hpn hz hf) (by rfl) T.n_isinstance (by decide +kernel) (pa_cons (pv 0) (pa_cons (pe_glob (v := .ref T.C_BadAsker) rfl T.g_BadAsker rfl) pa_nil))) (pa_cons (pe_callB (bx_ ec hpn hz hf) (by rfl) T.n_isinstance (by decide +kernel) (pa_cons (pv 0) (pa_cons (pe_glob (v := .ref T.C_BadEdition) rfl T.g_BadEdition rfl) pa_nil))) pa_nil))))))
  (pss_cons (ps_set (i := 1) sc__law_class.nd rfl (Or.inl rfl) (pe_op (r := dV_ K) bM_ (pv 1) (pe_lst (pa_cons (pe_callB (bx_ ec hpn hz hf) (by rfl) T.n_isinstance (by decide +kernel) (pa_cons (pv 0) (pa_cons (pe_glob (v := .ref T.C_BadAsk) rfl T.g_BadAsk rfl) pa_nil))) (pa_cons (pe_callB (bx_ ec hpn hz hf) (by rfl) T.n_isinstance (by decide +kernel) (pa_cons (pv 0) (pa_cons (pe_glob (v := .ref T.C_Busy) rfl T.g_Busy rfl) pa_nil))) (pa_cons (pe_callB (bx_ ec hpn hz hf) (by rfl) T.n_isinstance (by decide +kernel) (pa_cons (pv 0) (pa_cons (pe_glob (v := .ref T.C_NoLetter) rfl T.g_NoLetter rfl) pa_nil))) (pa_cons (pe_callB (bx_ ec hpn hz hf) (by rfl) T.n_isinstance (by decide +kernel) (pa_cons (pv 0) (pa_cons (pe_glob (v := .ref T.C_BadCount) rfl T.g_BadCount rfl) pa_nil))) pa_nil)))))))
  (pss_cons (ps_expr (hJ_ (t := fun K => tBM K "list" rAppend _ _) (pe_bm PySem.F.plainAttrs_list PySem.F.slot_list_append PySem.F.type_list_append mt_append (pv 1) (pa_cons (pe_callB (bx_ ec hpn hz hf) (by rfl) T.n_isinstance (by decide +kernel) (pa_cons (pv 0) (pa_cons (pe_glob (v := .ref T.C_BadText) rfl T.g_BadText rfl) pa_nil))) pa_nil))))
  (pss_cons (ps_set (i := 2) sc__law_class.nd rfl (Or.inl rfl) (pe_lst (pa_cons pe_str (pa_cons pe_str (pa_cons pe_str (pa_cons pe_str (pa_cons pe_str (pa_cons pe_str (pa_cons pe_str (pa_cons pe_str (pa_cons pe_str pa_nil)))))))))))
  (pss_cons (ps_set (i := 2) sc__law_class.nd rfl (Or.inl rfl) (pe_op (r := dV_ K) bM_ (pv 2) (pe_lst (pa_cons pe_str (pa_cons pe_str (pa_cons pe_str pa_nil))))))
  (pss_one (ps_ret (pe_ifExp (PW.pt (pw_and (pt_cmpR op_eq (hJ_ (t := fun K => tBM K "list" (NX.rCntB K) _ _) (pe_bm PySem.F.plainAttrs_list PySem.F.slot_list_count PySem.F.type_list_count NX.mt_lcountB (pv 1) (pa_cons pe_bl pa_nil))) pe_int (nomark _)) (pw_and1 (pt_val (pe_callB (bx_ ec hpn hz hf) (by rfl) T.n_isinstance (by decide +kernel) (pa_cons (pv 0) (pa_cons (pe_bltn (v := .ty "ValueError") (by rfl) T.n_ValueError (by decide +kernel) rfl) pa_nil))))))) (pe_ix (r := rIxL K) ix_list (pv 2) (hJ_ (t := fun K => tBM K "list" (rIndex K) _ _) (pe_bm PySem.F.plainAttrs_list PySem.F.slot_list_index PySem.F.type_list_index mt_index (pv 1) (pa_cons pe_bl pa_nil))) (fun _ _ => rfl)) pe_str))))))))),
  fun W => (aw_ (aR_ (by decide) (bZ_ (ac_ (ez_ (c := .ref T.C_BadHouse) (by decide) (fun _ h => h) (hk 0 (by decide))) (ac_ (ez_ (c := .ref T.C_Known) (by decide) (fun _ h => h) (hk 1 (by decide))) (ac_ (ez_ (c := .ref T.C_NoHouse) (by decide) (fun _ h => h) (hk 2 (by decide))) (ac_ (ez_ (c := .ref T.C_TooMany) (by decide) (fun _ h => h) (hk 3 (by decide))) ar_))))))
  (aw_ (aR_ (by decide) (dc_ bN_ zv1 (bZ_ (ac_ (ez_ (c := .ref T.C_LastHouse) (by decide) (fun _ h => h) (hk 4 (by decide))) (ac_ (ez_ (c := .ref T.C_BadAsker) (by decide) (fun _ h => h) (hk 5 (by decide))) (ac_ (ez_ (c := .ref T.C_BadEdition) (by decide) (fun _ h => h) (hk 6 (by decide))) ar_))))))
  (aw_ (aR_ (by decide) (dc_ bN_ zv1 (bZ_ (ac_ (ez_ (c := .ref T.C_BadAsk) (by decide) (fun _ h => h) (hk 7 (by decide))) (ac_ (ez_ (c := .ref T.C_Busy) (by decide) (fun _ h => h) (hk 8 (by decide))) (ac_ (ez_ (c := .ref T.C_NoLetter) (by decide) (fun _ h => h) (hk 9 (by decide))) (ac_ (ez_ (c := .ref T.C_BadCount) (by decide) (fun _ h => h) (hk 10 (by decide))) ar_)))))))
  (aw_ (fQ_ (gl_ d9_ zv1 (ez_ (c := .ref T.C_BadText) (by decide) (fun _ h => h) (hk 11 (by decide)))))
  (aw_ (aR_ (by decide) (bZ_ (ac_ (p_c (d := .str "BadHouse")) (ac_ (p_c (d := .str "Known")) (ac_ (p_c (d := .str "NoHouse")) (ac_ (p_c (d := .str "TooMany")) (ac_ (p_c (d := .str "LastHouse")) (ac_ (p_c (d := .str "BadAsker")) (ac_ (p_c (d := .str "BadEdition")) (ac_ (p_c (d := .str "BadAsk")) (ac_ (p_c (d := .str "Busy")) ar_)))))))))))
  (aw_ (aR_ (by decide) (dc_ bN_ zv2 (bZ_ (ac_ (p_c (d := .str "NoLetter")) (ac_ (p_c (d := .str "BadCount")) (ac_ (p_c (d := .str "BadText")) ar_))))))
  (a4_ (lr_ (mV_ (iq_ (mY_ dS_ (gl_ kv_ zv1 (p_c (d := .bool true))) (aq_ (p_c (d := .int 1))))) (aP_ (mb_ (ez_ (c := .ty "ValueError") (by decide) (fun _ h => h) hv)))) (b3_ (fun a b => bt_ a b) (aI_ zv2 (fun _ => (aA_ (gl_ hy_ zv1 (p_c (d := .bool true))) (fun _ => bw_))))) (aq_ (p_c (d := .str "")))))))))))⟩
 obtain ⟨t, h1, h2⟩ := key
 refine ⟨t, h1, ?_⟩
 have l : OwnL K (fun _ => none) H [.ref p.1] [.con (.ref p.1)] [] := OwnL.cons (fp := []) .con .nil
 have R := Rep.entry (N := ["_law_e", "_law_kinds", "_law_words"]) (K := K) (F := fun _ => none) (H := H) (fun a o h => by cases h) l List.nodup_nil (fun _ m => nomatch m) (by show 1 <= 3; decide)
 obtain ⟨E', hd⟩ := ErrC.worth_class hi p.1
 refine h2 (fun _ _ _ _ => True) (by rfl) R hd fun v σ' F' H' fr fp' L' g R' ow nd of => ?_
 obtain ⟨dq, _⟩ := ow.dat_inv rfl
 cases dq
 exact q H' fun b o h => g.keep b o h (fun m => nomatch m)
def lE_ (T : TxtE K mg) : SpP := fun p vs H Q _ => ∃ dd fs, vs = [.ref p.1] /\ Zc (.ref T.C_BadText) (some dd) p.2 /\ (∃ vs, p.2.data = .fields vs) /\ H dd = some (.xd fs) /\ ∀ H', (∀ b o, H b = some o -> H' b = some o) -> Q (.str (cQ_ 22)) H'
theorem fM_ (T : TxtE K mg) : FnW P w K mg base CX0 5 T.a__law_class T.d__law_class ["_law_e"] (lE_ T) := by
 obtain ⟨oc, od, kV, doc, pm, an, cdv, ct, osl, e, lk, hcd⟩ := T.F__law_class.ex
 rw [e] at lk ⊢
 refine ms_ (k := 4) lk hcd sc__law_class (fun p vs H Q E h => by obtain ⟨_, _, rfl, _⟩ := h; rfl) (fun A outer s H vs Q E p hr h => ?_)
 obtain ⟨dd, fs, rfl, hz, hf, hdd, q⟩ := h
 obtain ⟨ec, hv, _, hk⟩ := ErrC.errChk.at T.chk (show 11 < 12 by decide)
 have hpn : (p.1, p.2) ∈ (L2H.cxH CX0 P w K mg base ["_law_e", "_law_kinds", "_law_words"] "_law_class" (defScope a9_) T.a__law_class cdv A outer s H E p).pn := List.mem_singleton.mpr rfl
 have key : ∃ t, PSs (L2H.cxH CX0 P w K mg base ["_law_e", "_law_kinds", "_law_words"] "_law_class" (defScope a9_) T.a__law_class cdv A outer s H E p) (defBody a9_) t /\ ∀ W, EvS K 3 [some (.ref p.1), some .non] W t (ErrC.d_class2 p.1 dd) := ⟨_, (pss_cons (ps_set (i := 1) sc__law_class.nd rfl (Or.inl rfl) (pe_lst (pa_cons (pe_callB (bg_ ec hpn hz hf) (by rfl) T.n_isinstance (by decide +kernel) (pa_cons (pv 0) (pa_cons (pe_glob (v := .ref T.C_BadHouse) rfl T.g_BadHouse rfl) pa_nil))) (pa_cons (pe_callB (bg_ ec hpn hz hf) (by rfl) T.n_isinstance (by decide +kernel) (pa_cons (pv 0) (pa_cons (pe_glob (v := .ref T.C_Known) rfl T.g_Known rfl) pa_nil))) (pa_cons (pe_callB (bg_ ec hpn hz hf) (by rfl) T.n_isinstance (by decide +kernel) (pa_cons (pv 0) (pa_cons (pe_glob (v := .ref T.C_NoHouse) rfl T.g_NoHouse rfl) pa_nil))) (pa_cons (pe_callB (bg_ ec hpn hz hf) (by rfl) T.n_isinstance (by decide +kernel) (pa_cons (pv 0) (pa_cons (pe_glob (v := .ref T.C_TooMany) rfl T.g_TooMany rfl) pa_nil))) pa_nil))))))
  (pss_cons (ps_set (i := 1) sc__law_class.nd rfl (Or.inl rfl) (pe_op (r := dV_ K) bM_ (pv 1) (pe_lst (pa_cons (pe_callB (bg_ ec hpn hz hf) (by rfl) T.n_isinstance (by decide +kernel) (pa_cons (pv 0) (pa_cons (pe_glob (v := .ref T.C_LastHouse) rfl T.g_LastHouse rfl) pa_nil))) (pa_cons (pe_callB (bg_ ec hpn hz hf) (by rfl) T.n_isinstance (by decide +kernel) (pa_cons (pv 0) (pa_cons (pe_glob (v := .ref T.C_BadAsker) rfl T.g_BadAsker rfl) pa_nil))) (pa_cons (pe_callB (bg_ ec hpn hz hf) (by rfl) T.n_isinstance (by decide +kernel) (pa_cons (pv 0) (pa_cons (pe_glob (v := .ref T.C_BadEdition) rfl T.g_BadEdition rfl) pa_nil))) pa_nil))))))
  (pss_cons (ps_set (i := 1) sc__law_class.nd rfl (Or.inl rfl) (pe_op (r := dV_ K) bM_ (pv 1) (pe_lst (pa_cons (pe_callB (bg_ ec hpn hz hf) (by rfl) T.n_isinstance (by decide +kernel) (pa_cons (pv 0) (pa_cons (pe_glob (v := .ref T.C_BadAsk) rfl T.g_BadAsk rfl) pa_nil))) (pa_cons (pe_callB (bg_ ec hpn hz hf) (by rfl) T.n_isinstance (by decide +kernel) (pa_cons (pv 0) (pa_cons (pe_glob (v := .ref T.C_Busy) rfl T.g_Busy rfl) pa_nil))) (pa_cons (pe_callB (bg_ ec hpn hz hf) (by rfl) T.n_isinstance (by decide +kernel) (pa_cons (pv 0) (pa_cons (pe_glob (v := .ref T.C_NoLetter) rfl T.g_NoLetter rfl) pa_nil))) (pa_cons (pe_callB (bg_ ec hpn hz hf) (by rfl) T.n_isinstance (by decide +kernel) (pa_cons (pv 0) (pa_cons (pe_glob (v := .ref T.C_BadCount) rfl T.g_BadCount rfl) pa_nil))) pa_nil)))))))
  (pss_cons (ps_expr (hJ_ (t := fun K => tBM K "list" rAppend _ _) (pe_bm PySem.F.plainAttrs_list PySem.F.slot_list_append PySem.F.type_list_append mt_append (pv 1) (pa_cons (pe_callB (bg_ ec hpn hz hf) (by rfl) T.n_isinstance (by decide +kernel) (pa_cons (pv 0) (pa_cons (pe_glob (v := .ref T.C_BadText) rfl T.g_BadText rfl) pa_nil))) pa_nil))))
  (pss_cons (ps_set (i := 2) sc__law_class.nd rfl (Or.inl rfl) (pe_lst (pa_cons pe_str (pa_cons pe_str (pa_cons pe_str (pa_cons pe_str (pa_cons pe_str (pa_cons pe_str (pa_cons pe_str (pa_cons pe_str (pa_cons pe_str pa_nil)))))))))))
  (pss_cons (ps_set (i := 2) sc__law_class.nd rfl (Or.inl rfl) (pe_op (r := dV_ K) bM_ (pv 2) (pe_lst (pa_cons pe_str (pa_cons pe_str (pa_cons pe_str pa_nil))))))
  (pss_one (ps_ret (pe_ifExp (PW.pt (pw_and (pt_cmpR op_eq (hJ_ (t := fun K => tBM K "list" (NX.rCntB K) _ _) (pe_bm PySem.F.plainAttrs_list PySem.F.slot_list_count PySem.F.type_list_count NX.mt_lcountB (pv 1) (pa_cons pe_bl pa_nil))) pe_int (nomark _)) (pw_and1 (pt_val (pe_callB (bg_ ec hpn hz hf) (by rfl) T.n_isinstance (by decide +kernel) (pa_cons (pv 0) (pa_cons (pe_bltn (v := .ty "ValueError") (by rfl) T.n_ValueError (by decide +kernel) rfl) pa_nil))))))) (pe_ix (r := rIxL K) ix_list (pv 2) (hJ_ (t := fun K => tBM K "list" (rIndex K) _ _) (pe_bm PySem.F.plainAttrs_list PySem.F.slot_list_index PySem.F.type_list_index mt_index (pv 1) (pa_cons pe_bl pa_nil))) (fun _ _ => rfl)) pe_str))))))))),
  fun W => (aw_ (aR_ (by decide) (bZ_ (ac_ (cP_ (j := 4) (c := .ref T.C_BadHouse) (by decide) (fun _ h => h) (hk 0 (by decide))) (ac_ (cP_ (j := 4) (c := .ref T.C_Known) (by decide) (fun _ h => h) (hk 1 (by decide))) (ac_ (cP_ (j := 4) (c := .ref T.C_NoHouse) (by decide) (fun _ h => h) (hk 2 (by decide))) (ac_ (cP_ (j := 4) (c := .ref T.C_TooMany) (by decide) (fun _ h => h) (hk 3 (by decide))) ar_))))))
  (aw_ (aR_ (by decide) (dc_ bN_ zv1 (bZ_ (ac_ (cP_ (j := 4) (c := .ref T.C_LastHouse) (by decide) (fun _ h => h) (hk 4 (by decide))) (ac_ (cP_ (j := 4) (c := .ref T.C_BadAsker) (by decide) (fun _ h => h) (hk 5 (by decide))) (ac_ (cP_ (j := 4) (c := .ref T.C_BadEdition) (by decide) (fun _ h => h) (hk 6 (by decide))) ar_))))))
  (aw_ (aR_ (by decide) (dc_ bN_ zv1 (bZ_ (ac_ (cP_ (j := 4) (c := .ref T.C_BadAsk) (by decide) (fun _ h => h) (hk 7 (by decide))) (ac_ (cP_ (j := 4) (c := .ref T.C_Busy) (by decide) (fun _ h => h) (hk 8 (by decide))) (ac_ (cP_ (j := 4) (c := .ref T.C_NoLetter) (by decide) (fun _ h => h) (hk 9 (by decide))) (ac_ (cP_ (j := 4) (c := .ref T.C_BadCount) (by decide) (fun _ h => h) (hk 10 (by decide))) ar_)))))))
  (aw_ (fQ_ (gl_ d9_ zv1 (cP_ (j := 4) (c := .ref T.C_BadText) (by decide) (fun _ h => h) (hk 11 (by decide)))))
  (aw_ (aR_ (by decide) (bZ_ (ac_ (p_c (d := .str "BadHouse")) (ac_ (p_c (d := .str "Known")) (ac_ (p_c (d := .str "NoHouse")) (ac_ (p_c (d := .str "TooMany")) (ac_ (p_c (d := .str "LastHouse")) (ac_ (p_c (d := .str "BadAsker")) (ac_ (p_c (d := .str "BadEdition")) (ac_ (p_c (d := .str "BadAsk")) (ac_ (p_c (d := .str "Busy")) ar_)))))))))))
  (aw_ (aR_ (by decide) (dc_ bN_ zv2 (bZ_ (ac_ (p_c (d := .str "NoLetter")) (ac_ (p_c (d := .str "BadCount")) (ac_ (p_c (d := .str "BadText")) ar_))))))
  (a4_ (lr_ (mV_ (iq_ (mY_ dS_ (gl_ kv_ zv1 (p_c (d := .bool true))) (aq_ (p_c (d := .int 1))))) (aP_ (mb_ (cP_ (j := 4) (c := .ty "ValueError") (by decide) (fun _ h => h) hv)))) (b3_ (fun a b => bt_ a b) (aI_ zv2 (fun _ => (aA_ (gl_ hy_ zv1 (p_c (d := .bool true))) (fun _ => bw_))))) (aq_ (p_c (d := .str "")))))))))))⟩
 obtain ⟨t, h1, h2⟩ := key
 refine ⟨t, h1, ?_⟩
 let F : Hp := fun b => if b = dd then some (.xd fs) else none
 have sub : ∀ a o, F a = some o -> H a = some o := fun a o h => by
  have h : (if a = dd then some (HO.xd fs) else none) = some o := h
  by_cases ha : a = dd
  ·rw [if_pos ha] at h; rw [ha, <- h]; exact hdd
  ·rw [if_neg ha] at h; cases h
 have l : OwnL K F H [.ref p.1] [.con (.ref p.1)] [] := OwnL.cons (fp := []) .con .nil
 have R0 := Rep.entry (N := ["_law_e", "_law_kinds", "_law_words"]) (K := K) (F := F) (H := H) sub l List.nodup_nil (fun _ m => nomatch m) (by show 1 <= 3; decide)
 have gh : Own K F H .non (.ext (xdX dd)) [] := .ext ⟨rfl, fs, if_pos rfl⟩
 have R := R0.push gh (by simp) (fun _ m => nomatch m)
 obtain ⟨E', hd⟩ := ErrC.worth_class2 p.1 dd
 refine h2 (fun _ _ _ _ => True) (by rfl) (by simpa using R) hd fun v σ' F' H' fr fp' L' g R' ow nd of => ?_
 obtain ⟨dq, _⟩ := ow.dat_inv rfl
 cases dq
 exact q H' fun b o h => g.keep b o h (fun m => nomatch m)
def kw_ (T : TxtE K mg) (Q : VK) : XK := fun cls d H => (∃ (dd : Addr) (i : Int), cls = .ref T.C_BadText /\ d = some dd /\ H dd = some (.xd [("place", .int i)]) /\ ∀ (H' : Hp) (p : Addr) (ob : Obj), (∀ b o, H b = some o -> H' b = some o) -> H' p = none -> ob.dict = none -> Q (.ref p) (upd H' p (.frz ob (.tup [.str (cQ_ 22), .int i])))) ∨ ∃ j, j < 11 /\ cls = .ref (ErrC.eAt T.es j) /\ d = none /\ ∀ (H' : Hp) (p : Addr) (ob : Obj), (∀ b o, H b = some o -> H' b = some o) -> H' p = none -> ob.dict = none -> Q (.ref p) (upd H' p (.frz ob (.tup [.str (cQ_ (11 + j)), .int 0])))
def tsT (T : TxtE K mg) : Addr -> Value -> Option Addr -> TS := fun a cls d D σ H => σ[1]? = some (some (.ref a)) /\ σ.length = 3 /\ kw_ T D.rt cls d H
theorem eQ_ (T : TxtE K mg) {k k0 : Nat} (hk : k <= k0) (h5 : 5 <= k0) : FnOk P w K mg base CX0 (k0 + 1) T.a__law_told T.d__law_told ["_law_work"] (h2_ P w K mg base k) := by
 refine T.F__law_told.ok sc__law_told (fun vs H Q E h => by obtain ⟨_, _, _, _, _, _, _, _, _, _, _, _, rfl, _⟩ := h; rfl) (fun cdv A outer s H vs Q E hr h => ?_)
 obtain ⟨v, F, cs, os, ws, t, li, g, f1, ss, r, ss', rfl, ⟨_, f, tl, rfl, il, ok, hcall⟩, hs, l, nd, off, ik_, hg, go⟩ := h
 have ht : tl (kw_ T Q) H Q := by
  unfold ji_ at hg
  split at hg
  ·next s2 ss2 eg =>
   cases hg
   exact hcall F H ss f1 (.rt r) ss' _ _ (fun _ _ e => e) hs l nd off ik_ eg go
  ·next c ss2 eg =>
   split at hg
   ·next hc =>
    cases hg
    refine hcall F H ss f1 (.ex c) ss' _ _ (fun _ _ e => e) hs l nd off ik_ eg fun C dd F' H' f2 hex g' l' told' nd' off' => ?_
    have fin : ∀ (D : List V) (dd : List PyData), jy_ c = .tuple dd -> DqAll K F' D dd -> ∀ (H2 : Hp) (p : Addr) (ob : Obj), (∀ b o, H' b = some o -> H2 b = some o) -> H2 p = none -> ob.dict = none -> Q (.ref p) (upd H2 p (.frz ob (.tup D))) := by
     intro D dd hd dq H2 p ob k2 hp ho
     have np : ∀ b o, H' b = some o -> b ≠ p := fun b o e z => by rw [z] at e; rw [k2 p o e] at hp; cases hp
     have k3 : ∀ b o, H' b = some o -> (upd H2 p (.frz ob (.tup D))) b = some o := fun b o e => by rw [upd_ne (np b o e)]; exact k2 b o e
     have g0 : Grow F' H' [] (upd F' p (.frz ob (.tup D))) (upd H2 p (.frz ob (.tup D))) [] :=
      ⟨fun b o e => by rw [upd_ne (np b o (g'.sub b o e))]; exact e, fun b o e => by
       by_cases h : b = p
       ·subst h; rw [upd_same] at e ⊢; exact e
       ·rw [upd_ne h] at e ⊢; exact k2 b o (g'.sub b o e), fun b o e _ => k3 b o e, (fun b m => nomatch m), fun b h0 _ fb => by
       have : b ≠ p := fun z => by
        cases q : H' b with
        | none => exact h0 q
        | some o => exact np b o q z
       rw [upd_ne this]; exact fb⟩
     have tp : Own K (upd F' p (.frz ob (.tup D))) (upd H2 p (.frz ob (.tup D))) (.ref p) (.dat (jy_ c)) [] := by
      rw [hd]
      exact .dat (.tup (.inl ⟨ob, upd_same, ho⟩) (Mv.DqAll.mono g0.f dq))
     exact go (.ref p) _ _ [] f2 (by simpa using g'.trans (g0.ours (f2 ++ cs))) (l'.frame g0.f g0.sub fun a _ o e => k3 a o e) (fun c mc => k3 c _ (told' c mc)) tp (by simpa using nd') fun a m => g0.off a (by
      rw [List.nil_append] at m
      rcases List.mem_append.mp m with m | m
      ·obtain ⟨o, eo⟩ := l'.there a m; rw [eo]; exact fun z => nomatch z
      ·rw [told' a m]; exact fun z => nomatch z) (fun z => nomatch z) (off' a (by simpa using m))
    unfold okC at hc
    rw [Bool.or_eq_true, Bool.and_eq_true, decide_eq_true_eq, decide_eq_true_eq, decide_eq_true_eq] at hc
    rcases hex with ⟨hlt, hC, rfl⟩ | ⟨hge, hC, d, rfl, hd⟩
    ·obtain ⟨j, rfl⟩ : ∃ j, c = 11 + j := ⟨c - 11, by omega⟩
     refine .inr ⟨j, by omega, by rw [hC.one (T.hes j (by omega))], rfl, fun H2 p ob k2 hp ho => ?_⟩
     exact fin _ _ (if_pos (by omega)) (.cons (.str _) (.cons (.int _) .nil)) H2 p ob k2 hp ho
    ·refine .inl ⟨d, _, by rw [hC.one (T.hes 11 (by decide))]; rfl, rfl, g'.sub _ _ hd, fun H2 p ob k2 hp ho => ?_⟩
     exact fin _ _ (if_neg (by omega)) (.cons (.str _) (.cons (.int _) .nil)) H2 p ob k2 hp ho
   ·cases hg
  ·cases hg
 refine ⟨_, pss_one (ps_try_as (i := 1) (c := .ref T.C_DrainError) (Wout := fun _ _ _ _ => False) (ts := tsT T) (tb := fun W D σ H => ∃ Ech : XK, (∀ (cls : Value) (d : Option Addr) (σ' : L2.St) (H' : Hp), σ'.length = 3 -> Ech cls d H' -> W cls d σ' H') /\ σ[0]? = some (some (.ref f)) /\ σ.length = 3 /\ tl Ech H D.rt)
   rfl rfl sc__law_told.nd rfl rfl ⟨rfl, by decide, .inl T.g_DrainError⟩ LamX.takes0 (fun W pn xe tk _ => ?_) (fun a oe cls d pn hz hf => ?_)), ?_⟩
 ·refine K19c.pss_weak fun D σ H' h' => ?_
  obtain ⟨Ech, hW, h1, _, h2⟩ := h'
  exact ⟨_, pss_one (ps_ret (jE_ (k := k) (i := 0) (E := Ech) rfl (.inl rfl) (hr.mono hk) (K19c.passes_callL tk fun cls d σ H hl h => hW cls d σ H hl h))), f, tl, h1, ok, h2⟩
 ·refine K19c.pss_weak fun D σ H' h' => ?_
  obtain ⟨h1, hl, ⟨dd, i, rfl, rfl, hdd, q⟩ | ⟨j, hj, rfl, rfl, q⟩⟩ := h'
  ·have hrH : L2H.RoomH 5 (((cxOf CX0 P w K mg base ["_law_work", "_law_e", "_law_word"] "_law_told" (defScope cm_) T.a__law_told cdv A outer s H E).nox).suite a ((a, oe) :: pn)).A := ⟨(hr.mono h5).dp, (hr.mono h5).un⟩
   have ec := (ErrC.errChk.at T.chk (show 11 < 12 by decide)).1
   have ec : ExcC K T.C_BadText := ec
   refine ⟨_, pss_cons (ps_set (i := 2) sc__law_told.nd rfl (Or.inl rfl) (iN_ (p := (a, oe)) (E := fun _ _ _ => False) (fM_ (base := base) T) hrH List.mem_cons_self rfl T.m__law_class T.F__law_class.kp T.b__law_class pass0 (pa_cons (pv 1) pa_nil)))
    (pss_one (ps_ret (a1_ (pa_cons (pv 2) (pa_cons (pe_ifExp (pt_cmpR op_eq (pv 2) pe_str (nomark _)) (pe_xf (C := T.C_BadText) ⟨ec.hg, ec.hk, ec.hs, ec.hd⟩ T.np_BadText hz hf (pv 1)) pe_int) pa_nil))))), ?_⟩
   refine ⟨.ref a, h1, dd, _, rfl, hz, hf, hdd, fun H1 k1 => ?_⟩
   have h2 : (σ.set 2 (some (.str (cQ_ 22))))[2]? = some (some (V.str (cQ_ 22))) := by rw [List.getElem?_set_self (by omega)]
   have h3 : (σ.set 2 (some (.str (cQ_ 22))))[1]? = some (some (V.ref a)) := by rw [List.getElem?_set_ne (by decide)]; exact h1
   refine ⟨.str (cQ_ 22), h2, .str (cQ_ 22), h2, ?_⟩
   refine ⟨rfl, _, rfl, ?_⟩
   refine ⟨.ref a, h3, rfl, rfl, dd, _, .int i, rfl, k1 _ _ hdd, rfl, ?_⟩
   exact ⟨by show 2 <= sizeLine; decide, fun p ob hp ho => q H1 p ob k1 hp ho⟩
  ·have hrH : L2H.RoomH 5 (((cxOf CX0 P w K mg base ["_law_work", "_law_e", "_law_word"] "_law_told" (defScope cm_) T.a__law_told cdv A outer s H E).nox).suite a ((a, oe) :: pn)).A := ⟨(hr.mono h5).dp, (hr.mono h5).un⟩
   refine ⟨_, pss_cons (ps_set (i := 2) sc__law_told.nd rfl (Or.inl rfl) (iN_ (p := (a, oe)) (E := fun _ _ _ => False) (gB_ (base := base) T) hrH List.mem_cons_self rfl T.m__law_class T.F__law_class.kp T.b__law_class pass0 (pa_cons (pv 1) pa_nil)))
    (pss_one (ps_ret (a1_ (pa_cons (pv 2) (pa_cons (pe_ifExp (pt_cmpR op_eq (pv 2) pe_str (nomark _)) K19c.pe_no pe_int) pa_nil))))), ?_⟩
   refine ⟨.ref a, h1, j, by omega, rfl, hz, hf, fun H1 k1 => ?_⟩
   have h2 : (σ.set 2 (some (.str (cQ_ (11 + j)))))[2]? = some (some (V.str (cQ_ (11 + j)))) := by rw [List.getElem?_set_self (by omega)]
   refine ⟨.str (cQ_ (11 + j)), h2, .str (cQ_ (11 + j)), h2, ?_⟩
   refine ⟨rfl, _, rfl, ?_⟩
   rcases (show j = 0 ∨ j = 1 ∨ j = 2 ∨ j = 3 ∨ j = 4 ∨ j = 5 ∨ j = 6 ∨ j = 7 ∨ j = 8 ∨ j = 9 ∨ j = 10 by omega) with rfl | rfl | rfl | rfl | rfl | rfl | rfl | rfl | rfl | rfl | rfl
   all_goals exact ⟨by show 2 <= sizeLine; decide, fun p ob hp ho => q H1 p ob k1 hp ho⟩
 ·refine ⟨kw_ T Q, fun cls d σ' H' hl hx => ?_, rfl, rfl, ht⟩
  obtain ⟨dd, i, rfl, rfl, hdd, q⟩ | ⟨j, hj, rfl, rfl, q⟩ := hx
  ·refine ⟨true, (ErrC.errChk.at T.chk (show 11 < 12 by decide)).2.2.1, fun _ a _ => ⟨?_, ?_, .inl ⟨dd, i, rfl, rfl, hdd, q⟩⟩, fun z => Bool.noConfusion z⟩
   ·rw [List.getElem?_set_self (by omega)]
   ·rw [List.length_set]; exact hl
  ·refine ⟨true, (ErrC.errChk.at T.chk (by omega)).2.2.1, fun _ a _ => ⟨?_, ?_, .inr ⟨j, hj, rfl, rfl, q⟩⟩, fun z => Bool.noConfusion z⟩
   ·rw [List.getElem?_set_self (by omega)]
   ·rw [List.length_set]; exact hl
end
section
variable {P : Program} {w : World} {K : PySem.W.Frag} {mg : Str -> Option Value} {base : Heap}
theorem gC_ (T : Txt w K mg) : FnOk P w K mg base CX0 1 T.a__law_begun T.d__law_begun ["_law_script"] (dO_ K 1 g__law_begun) := by
 refine cR_ T.F__law_begun sc__law_begun (fun cdv A outer s H E as hr => ?_)
 exact ⟨_, (pss_cons (ps_set (i := 1) sc__law_begun.nd rfl (Or.inl rfl) pe_int)
  (pss_cons (ps_for PassesOwn.never rfl (pi_list (pv 0)) (pg_name (i := 2) sc__law_begun.nd rfl (Or.inl rfl)) (pss_one (ps_set (i := 1) sc__law_begun.nd rfl (Or.inl rfl) (pe_op op_mod (pe_op op_add (pe_op op_add (pe_op op_mul (pv 1) pe_int) (pe_op op_mul (pv 2) pe_int)) pe_int) pe_int))))
  (pss_one (ps_ret (pe_lst (pa_cons (pe_callTy (r := iA_ K) jb_ (by rfl) T.n_list (by decide +kernel) (pa_cons (pv 0) pa_nil)) (pa_cons (pe_op op_mul (pv 1) (pe_callTy call_int1 (by rfl) T.n_int (by decide +kernel) (pa_cons (pe_cmpR op_gt (pe_callB (r := dE_ K) a5_ (by rfl) T.n_len PySem.boot_len (pa_cons (pv 0) pa_nil)) pe_int (nomark _)) pa_nil))) pa_nil))))))),
  fun W => (aw_ (aR_ (by decide) (p_c (d := .int 0)))
  (aw_ (gk_ (gj_ zv0) (br_ (i := 2) (by decide)) (fun _ => (aR_ (by decide) (bm_ iv_ (bm_ d6_ (bm_ d6_ (bm_ iu_ zv1 (p_c (d := .int 48271))) (bm_ iu_ zv2 (p_c (d := .int 69621)))) (p_c (d := .int 11))) (p_c (d := .int 2147483647))))))
  (a4_ (aq_ (bZ_ (ac_ (p8_ m1_ (ac_ zv0 ar_)) (ac_ (bm_ iu_ zv1 (hS_ mh_ (ac_ (bm_ g3_ (dU_ zv0) (p_c (d := .int 2))) ar_))) ar_)))))))⟩
theorem av_ (T : Txt w K mg) : FnOk P w K mg base CX0 1 T.a__law_take T.d__law_take ["_law_box", "_law_many"] (dO_ K 2 g__law_take) := by
 refine cR_ T.F__law_take sc__law_take (fun cdv A outer s H E as hr => ?_)
 exact ⟨_, (pss_cons (ps_if (pt_cmpR (r := rEqD K) (op_eqD hr.units) (pe_ix (r := rIxL K) ix_list (pv 0) pe_int (fun _ _ => rfl)) (pe_lst pa_nil) (nomark _)) (pss_cons (ps_asg (pe_op op_mod (pe_op op_mul (pe_ix (r := rIxL K) ix_list (pv 0) pe_int (fun _ _ => rfl)) pe_int) pe_int) (pg_sub (pv 0) pe_int set_list))
  (pss_one (ps_ret (pe_op op_mod (pe_op op_fdivW (pe_ix (r := rIxL K) ix_list (pv 0) pe_int (fun _ _ => rfl)) pe_int) (pv 1))))) pss_nil)
  (pss_cons (ps_set (i := 2) sc__law_take.nd rfl (Or.inl rfl) (pe_ix (r := rIxL K) ix_list (pe_ix (r := rIxL K) ix_list (pv 0) pe_int (fun _ _ => rfl)) pe_int (fun _ _ => rfl)))
  (pss_cons (ps_asg (pe_op op_fdivW (pv 2) (pv 1)) (pg_sub (pe_ix (r := rIxL K) ix_list (pv 0) pe_int (fun _ _ => rfl)) pe_int set_list))
  (pss_cons (ps_if (PW.pt (pw_or (pt_cmpR op_eq (pe_ix (r := rIxL K) ix_list (pe_ix (r := rIxL K) ix_list (pv 0) pe_int (fun _ _ => rfl)) pe_int (fun _ _ => rfl)) pe_int (nomark _)) (pw_or1 (pt_cmpR op_eq (pe_ix (r := rIxL K) ix_list (pe_ix (r := rIxL K) ix_list (pv 0) pe_int (fun _ _ => rfl)) pe_int (fun _ _ => rfl)) (pe_un un_neg pe_int) (nomark _))))) (pss_one (ps_expr (hJ_ (t := fun K => tBM K "list" rPopAt _ _) (pe_bm PySem.F.plainAttrs_list PySem.F.slot_list_pop PySem.F.type_list_pop mt_popAt (pe_ix (r := rIxL K) ix_list (pv 0) pe_int (fun _ _ => rfl)) (pa_cons pe_int pa_nil))))) pss_nil)
  (pss_one (ps_ret (pe_op op_mod (pv 2) (pv 1)))))))),
  fun W => (aw_ (d5_ (aP_ (aN_ (bm_ iw_ (bt_ zv0 (p_c (d := .int 0))) (bZ_ ar_)))) (aw_ (mk_ zv0 (p_c (d := .int 1)) (aq_ (bm_ iv_ (bm_ iu_ (bt_ zv0 (p_c (d := .int 1))) (p_c (d := .int 48271))) (p_c (d := .int 2147483647)))))
  (a4_ (aq_ (bm_ iv_ (bm_ kb_ (bt_ zv0 (p_c (d := .int 1))) (p_c (d := .int 7))) zv1)))) a6_)
  (aw_ (aR_ (by decide) (bt_ (bt_ zv0 (p_c (d := .int 0))) (p_c (d := .int 0))))
  (aw_ (mk_ (bt_ zv0 (p_c (d := .int 0))) (p_c (d := .int 0)) (aq_ (bm_ kb_ zv2 zv1)))
  (aw_ (d5_ (aP_ (li_ (aN_ (bm_ dS_ (bt_ (bt_ zv0 (p_c (d := .int 0))) (p_c (d := .int 0))) (p_c (d := .int 0)))) (aN_ (bm_ dS_ (bt_ (bt_ zv0 (p_c (d := .int 0))) (p_c (d := .int 0))) (om_ (p_c (d := .int 1))))))) (fQ_ (gl_ lo_ (bt_ zv0 (p_c (d := .int 0))) (p_c (d := .int 0)))) a6_)
  (a4_ (aq_ (bm_ iv_ zv2 zv1)))))))⟩
theorem fv_ (T : Txt w K mg) {g : List S -> Option (S × List S)} {k : Nat} (G : FnOk P w K mg base CX0 k T.a__law_alike T.d__law_alike ["_law_found", "_law_due"] (dO_ K 2 g)) : FnOk P w K mg base CX0 (k + 1) T.a__law_alike T.d__law_alike ["_law_found", "_law_due"] (dO_ K 2 (fnG 3 (f__law_alike g))) := by
 refine cR_ T.F__law_alike sc__law_alike (fun cdv A outer s H E as hr => ?_)
 exact ⟨_, (pss_cons (ps_if (pt_cmpR op_isN (pv 1) pe_non (nomark _)) (pss_one (ps_ret (pe_cmpR op_isN (pv 0) pe_non (nomark _)))) pss_nil)
  (pss_cons (ps_if (pt_val (pe_callB (r := rIsi K) call_isi (by rfl) T.n_isinstance (by decide +kernel) (pa_cons (pv 1) (pa_cons (pe_bltn (v := .ty "bool") (u := .type "bool") (by rfl) T.n_bool (by decide +kernel) rfl) pa_nil)))) (pss_one (ps_ret (pe_and (pe_callB (r := rIsi K) call_isi (by rfl) T.n_isinstance (by decide +kernel) (pa_cons (pv 0) (pa_cons (pe_bltn (v := .ty "bool") (u := .type "bool") (by rfl) T.n_bool (by decide +kernel) rfl) pa_nil))) (pe_one (pe_cmpR (r := rEqD K) (op_eqD hr.units) (pv 0) (pv 1) (nomark _)))))) pss_nil)
  (pss_cons (ps_if (pt_val (pe_callB (r := rIsi K) call_isi (by rfl) T.n_isinstance (by decide +kernel) (pa_cons (pv 1) (pa_cons (pe_bltn (v := .ty "int") (u := .type "int") (by rfl) T.n_int (by decide +kernel) rfl) pa_nil)))) (pss_one (ps_ret (pe_and (pe_callB (r := rIsi K) call_isi (by rfl) T.n_isinstance (by decide +kernel) (pa_cons (pv 0) (pa_cons (pe_bltn (v := .ty "int") (u := .type "int") (by rfl) T.n_int (by decide +kernel) rfl) pa_nil))) (pe_and (pe_not (pe_callB (r := rIsi K) call_isi (by rfl) T.n_isinstance (by decide +kernel) (pa_cons (pv 0) (pa_cons (pe_bltn (v := .ty "bool") (u := .type "bool") (by rfl) T.n_bool (by decide +kernel) rfl) pa_nil)))) (pe_one (pe_cmpR (r := rEqD K) (op_eqD hr.units) (pv 0) (pv 1) (nomark _))))))) pss_nil)
  (pss_cons (ps_if (pt_val (pe_callB (r := rIsi K) call_isi (by rfl) T.n_isinstance (by decide +kernel) (pa_cons (pv 1) (pa_cons (pe_bltn (v := .ty "str") (u := .type "str") (by rfl) T.n_str (by decide +kernel) rfl) pa_nil)))) (pss_one (ps_ret (pe_and (pe_callB (r := rIsi K) call_isi (by rfl) T.n_isinstance (by decide +kernel) (pa_cons (pv 0) (pa_cons (pe_bltn (v := .ty "str") (u := .type "str") (by rfl) T.n_str (by decide +kernel) rfl) pa_nil))) (pe_one (pe_cmpR (r := rEqD K) (op_eqD hr.units) (pv 0) (pv 1) (nomark _)))))) pss_nil)
  (pss_cons (ps_if (PW.pt (pw_or (pt_cmpR op_ne (pe_callB (r := rIsi K) call_isi (by rfl) T.n_isinstance (by decide +kernel) (pa_cons (pv 1) (pa_cons (pe_bltn (v := .ty "tuple") (u := .type "tuple") (by rfl) T.n_tuple (by decide +kernel) rfl) pa_nil))) (pe_callB (r := rIsi K) call_isi (by rfl) T.n_isinstance (by decide +kernel) (pa_cons (pv 0) (pa_cons (pe_bltn (v := .ty "tuple") (u := .type "tuple") (by rfl) T.n_tuple (by decide +kernel) rfl) pa_nil))) (nomark _)) (pw_or1 (pt_cmpR op_ne (pe_callB (r := rIsi K) call_isi (by rfl) T.n_isinstance (by decide +kernel) (pa_cons (pv 1) (pa_cons (pe_bltn (v := .ty "list") (u := .type "list") (by rfl) T.n_list (by decide +kernel) rfl) pa_nil))) (pe_callB (r := rIsi K) call_isi (by rfl) T.n_isinstance (by decide +kernel) (pa_cons (pv 0) (pa_cons (pe_bltn (v := .ty "list") (u := .type "list") (by rfl) T.n_list (by decide +kernel) rfl) pa_nil))) (nomark _))))) (pss_one (ps_ret pe_bl)) pss_nil)
  (pss_cons (ps_if (pt_cmpR op_ne (pe_callB (r := dE_ K) a5_ (by rfl) T.n_len PySem.boot_len (pa_cons (pv 0) pa_nil)) (pe_callB (r := dE_ K) a5_ (by rfl) T.n_len PySem.boot_len (pa_cons (pv 1) pa_nil)) (nomark _)) (pss_one (ps_ret pe_bl)) pss_nil)
  (pss_cons (ps_for PassesOwn.never rfl (pi_range1 (by rfl) T.n_range (pa_cons (pe_callB (r := dE_ K) a5_ (by rfl) T.n_len PySem.boot_len (pa_cons (pv 1) pa_nil)) pa_nil)) (pg_name (i := 2) sc__law_alike.nd rfl (Or.inl rfl)) (pss_one (ps_if (pt_not (pt_val (pe_call G (hr.mono (Nat.le_refl _)) rfl T.m__law_alike T.F__law_alike.kp T.b__law_alike .nil pass0 (pa_cons (pe_ix (r := pN_ K) mp_ (pv 0) (pv 2) (fun _ _ => rfl)) (pa_cons (pe_ix (r := pN_ K) mp_ (pv 1) (pv 2) (fun _ _ => rfl)) pa_nil))))) (pss_one (ps_ret pe_bl)) pss_nil)))
  (pss_one (ps_ret pe_bl))))))))),
  fun W => (aw_ (d5_ (aP_ (aN_ (bm_ g4_ zv1 (p_c (d := .none))))) (a4_ (aq_ (bm_ g4_ zv0 (p_c (d := .none))))) a6_)
  (aw_ (d5_ (aP_ (mb_ (dT_ (T := .bool) zv1))) (a4_ (aq_ (fP_ (dT_ (T := .bool) zv0) (bm_ iw_ zv0 zv1)))) a6_)
  (aw_ (d5_ (aP_ (mb_ (dT_ (T := .int) zv1))) (a4_ (aq_ (fP_ (dT_ (T := .int) zv0) (fP_ (jL_ (dT_ (T := .bool) zv0)) (bm_ iw_ zv0 zv1))))) a6_)
  (aw_ (d5_ (aP_ (mb_ (dT_ (T := .str) zv1))) (a4_ (aq_ (fP_ (dT_ (T := .str) zv0) (bm_ iw_ zv0 zv1)))) a6_)
  (aw_ (d5_ (aP_ (li_ (aN_ (bm_ gh_ (dT_ (T := .tuple) zv1) (dT_ (T := .tuple) zv0))) (aN_ (bm_ gh_ (dT_ (T := .list) zv1) (dT_ (T := .list) zv0))))) (a4_ (aq_ (p_c (d := .bool false)))) a6_)
  (aw_ (d5_ (aP_ (aN_ (bm_ gh_ (dU_ zv0) (dU_ zv1)))) (a4_ (aq_ (p_c (d := .bool false)))) a6_)
  (aw_ (gk_ (ep_ (dU_ zv1)) (br_ (i := 2) (by decide)) (fun _ => (d5_ (gd_ (lk_ (aD_ (ac_ (oH_ zv0 zv2) (ac_ (oH_ zv1 zv2) ar_)) (al_ (al_ aB_))))) (a4_ (aq_ (p_c (d := .bool false)))) a6_)))
  (a4_ (aq_ (p_c (d := .bool true)))))))))))⟩
theorem dI_ (T : Txt w K mg) : ∀ j : Nat, FnOk P w K mg base CX0 j T.a__law_alike T.d__law_alike ["_law_found", "_law_due"] (dO_ K 2 (g__law_alike j))
 | 0 => m5_ (ps := ["_law_found", "_law_due"])
 | j + 1 => fv_ T (dI_ T j)
theorem cX_ (T : Txt w K mg) : FnOk P w K mg base CX0 9 T.a__law_alike T.d__law_alike ["_law_found", "_law_due"] (dO_ K 2 (g__law_alike 9)) := dI_ T 9
theorem cH_ (T : Txt w K mg) : FnOk P w K mg base CX0 1 T.a__law_number T.d__law_number ["_law_word"] (dO_ K 1 g__law_number) := by
 refine cR_ T.F__law_number sc__law_number (fun cdv A outer s H E as hr => ?_)
 exact ⟨_, (pss_cons (ps_if (PW.pt (pw_or (pt_not (pt_chain op_le op_le pe_int (pe_callB call_len_str (by rfl) T.n_len PySem.boot_len (pa_cons (pv 0) pa_nil)) pe_int)) (pw_or1 (pt_cmpR (r := rNeD K) (op_neD hr.units) (pe_lc (own := [("_law_sign", 1)]) rfl sc__law_number.nd (pi_str (pv 0)) (blkOk_by (N := ["_law_word", "_law_sign"]) (sc := defScope b7_) (by decide +kernel)) (fun _ _ _ _ _ => pg_name (i := 1) sc__law_number.nd rfl (Or.inl rfl)) (fun _ _ _ _ _ => pts_one (pt_cmpR op_notin_str (pv 1) pe_str (by rfl))) (fun _ _ _ _ _ => (pv 1))) (pe_lst pa_nil) (nomark _))))) (pss_one (ps_ret pe_non)) pss_nil)
  (pss_one (ps_ret (pe_ifExp (pt_cmpR op_eq (pe_callTy gs_ (by rfl) T.n_str (by decide +kernel) (pa_cons (pe_callTy call_int_str (by rfl) T.n_int (by decide +kernel) (pa_cons (pv 0) pa_nil)) pa_nil)) (pv 0) (nomark _)) (pe_callTy call_int_str (by rfl) T.n_int (by decide +kernel) (pa_cons (pv 0) pa_nil)) pe_non)))),
  fun W => (aw_ (d5_ (p2_ (aP_ (lj_ (aN_ (hP_ i6_ i6_ (p_c (d := .int 1)) (hS_ gt_ (ac_ zv0 ar_)) (p_c (d := .int 7)))))) (iq_ (b3_ (fun a b => (bm_ me_) a b) (aA_ (jQ_ (by decide) (oU_ zv0) (fun _ => (aP_ (aN_ (bm_ nv_ zv1 (p_c (d := .str "0123456789")))))) (fun _ => (aq_ zv1))) (fun _ => (aI_ (bZ_ ar_) (fun _ => bw_))))))) (a4_ (aq_ (p_c (d := .none)))) a6_)
  (a4_ (aq_ (i5_ (aN_ (bm_ dS_ (hS_ ke_ (ac_ (hS_ fo_ (ac_ zv0 ar_)) ar_)) zv0)) (hS_ fo_ (ac_ zv0 ar_)) (p_c (d := .none))))))⟩
theorem fw_ (T : Txt w K mg) : FnOk P w K mg base CX0 2 T.a__law_edition T.d__law_edition ["_law_text"] (dO_ K 1 g__law_edition) := by
 refine cR_ T.F__law_edition sc__law_edition (fun cdv A outer s H E as hr => ?_)
 exact ⟨_, (pss_cons (ps_set (i := 1) sc__law_edition.nd rfl (Or.inl rfl) (pe_split (pv 0) pe_str))
  (pss_cons (ps_for PassesOwn.never rfl (pi_range1 (by rfl) T.n_range (pa_cons (pe_callB (r := dE_ K) a5_ (by rfl) T.n_len PySem.boot_len (pa_cons (pv 1) pa_nil)) pa_nil)) (pg_name (i := 2) sc__law_edition.nd rfl (Or.inl rfl)) (pss_cons (ps_set (i := 3) sc__law_edition.nd rfl (Or.inl rfl) (pe_call (cH_ T) (zrm hr) rfl T.m__law_number T.F__law_number.kp T.b__law_number .nil pass0 (pa_cons (pe_ix (r := rIxL K) ix_list (pv 1) (pv 2) (fun _ _ => rfl)) pa_nil)))
  (pss_one (ps_if (PW.pt (pw_or (pt_cmpR op_gt (pv 2) pe_int (nomark _)) (pw_or (PW.pt (pw_and (pt_cmpR op_isN (pv 3) pe_non (nomark _)) (pw_and1 (PW.pt (pw_or (pt_cmpR op_ne (pv 2) pe_int (nomark _)) (pw_or1 (pt_cmpR op_ne (pe_ix (r := rIxL K) ix_list (pv 1) pe_int (fun _ _ => rfl)) pe_str (nomark _)))))))) (pw_or1 (PW.pt (pw_and (pt_cmpR op_gt (pv 2) pe_int (nomark _)) (pw_and1 (pt_cmpR op_gt (pv 3) pe_int (nomark _))))))))) (pss_one (ps_ret (a1_ (pa_cons pe_str (pa_cons (pv 2) pa_nil))))) pss_nil))))
  (pss_cons (ps_if (pt_cmpR op_lt (pe_callB (r := dE_ K) a5_ (by rfl) T.n_len PySem.boot_len (pa_cons (pv 1) pa_nil)) pe_int (nomark _)) (pss_one (ps_ret (a1_ (pa_cons pe_str (pa_cons (pe_callB (r := dE_ K) a5_ (by rfl) T.n_len PySem.boot_len (pa_cons (pv 1) pa_nil)) pa_nil))))) pss_nil)
  (pss_cons (ps_setLc (i := 4) (own := [("_law_word", 5)]) rfl sc__law_edition.nd rfl rfl (sw_true rfl rfl rfl (by decide +kernel)) (pi_list (pv 1)) (blkOk_by (N := ["_law_text", "_law_words", "_law_place", "_law_number_here", "_law_found", "_law_word"]) (sc := defScope bR_) (by decide +kernel)) (fun _ _ _ _ _ => pg_name (i := 5) sc__law_edition.nd rfl (Or.inl rfl)) (fun _ _ _ _ _ => pts_nil) (fun _ _ _ _ _ => (pe_call (cH_ T) (zrm hr) rfl T.m__law_number T.F__law_number.kp T.b__law_number .nil pass0 (pa_cons (pv 5) pa_nil))))
  (pss_cons (ps_if (PW.pt (pw_or (pt_not (pt_chain op_le op_le pe_int (pe_ix (r := rIxL K) ix_list (pv 4) pe_int (fun _ _ => rfl)) (pe_op op_pow pe_int pe_int))) (pw_or1 (PW.pt (pw_and (pt_cmpR op_notN (pe_ix (r := rIxL K) ix_list (pv 4) pe_int (fun _ _ => rfl)) pe_non (nomark _)) (pw_and1 (pt_cmpR op_gt (pe_ix (r := rIxL K) ix_list (pv 4) pe_int (fun _ _ => rfl)) (pe_op op_pow pe_int pe_int) (nomark _)))))))) (pss_one (ps_ret (a1_ (pa_cons pe_str (pa_cons pe_int pa_nil))))) pss_nil)
  (pss_one (ps_ret (a1_ (pa_cons (pe_ix (r := rIxL K) ix_list (pv 4) pe_int (fun _ _ => rfl)) (pa_cons (pe_ix (r := rIxL K) ix_list (pv 4) pe_int (fun _ _ => rfl)) (pa_cons (pe_callTy (r := jI_ K) hM_ (by rfl) T.n_tuple (by decide +kernel) (pa_cons (pe_slice (r := rSlL K) sl_list (pv 4) (po_some pe_int) po_none) pa_nil)) pa_nil))))))))))),
  fun W => (aw_ (aR_ (by decide) (dj_ zv0 (p_c (d := .str " "))))
  (aw_ (gk_ (ep_ (dU_ zv1)) (br_ (i := 2) (by decide)) (fun _ => (aw_ (c4_ (by decide) (aD_ (ac_ (bt_ zv1 zv2) ar_) (al_ aB_)))
  (d5_ (aP_ (li_ (aN_ (bm_ g3_ zv2 (p_c (d := .int 13)))) (li_ (lh_ (aN_ (bm_ g4_ zv3 (p_c (d := .none)))) (li_ (aN_ (bm_ gh_ zv2 (p_c (d := .int 1)))) (aN_ (bm_ gh_ (bt_ zv1 (p_c (d := .int 1))) (p_c (d := .str "-")))))) (lh_ (aN_ (bm_ g3_ zv2 (p_c (d := .int 1)))) (aN_ (bm_ g3_ zv3 (p_c (d := .int 19)))))))) (a4_ (aq_ (de_ (ac_ (p_c (d := .str "BadText")) (ac_ zv2 ar_))))) a6_))))
  (aw_ (d5_ (aP_ (aN_ (bm_ ll_ (dU_ zv1) (p_c (d := .int 14))))) (a4_ (aq_ (de_ (ac_ (p_c (d := .str "BadText")) (ac_ (dU_ zv1) ar_))))) a6_)
  (aw_ (c4_ (by decide) (jQ_ (by decide) (gj_ zv1) (fun _ => fj_) (fun _ => (aD_ (ac_ zv5 ar_) (al_ aB_)))))
  (aw_ (d5_ (aP_ (li_ (lj_ (aN_ (hP_ i6_ i6_ (p_c (d := .int 1)) (bt_ zv4 (p_c (d := .int 0))) (bm_ hm_ (p_c (d := .int 10)) (p_c (d := .int 6)))))) (lh_ (aN_ (bm_ jN_ (bt_ zv4 (p_c (d := .int 1))) (p_c (d := .none)))) (aN_ (bm_ g3_ (bt_ zv4 (p_c (d := .int 1))) (bm_ hm_ (p_c (d := .int 10)) (p_c (d := .int 6)))))))) (a4_ (aq_ (de_ (ac_ (p_c (d := .str "BadEdition")) (ac_ (p_c (d := .int 0)) ar_))))) a6_)
  (a4_ (aq_ (de_ (ac_ (bt_ zv4 (p_c (d := .int 0))) (ac_ (bt_ zv4 (p_c (d := .int 1))) (ac_ (p8_ gm_ (ac_ (b6_ zv4 (bY_ (p_c (d := .int 2))) bk_) ar_)) ar_)))))))))))⟩
theorem hz_ (T : Txt w K mg) : FnOk P w K mg base CX0 2 T.a__law_step T.d__law_step ["_law_row"] (dO_ K 1 g__law_step) := by
 refine cR_ T.F__law_step sc__law_step (fun cdv A outer s H E as hr => ?_)
 have hu := hu_of hr
 exact ⟨_, (pss_cons (ps_set (i := 1) sc__law_step.nd rfl (Or.inl rfl) (pe_split (pv 0) pe_str))
  (pss_cons (ps_set (i := 2) sc__law_step.nd rfl (Or.inl rfl) (pe_disp (pps_cons pe_str pe_int (pps_cons pe_str pe_int (pps_cons pe_str pe_int (pps_cons pe_str pe_int (pps_cons pe_str pe_int (pps_cons pe_str pe_int (pps_cons pe_str pe_int (pps_cons pe_str pe_int (pps_cons pe_str pe_int pps_nil))))))))) (by rfl) (by rfl) (fun z => by cases z) (by decide)))
  (pss_cons (ps_if (pt_cmpR op_ne (pe_dget2 hu (pv 2) (pe_ix (r := rIxL K) ix_list (pv 1) pe_int (fun _ _ => rfl)) (pe_un un_neg pe_int) ⟨rfl, rfl, rfl, rfl⟩) (pe_op op_sub (pe_callB (r := dE_ K) a5_ (by rfl) T.n_len PySem.boot_len (pa_cons (pv 1) pa_nil)) pe_int) (nomark _)) (pss_one (ps_ret pe_non)) pss_nil)
  (pss_cons (ps_set (i := 3) sc__law_step.nd rfl (Or.inl rfl) (a1_ (pa_cons (pe_ix (r := rIxL K) ix_list (pv 1) pe_int (fun _ _ => rfl)) pa_nil)))
  (pss_cons (ps_for PassesOwn.never rfl (pi_list (pe_slice (r := rSlL K) sl_list (pv 1) (po_some pe_int) po_none)) (pg_name (i := 4) sc__law_step.nd rfl (Or.inl rfl)) (pss_cons (ps_set (i := 5) sc__law_step.nd rfl (Or.inl rfl) (pe_call (cH_ T) (zrm hr) rfl T.m__law_number T.F__law_number.kp T.b__law_number .nil pass0 (pa_cons (pe_ifExp (pt_cmpR op_eq (pe_slice (r := C8.rSlX) C8.sl_txt (pv 4) po_none (po_some pe_int)) pe_str (nomark _)) (pe_slice (r := C8.rSlX) C8.sl_txt (pv 4) (po_some pe_int) po_none) (pv 4)) pa_nil)))
  (pss_cons (ps_if (PW.pt (pw_or (pt_cmpR op_isN (pv 5) pe_non (nomark _)) (pw_or1 (PW.pt (pw_and (pt_cmpR op_eq (pe_slice (r := C8.rSlX) C8.sl_txt (pv 4) po_none (po_some pe_int)) pe_str (nomark _)) (pw_and1 (pt_cmpR op_eq (pv 5) pe_int (nomark _)))))))) (pss_one (ps_ret pe_non)) pss_nil)
  (pss_one (ps_set (i := 3) sc__law_step.nd rfl (Or.inl rfl) (pe_op (r := mR_ K) mS_ (pv 3) (a1_ (pa_cons (pe_ifExp (pt_cmpR op_eq (pe_slice (r := C8.rSlX) C8.sl_txt (pv 4) po_none (po_some pe_int)) pe_str (nomark _)) (pe_op op_sub pe_int (pv 5)) (pv 5)) pa_nil))))))))
  (pss_one (ps_ret (pv 3)))))))),
  fun W => (aw_ (aR_ (by decide) (dj_ zv0 (p_c (d := .str " "))))
  (aw_ (c4_ (by decide) (oF_ (fun _ => (ed_ (aq_ (p_c (d := .str "come"))) (fun _ => (aq_ (p_c (d := .int 1)))) (fun _ => (ed_ (aq_ (p_c (d := .str "farewell"))) (fun _ => (aq_ (p_c (d := .int 1)))) (fun _ => (ed_ (aq_ (p_c (d := .str "turn"))) (fun _ => (aq_ (p_c (d := .int 0)))) (fun _ => (ed_ (aq_ (p_c (d := .str "ask"))) (fun _ => (aq_ (p_c (d := .int 3)))) (fun _ => (ed_ (aq_ (p_c (d := .str "send"))) (fun _ => (aq_ (p_c (d := .int 0)))) (fun _ => (ed_ (aq_ (p_c (d := .str "carry"))) (fun _ => (aq_ (p_c (d := .int 1)))) (fun _ => (ed_ (aq_ (p_c (d := .str "twice"))) (fun _ => (aq_ (p_c (d := .int 1)))) (fun _ => (ed_ (aq_ (p_c (d := .str "lose"))) (fun _ => (aq_ (p_c (d := .int 1)))) (fun _ => (ed_ (aq_ (p_c (d := .str "settle"))) (fun _ => (aq_ (p_c (d := .int 1)))) (fun _ => qa_)))))))))))))))))))))
  (aw_ (d5_ (aP_ (aN_ (bm_ gh_ (na_ zv2 (bt_ zv1 (p_c (d := .int 0))) (om_ (p_c (d := .int 1)))) (bm_ g2_ (dU_ zv1) (p_c (d := .int 1)))))) (a4_ (aq_ (p_c (d := .none)))) a6_)
  (aw_ (aR_ (by decide) (de_ (ac_ (bt_ zv1 (p_c (d := .int 0))) ar_)))
  (aw_ (gk_ (gj_ (b6_ zv1 (bY_ (p_c (d := .int 1))) bk_)) (br_ (i := 4) (by decide)) (fun _ => (aw_ (c4_ (by decide) (aD_ (ac_ (i5_ (aN_ (bm_ dS_ (dd_ (r := C8.rSlX) (f := eZ_) fs_ zv4 bk_ (bY_ (p_c (d := .int 1)))) (p_c (d := .str "-")))) (dd_ (r := C8.rSlX) (f := eZ_) fs_ zv4 (bY_ (p_c (d := .int 1))) bk_) zv4) ar_) (al_ aB_)))
  (aw_ (d5_ (aP_ (li_ (aN_ (bm_ g4_ zv5 (p_c (d := .none)))) (lh_ (aN_ (bm_ dS_ (dd_ (r := C8.rSlX) (f := eZ_) fs_ zv4 bk_ (bY_ (p_c (d := .int 1)))) (p_c (d := .str "-")))) (aN_ (bm_ dS_ zv5 (p_c (d := .int 0))))))) (a4_ (aq_ (p_c (d := .none)))) a6_)
  (aR_ (by decide) (dc_ m0_ zv3 (de_ (ac_ (i5_ (aN_ (bm_ dS_ (dd_ (r := C8.rSlX) (f := eZ_) fs_ zv4 bk_ (bY_ (p_c (d := .int 1)))) (p_c (d := .str "-")))) (bm_ g2_ (p_c (d := .int 0)) zv5) zv5) ar_))))))))
  (a4_ (hf_ (i := 3) (by decide))))))))⟩
theorem gD_ (T : Txt w K mg) : FnOk P w K mg base CX0 3 T.a__law_steps T.d__law_steps ["_law_text"] (dO_ K 1 g__law_steps) := by
 refine cR_ T.F__law_steps sc__law_steps (fun cdv A outer s H E as hr => ?_)
 exact ⟨_, (pss_cons (ps_set (i := 1) sc__law_steps.nd rfl (Or.inl rfl) (pe_ifExp (pt_cmpR op_ne (pv 0) pe_str (nomark _)) (pe_lc (own := [("_law_row", 2)]) rfl sc__law_steps.nd (pi_list (pe_split (pv 0) pe_str)) (blkOk_by (N := ["_law_text", "_law_found", "_law_row"]) (sc := defScope cB_) (by decide +kernel)) (fun _ _ _ _ _ => pg_name (i := 2) sc__law_steps.nd rfl (Or.inl rfl)) (fun _ _ _ _ _ => pts_nil) (fun _ _ _ _ _ => (pe_call (hz_ T) (zrm hr) rfl T.m__law_step T.F__law_step.kp T.b__law_step .nil pass0 (pa_cons (pv 2) pa_nil)))) (pe_lst pa_nil)))
  (pss_one (ps_ret (pe_ifExp (pt_cmpR (r := rInD K) (op_inD (mo_ hr)) pe_non (pv 1) (by rfl)) (a1_ (pa_cons pe_str (pa_cons (hJ_ (t := fun K => tBM K "list" (rIndexD K) _ _) (pe_bm PySem.F.plainAttrs_list PySem.F.slot_list_index PySem.F.type_list_index (mt_indexD (mo_ hr)) (pv 1) (pa_cons pe_non pa_nil))) pa_nil))) (pv 1))))),
  fun W => (aw_ (c4_ (by decide) (lr_ (aP_ (aN_ (bm_ gh_ zv0 (p_c (d := .str ""))))) (jQ_ (by decide) (gj_ (dj_ zv0 (p_c (d := .str "\n")))) (fun _ => fj_) (fun _ => (aD_ (ac_ zv2 ar_) (al_ aB_)))) (aq_ (bZ_ ar_))))
  (a4_ (lr_ (aP_ (aN_ (dc_ oE_ (p_c (d := .none)) zv1))) (hi_ (aI_ (p_c (d := .str "BadText")) (fun _ => (aA_ (gl_ kr_ zv1 (p_c (d := .none))) (fun _ => bw_))))) (hf_ (i := 1) (by decide)))))⟩
theorem dJ_ (T : Txt w K mg) : FnOk P w K mg base CX0 2 T.a__law_spoilt T.d__law_spoilt ["_law_box", "_law_text"] (dO_ K 2 g__law_spoilt) := by
 refine cR_ T.F__law_spoilt sc__law_spoilt (fun cdv A outer s H E as hr => ?_)
 exact ⟨_, (pss_cons (ps_set (i := 2) sc__law_spoilt.nd rfl (Or.inl rfl) (pe_call (av_ T) (zrm hr) rfl T.m__law_take T.F__law_take.kp T.b__law_take .nil pass0 (pa_cons (pv 0) (pa_cons pe_int pa_nil))))
  (pss_cons (ps_set (i := 3) sc__law_spoilt.nd rfl (Or.inl rfl) (pe_call (av_ T) (zrm hr) rfl T.m__law_take T.F__law_take.kp T.b__law_take .nil pass0 (pa_cons (pv 0) (pa_cons (pe_op op_add (pe_callB call_len_str (by rfl) T.n_len PySem.boot_len (pa_cons (pv 1) pa_nil)) pe_int) pa_nil))))
  (pss_cons (ps_set (i := 4) sc__law_spoilt.nd rfl (Or.inl rfl) pe_str)
  (pss_cons (ps_set (i := 5) sc__law_spoilt.nd rfl (Or.inl rfl) (pe_ix (r := rIxS) ix_str (pv 4) (pe_call (av_ T) (zrm hr) rfl T.m__law_take T.F__law_take.kp T.b__law_take .nil pass0 (pa_cons (pv 0) (pa_cons (pe_ix (r := rIxL K) ix_list (pe_lst (pa_cons pe_int (pa_cons (pe_callB call_len_str (by rfl) T.n_len PySem.boot_len (pa_cons (pv 4) pa_nil)) pa_nil))) (pe_call (av_ T) (zrm hr) rfl T.m__law_take T.F__law_take.kp T.b__law_take .nil pass0 (pa_cons (pv 0) (pa_cons pe_int pa_nil))) (fun _ _ => rfl)) pa_nil))) (fun _ _ => rfl)))
  (pss_cons (ps_set (i := 5) sc__law_spoilt.nd rfl (Or.inl rfl) (pe_ix (r := rIxL K) ix_list (pe_lst (pa_cons (pv 5) (pa_cons pe_str (pa_cons (pe_ix (r := rIxS) ix_str (pv 4) (pe_call (av_ T) (zrm hr) rfl T.m__law_take T.F__law_take.kp T.b__law_take .nil pass0 (pa_cons (pv 0) (pa_cons pe_int pa_nil))) (fun _ _ => rfl)) pa_nil)))) (pe_callB (call_min2 rfl) (by rfl) T.n_min (by decide +kernel) (pa_cons (pv 2) (pa_cons pe_int pa_nil))) (fun _ _ => rfl)))
  (pss_cons (ps_if (pt_cmpR op_lt (pv 2) pe_int (nomark _)) (pss_one (ps_ret (pe_op op_add_str (pe_op op_add_str (pe_slice (r := C8.rSlX) C8.sl_txt (pv 1) po_none (po_some (pv 3))) (pv 5)) (pe_slice (r := C8.rSlX) C8.sl_txt (pv 1) (po_some (pe_op op_add (pv 3) (pe_callTy call_int1 (by rfl) T.n_int (by decide +kernel) (pa_cons (pe_cmpR op_gt (pv 2) pe_int (nomark _)) pa_nil)))) po_none)))) pss_nil)
  (pss_cons (ps_set (i := 6) sc__law_spoilt.nd rfl (Or.inl rfl) (pe_split (pv 1) pe_str))
  (pss_cons (ps_set (i := 7) sc__law_spoilt.nd rfl (Or.inl rfl) (pe_call (av_ T) (zrm hr) rfl T.m__law_take T.F__law_take.kp T.b__law_take .nil pass0 (pa_cons (pv 0) (pa_cons (pe_callB (r := dE_ K) a5_ (by rfl) T.n_len PySem.boot_len (pa_cons (pv 6) pa_nil)) pa_nil))))
  (pss_cons (ps_if (pt_cmpR op_lt (pv 2) pe_int (nomark _)) (pss_one (ps_ret (hJ_ (t := fun K => tM1 (fn_ K) _ _) (pe_join pe_str (pe_op (r := dV_ K) bM_ (pe_op (r := dV_ K) bM_ (pe_slice (r := rSlL K) sl_list (pv 6) po_none (po_some (pv 7))) (pe_op (r := rRep) op_rep (pe_slice (r := rSlL K) sl_list (pv 6) (po_some (pv 7)) (po_some (pe_op op_add (pv 7) pe_int))) (pe_ix (r := rIxL K) ix_list (pe_lst (pa_cons pe_int (pa_cons pe_int pa_nil))) (pe_op op_sub (pv 2) pe_int) (fun _ _ => rfl)))) (pe_slice (r := rSlL K) sl_list (pv 6) (po_some (pe_op op_add (pv 7) pe_int)) po_none)))))) pss_nil)
  (pss_cons (ps_set (i := 8) sc__law_spoilt.nd rfl (Or.inl rfl) (pe_split (pe_ix (r := rIxL K) ix_list (pv 6) (pv 7) (fun _ _ => rfl)) pe_str))
  (pss_cons (ps_set (i := 9) sc__law_spoilt.nd rfl (Or.inl rfl) (pe_call (av_ T) (zrm hr) rfl T.m__law_take T.F__law_take.kp T.b__law_take .nil pass0 (pa_cons (pv 0) (pa_cons (pe_callB (r := dE_ K) a5_ (by rfl) T.n_len PySem.boot_len (pa_cons (pv 8) pa_nil)) pa_nil))))
  (pss_cons (ps_set (i := 10) sc__law_spoilt.nd rfl (Or.inl rfl) (pe_lst (pa_cons pe_str (pa_cons pe_str (pa_cons pe_str (pa_cons pe_str (pa_cons pe_str (pa_cons pe_str (pa_cons pe_str (pa_cons pe_str (pa_cons pe_str (pa_cons pe_str (pa_cons pe_str (pa_cons pe_str (pa_cons pe_str (pa_cons pe_str (pa_cons pe_str pa_nil)))))))))))))))))
  (pss_cons (ps_set (i := 8) sc__law_spoilt.nd rfl (Or.inl rfl) (pe_op (r := dV_ K) bM_ (pe_op (r := dV_ K) bM_ (pe_slice (r := rSlL K) sl_list (pv 8) po_none (po_some (pv 9))) (pe_ix (r := rIxL K) ix_list (pe_lst (pa_cons (pe_lst pa_nil) (pa_cons (pe_op (r := rRep) op_rep (pe_lst (pa_cons (pe_ix (r := rIxL K) ix_list (pv 8) (pv 9) (fun _ _ => rfl)) pa_nil)) pe_int) (pa_cons (pe_lst (pa_cons (pe_ix (r := rIxL K) ix_list (pv 10) (pe_call (av_ T) (zrm hr) rfl T.m__law_take T.F__law_take.kp T.b__law_take .nil pass0 (pa_cons (pv 0) (pa_cons pe_int pa_nil))) (fun _ _ => rfl)) pa_nil)) pa_nil)))) (pe_op op_sub (pv 2) pe_int) (fun _ _ => rfl))) (pe_slice (r := rSlL K) sl_list (pv 8) (po_some (pe_op op_add (pv 9) pe_int)) po_none)))
  (pss_one (ps_ret (hJ_ (t := fun K => tM1 (fn_ K) _ _) (pe_join pe_str (pe_op (r := dV_ K) bM_ (pe_op (r := dV_ K) bM_ (pe_slice (r := rSlL K) sl_list (pv 6) po_none (po_some (pv 7))) (pe_lst (pa_cons (hJ_ (t := fun K => tM1 (fn_ K) _ _) (pe_join pe_str (pv 8))) pa_nil))) (pe_slice (r := rSlL K) sl_list (pv 6) (po_some (pe_op op_add (pv 7) pe_int)) po_none))))))))))))))))))),
  fun W => (aw_ (c4_ (by decide) (aD_ (ac_ zv0 (ac_ (p_c (d := .int 8)) ar_)) (al_ (al_ aB_))))
  (aw_ (c4_ (by decide) (aD_ (ac_ zv0 (ac_ (bm_ d6_ (hS_ gt_ (ac_ zv1 ar_)) (p_c (d := .int 1))) ar_)) (al_ (al_ aB_))))
  (aw_ (aR_ (by decide) (p_c (d := .str "0123456789 -\nascturnbdefghijklmopqvwxyz!#$&'()*+,./:;<=>?@ABCDEFGHIJKLMNOPQRSTUVWXYZ[]^_`{|}~")))
  (aw_ (c4_ (by decide) (mY_ my_ (aq_ zv4) (eq_ (aI_ zv0 (fun _ => (aA_ (b3_ (fun a b => bt_ a b) (aI_ (bZ_ (ac_ (p_c (d := .int 20)) (ac_ (hS_ gt_ (ac_ zv4 ar_)) ar_))) (fun _ => (aA_ (aD_ (ac_ zv0 (ac_ (p_c (d := .int 2)) ar_)) (al_ (al_ aB_))) (fun _ => bw_))))) (fun _ => bw_)))))))
  (aw_ (c4_ (by decide) (b3_ (fun a b => bt_ a b) (aA_ (i9_ (aI_ zv5 (fun _ => (aI_ (p_c (d := .str "")) (fun _ => (aA_ (mY_ my_ (aq_ zv4) (aD_ (ac_ zv0 (ac_ (p_c (d := .int 13)) ar_)) (al_ (al_ aB_)))) (fun _ => bw_))))))) (fun _ => (aI_ (hS_ mZ_ (ac_ zv2 (ac_ (p_c (d := .int 2)) ar_))) (fun _ => bw_))))))
  (aw_ (d5_ (aP_ (aN_ (bm_ ll_ zv2 (p_c (d := .int 3))))) (a4_ (aq_ (bm_ kd_ (bm_ kd_ (dd_ (r := C8.rSlX) (f := eZ_) fs_ zv1 bk_ (bY_ zv3)) zv5) (dd_ (r := C8.rSlX) (f := eZ_) fs_ zv1 (bY_ (bm_ d6_ zv3 (hS_ mh_ (ac_ (bm_ g3_ zv2 (p_c (d := .int 0))) ar_)))) bk_)))) a6_)
  (aw_ (aR_ (by decide) (dj_ zv1 (p_c (d := .str "\n"))))
  (aw_ (c4_ (by decide) (aD_ (ac_ zv0 (ac_ (dU_ zv6) ar_)) (al_ (al_ aB_))))
  (aw_ (d5_ (aP_ (aN_ (bm_ ll_ zv2 (p_c (d := .int 5))))) (a4_ (fY_ (p_c (d := .str "\n")) (aq_ (dc_ bN_ (dc_ bN_ (b6_ zv6 bk_ (bY_ (bB_ (i := 7) (by decide)))) (dc_ ml_ (b6_ zv6 (bY_ (bB_ (i := 7) (by decide))) (bY_ (bm_ d6_ (bB_ (i := 7) (by decide)) (p_c (d := .int 1))))) (bt_ (bZ_ (ac_ (p_c (d := .int 0)) (ac_ (p_c (d := .int 2)) ar_))) (bm_ g2_ zv2 (p_c (d := .int 3)))))) (b6_ zv6 (bY_ (bm_ d6_ (bB_ (i := 7) (by decide)) (p_c (d := .int 1)))) bk_))))) a6_)
  (aw_ (aR_ (by decide) (dj_ (bt_ zv6 (bB_ (i := 7) (by decide))) (p_c (d := .str " "))))
  (aw_ (c4_ (by decide) (aD_ (ac_ zv0 (ac_ (dU_ (bB_ (i := 8) (by decide))) ar_)) (al_ (al_ aB_))))
  (aw_ (aR_ (by decide) (bZ_ (ac_ (p_c (d := .str "")) (ac_ (p_c (d := .str "0")) (ac_ (p_c (d := .str "00")) (ac_ (p_c (d := .str "-")) (ac_ (p_c (d := .str "-1")) (ac_ (p_c (d := .str "-0")) (ac_ (p_c (d := .str "19")) (ac_ (p_c (d := .str "20")) (ac_ (p_c (d := .str "1000000")) (ac_ (p_c (d := .str "1000001")) (ac_ (p_c (d := .str "10000000")) (ac_ (p_c (d := .str "ask")) (ac_ (p_c (d := .str "turn")) (ac_ (p_c (d := .str "x")) (ac_ (p_c (d := .str "7 8")) ar_)))))))))))))))))
  (aw_ (c4_ (by decide) (b3_ (fun a b => (dc_ bN_) a b) (aA_ (b3_ (fun a b => (dc_ bN_) a b) (aI_ (b6_ (bB_ (i := 8) (by decide)) bk_ (bY_ (bB_ (i := 9) (by decide)))) (fun _ => (aA_ (b3_ (fun a b => bt_ a b) (aA_ (i9_ (aI_ (nh_ (bZ_ ar_)) (fun _ => (aI_ (nh_ (dc_ ml_ (bZ_ (ac_ (bt_ (bB_ (i := 8) (by decide)) (bB_ (i := 9) (by decide))) ar_)) (p_c (d := .int 2)))) (fun _ => (aA_ (je_ (i9_ (aA_ (b3_ (fun a b => bt_ a b) (aI_ (bB_ (i := 10) (by decide)) (fun _ => (aA_ (aD_ (ac_ zv0 (ac_ (p_c (d := .int 15)) ar_)) (al_ (al_ aB_))) (fun _ => bw_))))) (fun _ => bw_)))) (fun _ => bw_))))))) (fun _ => (aI_ (bm_ g2_ zv2 (p_c (d := .int 5))) (fun _ => bw_))))) (fun _ => bw_))))) (fun _ => (aI_ (b6_ (bB_ (i := 8) (by decide)) (bY_ (bm_ d6_ (bB_ (i := 9) (by decide)) (p_c (d := .int 1)))) bk_) (fun _ => bw_))))))
  (a4_ (fY_ (p_c (d := .str "\n")) (b3_ (fun a b => (dc_ bN_) a b) (aA_ (b3_ (fun a b => (dc_ bN_) a b) (aI_ (b6_ zv6 bk_ (bY_ (bB_ (i := 7) (by decide)))) (fun _ => (aA_ (i9_ (aA_ (fY_ (p_c (d := .str " ")) (hf_ (i := 8) (by decide))) (fun _ => bw_))) (fun _ => bw_))))) (fun _ => (aI_ (b6_ zv6 (bY_ (bm_ d6_ (bB_ (i := 7) (by decide)) (p_c (d := .int 1)))) bk_) (fun _ => bw_))))))))))))))))))))⟩
theorem gE_ (T : Txt w K mg) : FnOk P w K mg base CX0 2 T.a__law_drawn T.d__law_drawn ["_law_box"] (dO_ K 1 g__law_drawn) := by
 refine cR_ T.F__law_drawn sc__law_drawn (fun cdv A outer s H E as hr => ?_)
 exact ⟨_, (pss_cons (ps_set (i := 1) sc__law_drawn.nd rfl (Or.inl rfl) (pe_lst pa_nil))
  (pss_cons (ps_for PassesOwn.never rfl (pi_range1 (by rfl) T.n_range (pa_cons (pe_call (av_ T) (zrm hr) rfl T.m__law_take T.F__law_take.kp T.b__law_take .nil pass0 (pa_cons (pv 0) (pa_cons pe_int pa_nil))) pa_nil)) (pg_name (i := 2) sc__law_drawn.nd rfl (Or.inl rfl)) (pss_cons (ps_par (i := 3) (j := 4) (by rfl) sc__law_drawn.nd rfl rfl (by decide) rfl rfl (pa_cons (pe_call (av_ T) (zrm hr) rfl T.m__law_take T.F__law_take.kp T.b__law_take .nil pass0 (pa_cons (pv 0) (pa_cons (pe_ix (r := rIxL K) ix_list (pe_lst (pa_cons pe_int (pa_cons (pe_op op_pow pe_int pe_int) pa_nil))) (pe_call (av_ T) (zrm hr) rfl T.m__law_take T.F__law_take.kp T.b__law_take .nil pass0 (pa_cons (pv 0) (pa_cons pe_int pa_nil))) (fun _ _ => rfl)) pa_nil))) (pa_cons (pe_op op_sub (pe_call (av_ T) (zrm hr) rfl T.m__law_take T.F__law_take.kp T.b__law_take .nil pass0 (pa_cons (pv 0) (pa_cons pe_int pa_nil))) pe_int) pa_nil)) (by rfl))
  (pss_cons (ps_set (i := 5) sc__law_drawn.nd rfl (Or.inl rfl) (pe_lst (pa_cons (a1_ (pa_cons pe_str (pa_cons (pv 3) pa_nil))) (pa_cons (a1_ (pa_cons pe_str (pa_cons (pv 4) pa_nil))) (pa_cons (a1_ (pa_cons pe_str pa_nil)) (pa_cons (a1_ (pa_cons pe_str (pa_cons (pv 3) (pa_cons (pe_call (av_ T) (zrm hr) rfl T.m__law_take T.F__law_take.kp T.b__law_take .nil pass0 (pa_cons (pv 0) (pa_cons pe_int pa_nil))) (pa_cons (pv 4) pa_nil))))) (pa_cons (a1_ (pa_cons pe_str pa_nil)) pa_nil)))))))
  (pss_cons (ps_set (i := 5) sc__law_drawn.nd rfl (Or.inl rfl) (pe_op (r := dV_ K) bM_ (pv 5) (pe_lst (pa_cons (a1_ (pa_cons pe_str (pa_cons (pv 3) pa_nil))) (pa_cons (a1_ (pa_cons pe_str (pa_cons (pv 3) pa_nil))) (pa_cons (a1_ (pa_cons pe_str (pa_cons (pv 4) pa_nil))) (pa_cons (a1_ (pa_cons pe_str (pa_cons (pv 3) pa_nil))) pa_nil)))))))
  (pss_one (ps_expr (hJ_ (t := fun K => tBM K "list" rAppend _ _) (pe_bm PySem.F.plainAttrs_list PySem.F.slot_list_append PySem.F.type_list_append mt_append (pv 1) (pa_cons (pe_ix (r := rIxL K) ix_list (pv 5) (pe_call (av_ T) (zrm hr) rfl T.m__law_take T.F__law_take.kp T.b__law_take .nil pass0 (pa_cons (pv 0) (pa_cons pe_int pa_nil))) (fun _ _ => rfl)) pa_nil)))))))))
  (pss_one (ps_ret (pv 1))))),
  fun W => (aw_ (aR_ (by decide) (bZ_ ar_))
  (aw_ (gk_ (iz_ (aD_ (ac_ zv0 (ac_ (p_c (d := .int 9)) ar_)) (al_ (al_ aB_)))) (br_ (i := 2) (by decide)) (fun _ => (aw_ (oG_ (by decide) (by decide) (aA_ (eq_ (aI_ zv0 (fun _ => (aA_ (b3_ (fun a b => bt_ a b) (aI_ (bZ_ (ac_ (p_c (d := .int 20)) (ac_ (bm_ hm_ (p_c (d := .int 10)) (p_c (d := .int 6))) ar_))) (fun _ => (aA_ (aD_ (ac_ zv0 (ac_ (p_c (d := .int 2)) ar_)) (al_ (al_ aB_))) (fun _ => bw_))))) (fun _ => bw_))))) (fun _ => (aA_ (mY_ g2_ (aD_ (ac_ zv0 (ac_ (p_c (d := .int 199)) ar_)) (al_ (al_ aB_))) (aq_ (p_c (d := .int 99)))) (fun _ => bw_)))))
  (aw_ (c4_ (by decide) (i9_ (aI_ (de_ (ac_ (p_c (d := .str "come")) (ac_ zv3 ar_))) (fun _ => (aI_ (de_ (ac_ (p_c (d := .str "farewell")) (ac_ zv4 ar_))) (fun _ => (aI_ (de_ (ac_ (p_c (d := .str "turn")) ar_)) (fun _ => (aA_ (hi_ (aI_ (p_c (d := .str "ask")) (fun _ => (aI_ zv3 (fun _ => (aA_ (aD_ (ac_ zv0 (ac_ (p_c (d := .int 12)) ar_)) (al_ (al_ aB_))) (fun _ => (aI_ zv4 (fun _ => bw_))))))))) (fun _ => (aI_ (de_ (ac_ (p_c (d := .str "send")) ar_)) (fun _ => bw_))))))))))))
  (aw_ (aR_ (by decide) (dc_ bN_ zv5 (bZ_ (ac_ (de_ (ac_ (p_c (d := .str "carry")) (ac_ zv3 ar_))) (ac_ (de_ (ac_ (p_c (d := .str "twice")) (ac_ zv3 ar_))) (ac_ (de_ (ac_ (p_c (d := .str "lose")) (ac_ zv4 ar_))) (ac_ (de_ (ac_ (p_c (d := .str "settle")) (ac_ zv3 ar_))) ar_)))))))
  (fQ_ (oz_ d9_ zv1 (fun _ => (b3_ (fun a b => bt_ a b) (aI_ zv5 (fun _ => (aA_ (aD_ (ac_ zv0 (ac_ (p_c (d := .int 9)) ar_)) (al_ (al_ aB_))) (fun _ => bw_)))))))))))))
  (a4_ (hf_ (i := 1) (by decide)))))⟩
end
section
variable {P : Program} {w : World} {K : PySem.W.Frag} {mg : Str -> Option Value} {base : Heap}
theorem kx_ (T : Txt w K mg) (n : Nat) : LamOk P w K mg base 6 ["_law_one"] (lam_law_0 n) gy_ where
 S := ⟨rfl, rfl, rfl, (by decide +kernel : ∀ y ∈ (eY_ b9_).names, y.2 ≠ .cell), (by decide +kernel : ∀ x ∈ (["_law_one"] : List Str), (eY_ b9_).names.lookup x ≠ some .local)⟩
 hb := ⟨fun _ _ _ _ _ _ _ => rfl, fun h => absurd rfl h⟩
 nd := by decide
 has := by
  intro y hy hf
  have h1 : y.1 ∈ (["_law_one"] : List Str) := (by decide +kernel : ∀ y ∈ (eY_ b9_).names, y.2 = .free -> y.1 ∈ (["_law_one"] : List Str)) y hy hf
  simp only [List.mem_cons, List.not_mem_nil, or_false] at h1
  rcases h1 with h1
  all_goals rw [h1]; exact ⟨_, rfl⟩
 inj := f2_ (show ([n + 2] : List Addr).Nodup by simp)
 ev := by
  refine ⟨_, gx_, rfl, fun f c' A outer s H E hr => (pe_callS (nx_ T) (zrm hr) rfl T.m_read T.F_read.kp T.b_read (fun σ => passAt (takes_of rfl rfl rfl rfl) σ) (pa_cons (pv 0) pa_nil)), fun E as => ?_⟩
  unfold gx_
  exact (iF_ (W := WL E) (ac_ zv0 ar_) (al_ aB_))
theorem ky_ (T : Txt w K mg) (n : Nat) : LamOk P w K mg base 6 ["_law_other"] (lam_law_1 n) gA_ where
 S := ⟨rfl, rfl, rfl, (by decide +kernel : ∀ y ∈ (eY_ ca_).names, y.2 ≠ .cell), (by decide +kernel : ∀ x ∈ (["_law_other"] : List Str), (eY_ ca_).names.lookup x ≠ some .local)⟩
 hb := ⟨fun _ _ _ _ _ _ _ => rfl, fun h => absurd rfl h⟩
 nd := by decide
 has := by
  intro y hy hf
  have h1 : y.1 ∈ (["_law_other"] : List Str) := (by decide +kernel : ∀ y ∈ (eY_ ca_).names, y.2 = .free -> y.1 ∈ (["_law_other"] : List Str)) y hy hf
  simp only [List.mem_cons, List.not_mem_nil, or_false] at h1
  rcases h1 with h1
  all_goals rw [h1]; exact ⟨_, rfl⟩
 inj := f2_ (show ([n + 3] : List Addr).Nodup by simp)
 ev := by
  refine ⟨_, gz_, rfl, fun f c' A outer s H E hr => (pe_callS (eh_ T) (zrm hr) rfl T.m_read_steps T.F_read_steps.kp T.b_read_steps (fun σ => passAt (takes_of rfl rfl rfl rfl) σ) (pa_cons (pv 0) pa_nil)), fun E as => ?_⟩
  unfold gz_
  exact (iF_ (W := WL E) (ac_ zv0 ar_) (al_ aB_))
theorem o0_ (T : Txt w K mg) (TE : TxtE K mg) {cA Pt : Addr} (FL : FunC K "law" "law" ck_ T.a_law T.d_law cA) (hTab : TabB base mg cA Pt) :
  FnOk P w K mg base CX0 12 T.a_law T.d_law ["_law_script"] (spG [.ref Pt] K 1 (g_law Pt)) := by
 refine nu_ [.ref Pt] FL sc_law (fun A outer s H E vs hl hr => ?_)
 have hu := hu_of hr
 have hce : (envOfC "law" (defScope ck_) s.heap.objs.size T.a_law (.ref cA)).cells = ([("_law_other", s.heap.objs.size + 3), ("_law_one", s.heap.objs.size + 2), ("_law_box", s.heap.objs.size + 1)] : List (Str × Addr)) := rfl
 have hnd : ∀ q ∈ (envOfC "law" (defScope ck_) s.heap.objs.size T.a_law (.ref cA)).cells, (envOfC "law" (defScope ck_) s.heap.objs.size T.a_law (.ref cA)).cells.lookup q.1 = some q.2 := by
  rw [hce]; intro q hq
  simp only [List.mem_cons, List.not_mem_nil, or_false] at hq
  rcases hq with rfl | rfl | rfl <;> rfl
 have hcell : ∀ q ∈ (envOfC "law" (defScope ck_) s.heap.objs.size T.a_law (.ref cA)).cells, (defScope ck_).names.lookup q.1 = some .cell := by
  rw [hce]; intro q hq
  simp only [List.mem_cons, List.not_mem_nil, or_false] at hq
  rcases hq with rfl | rfl | rfl <;> rfl
 have hfree0 : ∀ y ∈ (eY_ b9_).names, y.2 = .free -> ∃ c, (envOfC "law" (defScope ck_) s.heap.objs.size T.a_law (.ref cA)).cells.lookup y.1 = some c := by
  intro y hy hf
  have h1 : y.1 ∈ (["_law_one"] : List Str) := (by decide +kernel : ∀ y ∈ (eY_ b9_).names, y.2 = .free -> y.1 ∈ (["_law_one"] : List Str)) y hy hf
  simp only [List.mem_cons, List.not_mem_nil, or_false] at h1
  rcases h1 with h1
  all_goals rw [h1]; exact ⟨_, rfl⟩
 have hfree1 : ∀ y ∈ (eY_ ca_).names, y.2 = .free -> ∃ c, (envOfC "law" (defScope ck_) s.heap.objs.size T.a_law (.ref cA)).cells.lookup y.1 = some c := by
  intro y hy hf
  have h1 : y.1 ∈ (["_law_other"] : List Str) := (by decide +kernel : ∀ y ∈ (eY_ ca_).names, y.2 = .free -> y.1 ∈ (["_law_other"] : List Str)) y hy hf
  simp only [List.mem_cons, List.not_mem_nil, or_false] at h1
  rcases h1 with h1
  all_goals rw [h1]; exact ⟨_, rfl⟩
 have site0 : Site P w K mg base 6 ["_law_script", "_law_box", "_law_odd", "_law_turn", "_law_steps_here", "_law_make", "_law_edition_here", "_law_one", "_law_other", "_law_change", "_law_again", "_law_k"] (envOfC "law" (defScope ck_) s.heap.objs.size T.a_law (.ref cA)).cells 12 ["_law_one"] [7] 1 (ids_law_0 s.heap.objs.size) gs_law_0 := {
  cnd := by rw [hce]; simp
  lt := by decide
  len := rfl
  at_ := by
   intro i x h
   match i, h with
   | 0, h => cases h; exact ⟨7, rfl, rfl⟩
   | _ + 1, h => cases h
  lam := by
   intro t ht
   match t, ht with
   | 0, _ => exact kx_ T _
   | _ + 1, h => exact absurd h (by omega)
  cl := by
   intro t ht
   match t, ht with
   | 0, _ =>
    intro p hp
    have hp : p ∈ ([("_law_one", s.heap.objs.size + 2)] : List (Str × Addr)) := hp
    simp only [List.mem_cons, List.not_mem_nil, or_false] at hp
    rcases hp with rfl
    all_goals exact ⟨by simp, rfl⟩
   | _ + 1, h => exact absurd h (by omega) }
 have site1 : Site P w K mg base 6 ["_law_script", "_law_box", "_law_odd", "_law_turn", "_law_steps_here", "_law_make", "_law_edition_here", "_law_one", "_law_other", "_law_change", "_law_again", "_law_k"] (envOfC "law" (defScope ck_) s.heap.objs.size T.a_law (.ref cA)).cells 12 ["_law_other"] [8] 1 (ids_law_1 s.heap.objs.size) gs_law_1 := {
  cnd := by rw [hce]; simp
  lt := by decide
  len := rfl
  at_ := by
   intro i x h
   match i, h with
   | 0, h => cases h; exact ⟨8, rfl, rfl⟩
   | _ + 1, h => cases h
  lam := by
   intro t ht
   match t, ht with
   | 0, _ => exact ky_ T _
   | _ + 1, h => exact absurd h (by omega)
  cl := by
   intro t ht
   match t, ht with
   | 0, _ =>
    intro p hp
    have hp : p ∈ ([("_law_other", s.heap.objs.size + 3)] : List (Str × Addr)) := hp
    simp only [List.mem_cons, List.not_mem_nil, or_false] at hp
    rcases hp with rfl
    all_goals exact ⟨by simp, rfl⟩
   | _ + 1, h => exact absurd h (by omega) }
 exact ⟨_, (pss_cons (ps_set (i := 1) sc_law.nd rfl (Or.inr rfl) (pe_call (gC_ T) (zrm hr) rfl T.m__law_begun T.F__law_begun.kp T.b__law_begun .nil pass0 (pa_cons (pv 0) pa_nil)))
  (pss_cons (ps_set (i := 2) sc_law.nd rfl (Or.inl rfl) (pe_lst (pa_cons pe_str (pa_cons pe_str (pa_cons pe_str (pa_cons pe_str (pa_cons pe_str (pa_cons pe_str (pa_cons pe_str (pa_cons pe_str (pa_cons pe_str (pa_cons pe_str (pa_cons pe_str pa_nil)))))))))))))
  (pss_cons (ps_expr (hJ_ (t := fun K => tBM K "list" rAppend _ _) (pe_bm PySem.F.plainAttrs_list PySem.F.slot_list_append PySem.F.type_list_append mt_append (pv 2) (pa_cons pe_str pa_nil))))
  (pss_cons (ps_for PassesOwn.never rfl (pi_range1 (by rfl) T.n_range (pa_cons pe_int pa_nil)) (pg_name (i := 3) sc_law.nd rfl (Or.inl rfl)) (pss_cons (ps_set (i := 4) sc_law.nd rfl (Or.inl rfl) (pe_call (gE_ T) (zrm hr) rfl T.m__law_drawn T.F__law_drawn.kp T.b__law_drawn .nil pass0 (pa_cons (pv 1) pa_nil)))
  (pss_cons (ps_if (pt_not (pt_val (pe_call (cX_ T) (zrm hr) rfl T.m__law_alike T.F__law_alike.kp T.b__law_alike .nil pass0 (pa_cons (pe_call (fK_ T) (zrm hr) rfl T.m_read_steps T.F_read_steps.kp T.b_read_steps .nil pass0 (pa_cons (pe_call (c1_ T) (zrm hr) rfl T.m_written_steps T.F_written_steps.kp T.b_written_steps .nil pass0 (pa_cons (pv 4) pa_nil)) pa_nil)) (pa_cons (pv 4) pa_nil))))) (pss_one (ps_ret pe_bl)) pss_nil)
  (pss_cons (ps_set (i := 5) sc_law.nd rfl (Or.inl rfl) (pe_ix (r := rIxL K) ix_list (pe_lst (pa_cons pe_non (pa_cons pe_int (pa_cons (pe_op op_pow pe_int pe_int) pa_nil)))) (pe_call (av_ T) (zrm hr) rfl T.m__law_take T.F__law_take.kp T.b__law_take .nil pass0 (pa_cons (pv 1) (pa_cons pe_int pa_nil))) (fun _ _ => rfl)))
  (pss_cons (ps_set (i := 6) sc_law.nd rfl (Or.inl rfl) (a1_ (pa_cons (pe_op op_add pe_int (pe_call (av_ T) (zrm hr) rfl T.m__law_take T.F__law_take.kp T.b__law_take .nil pass0 (pa_cons (pv 1) (pa_cons (pe_op op_pow pe_int pe_int) pa_nil)))) (pa_cons (pv 5) (pa_cons (pe_callTy (r := jI_ K) hM_ (by rfl) T.n_tuple (by decide +kernel) (pa_cons (pe_lc (own := [("_law_k", 11)]) rfl sc_law.nd (pi_range1 (by rfl) T.n_range (pa_cons pe_int pa_nil)) (blkOk_by (N := ["_law_script", "_law_box", "_law_odd", "_law_turn", "_law_steps_here", "_law_make", "_law_edition_here", "_law_one", "_law_other", "_law_change", "_law_again", "_law_k"]) (sc := defScope ck_) (by decide +kernel)) (fun _ _ _ _ _ => pg_name (i := 11) sc_law.nd rfl (Or.inl rfl)) (fun _ _ _ _ _ => pts_nil) (fun _ _ _ _ _ => (pe_call (av_ T) (zrm hr) rfl T.m__law_take T.F__law_take.kp T.b__law_take .nil pass0 (pa_cons (pv 1) (pa_cons pe_int pa_nil))))) pa_nil)) pa_nil)))))
  (pss_cons (ps_asg (a1_ (pa_cons (pe_call (jl_ T) (zrm hr) rfl T.m_written T.F_written.kp T.b_written .nil pass0 (pa_cons (pv 6) pa_nil)) (pa_cons (pe_ix (r := rIxL K) ix_list (pe_lst (pa_cons (pe_call (c1_ T) (zrm hr) rfl T.m_written_steps T.F_written_steps.kp T.b_written_steps .nil pass0 (pa_cons (pv 4) pa_nil)) (pa_cons (pe_ix (r := rIxL K) ix_list (pv 2) (pe_call (av_ T) (zrm hr) rfl T.m__law_take T.F__law_take.kp T.b__law_take .nil pass0 (pa_cons (pv 1) (pa_cons pe_int pa_nil))) (fun _ _ => rfl)) pa_nil))) (pe_op op_fdiv (pe_call (av_ T) (zrm hr) rfl T.m__law_take T.F__law_take.kp T.b__law_take .nil pass0 (pa_cons (pv 1) (pa_cons pe_int pa_nil))) pe_int) (fun _ _ => rfl)) pa_nil))) (pg_tup rfl (pgs_cons (pg_name (i := 7) sc_law.nd rfl (Or.inr rfl)) (pgs_cons (pg_name (i := 8) sc_law.nd rfl (Or.inr rfl)) pgs_nil))))
  (pss_cons (ps_for PassesOwn.never rfl (pi_range1 (by rfl) T.n_range (pa_cons (pe_call (av_ T) (zrm hr) rfl T.m__law_take T.F__law_take.kp T.b__law_take .nil pass0 (pa_cons (pv 1) (pa_cons pe_int pa_nil))) pa_nil)) (pg_name (i := 9) sc_law.nd rfl (Or.inl rfl)) (pss_one (ps_asg (a1_ (pa_cons (pe_call (dJ_ T) (zrm hr) rfl T.m__law_spoilt T.F__law_spoilt.kp T.b__law_spoilt .nil pass0 (pa_cons (pv 1) (pa_cons (pv 7) pa_nil))) (pa_cons (pe_call (dJ_ T) (zrm hr) rfl T.m__law_spoilt T.F__law_spoilt.kp T.b__law_spoilt .nil pass0 (pa_cons (pv 1) (pa_cons (pv 8) pa_nil))) pa_nil))) (pg_tup rfl (pgs_cons (pg_name (i := 7) sc_law.nd rfl (Or.inr rfl)) (pgs_cons (pg_name (i := 8) sc_law.nd rfl (Or.inr rfl)) pgs_nil))))))
  (pss_one (ps_for PassesOwn.never rfl (pi_range1 (by rfl) T.n_range (pa_cons pe_int pa_nil)) (pg_name (i := 10) sc_law.nd rfl (Or.inl rfl)) (pss_cons (ps_if (pt_not (pt_val (pe_call (cX_ T) (zrm hr) rfl T.m__law_alike T.F__law_alike.kp T.b__law_alike .nil pass0 (pa_cons (io_ (eQ_ (P := P) (w := w) (base := base) TE (k := 7) (k0 := 9) (by decide) (by decide)) (fun _ _ _ _ _ _ h => h) (zrm hr) rfl TE.m__law_told TE.F__law_told.kp TE.b__law_told (fun _ => rfl) hnd hcell (pa_cons (oh_ hTab rfl hfree0 (.none rfl rfl)) pa_nil)) (pa_cons (pe_call (fw_ T) (zrm hr) rfl T.m__law_edition T.F__law_edition.kp T.b__law_edition .nil pass0 (pa_cons (pv 7) pa_nil)) pa_nil))))) (pss_one (ps_ret pe_bl)) pss_nil)
  (pss_one (ps_if (pt_not (pt_val (pe_call (cX_ T) (zrm hr) rfl T.m__law_alike T.F__law_alike.kp T.b__law_alike .nil pass0 (pa_cons (io_ (eQ_ (P := P) (w := w) (base := base) TE (k := 7) (k0 := 9) (by decide) (by decide)) (fun _ _ _ _ _ _ h => h) (zrm hr) rfl TE.m__law_told TE.F__law_told.kp TE.b__law_told (fun _ => rfl) hnd hcell (pa_cons (oh_ hTab rfl hfree1 (.none rfl rfl)) pa_nil)) (pa_cons (pe_call (gD_ T) (zrm hr) rfl T.m__law_steps T.F__law_steps.kp T.b__law_steps .nil pass0 (pa_cons (pv 8) pa_nil)) pa_nil))))) (pss_one (ps_ret pe_bl)) pss_nil))))))))))))
  (pss_one (ps_ret pe_bl)))))),
  fun W => (aw_ (c4_ (by decide) (aD_ (ac_ zv0 ar_) (al_ aB_)))
  (aw_ (aR_ (by decide) (bZ_ (ac_ (p_c (d := .str "")) (ac_ (p_c (d := .str " ")) (ac_ (p_c (d := .str "turn ")) (ac_ (p_c (d := .str " turn")) (ac_ (p_c (d := .str "turn 1")) (ac_ (p_c (d := .str "ask 1 2")) (ac_ (p_c (d := .str "ask 1 2 -0")) (ac_ (p_c (d := .str "come")) (ac_ (p_c (d := .str "come 07")) (ac_ (p_c (d := .str "send\n")) (ac_ (p_c (d := .str "\nsend")) ar_)))))))))))))
  (aw_ (fQ_ (gl_ d9_ zv2 (p_c (d := .str "Come 1"))))
  (aw_ (gk_ (ep_ (p_c (d := .int 6))) (br_ (i := 3) (by decide)) (fun _ => (aw_ (c4_ (by decide) (je_ (aD_ (ac_ zv1 ar_) (al_ aB_))))
  (aw_ (d5_ (gd_ (lk_ (eq_ (aA_ (je_ (eq_ (aA_ (aD_ (ac_ zv4 ar_) (al_ aB_)) (fun _ => bw_)))) (fun _ => (aI_ (nh_ zv4) (fun _ => bw_))))))) (a4_ (aq_ (p_c (d := .bool false)))) a6_)
  (aw_ (c4_ (by decide) (b3_ (fun a b => bt_ a b) (aI_ (bZ_ (ac_ (p_c (d := .none)) (ac_ (p_c (d := .int 3)) (ac_ (bm_ hm_ (p_c (d := .int 10)) (p_c (d := .int 6))) ar_)))) (fun _ => (aA_ (aD_ (ac_ zv1 (ac_ (p_c (d := .int 3)) ar_)) (al_ (al_ aB_))) (fun _ => bw_))))))
  (aw_ (c4_ (by decide) (hi_ (aA_ (mY_ d6_ (aq_ (p_c (d := .int 1))) (aD_ (ac_ zv1 (ac_ (bm_ hm_ (p_c (d := .int 10)) (p_c (d := .int 6))) ar_)) (al_ (al_ aB_)))) (fun _ => (aI_ zv5 (fun _ => (aA_ (p9_ gm_ (jQ_ (by decide) (ep_ (p_c (d := .int 12))) (fun _ => fj_) (fun _ => (aD_ (ac_ zv1 (ac_ (p_c (d := .int 20)) ar_)) (al_ (al_ aB_)))))) (fun _ => bw_))))))))
  (aw_ (ln_ (lm_ (bD_ (br_ (i := 7) (by decide)) (bD_ (br_ (i := 8) (by decide)) fT_))) (hi_ (aA_ (aD_ (ac_ zv6 ar_) (al_ aB_)) (fun _ => (aA_ (b3_ (fun a b => bt_ a b) (aA_ (i9_ (aA_ (aD_ (ac_ zv4 ar_) (al_ aB_)) (fun _ => (aA_ (b3_ (fun a b => bt_ a b) (aI_ zv2 (fun _ => (aA_ (aD_ (ac_ zv1 (ac_ (p_c (d := .int 12)) ar_)) (al_ (al_ aB_))) (fun _ => bw_))))) (fun _ => bw_))))) (fun _ => (aA_ (mY_ ol_ (aD_ (ac_ zv1 (ac_ (p_c (d := .int 3)) ar_)) (al_ (al_ aB_))) (aq_ (p_c (d := .int 2)))) (fun _ => bw_))))) (fun _ => bw_))))))
  (aw_ (gk_ (iz_ (aD_ (ac_ zv1 (ac_ (p_c (d := .int 4)) ar_)) (al_ (al_ aB_)))) (br_ (i := 9) (by decide)) (fun _ => (ln_ (lm_ (bD_ (br_ (i := 7) (by decide)) (bD_ (br_ (i := 8) (by decide)) fT_))) (hi_ (aA_ (aD_ (ac_ zv1 (ac_ (bB_ (i := 7) (by decide)) ar_)) (al_ (al_ aB_))) (fun _ => (aA_ (aD_ (ac_ zv1 (ac_ (bB_ (i := 8) (by decide)) ar_)) (al_ (al_ aB_))) (fun _ => bw_))))))))
  (gk_ (ep_ (p_c (d := .int 2))) (br_ (i := 10) (by decide)) (fun _ => (aw_ (d5_ (gd_ (lk_ (eq_ (aA_ (je_ (kk_ site0 (oR_ (t := 0) (i := lam_law_0 s.heap.objs.size)))) (fun _ => (aA_ (aD_ (ac_ (bB_ (i := 7) (by decide)) ar_) (al_ aB_)) (fun _ => bw_))))))) (a4_ (aq_ (p_c (d := .bool false)))) a6_)
  (d5_ (gd_ (lk_ (eq_ (aA_ (je_ (kk_ site1 (oR_ (t := 0) (i := lam_law_1 s.heap.objs.size)))) (fun _ => (aA_ (je_ (aD_ (ac_ (bB_ (i := 8) (by decide)) ar_) (al_ aB_))) (fun _ => bw_))))))) (a4_ (aq_ (p_c (d := .bool false)))) a6_))))))))))))
  (a4_ (aq_ (p_c (d := .bool true))))))))⟩
end
end K20
namespace K19
open PySem PySem.Spec PyProof.Rows L2 Mv NX
def d_is_within : En -> Option Out := (aY_ (ae_ (b4_ (cp_ .int (ab_ 0)) (b4_ (fe_ (cp_ .bool (ab_ 0))) (cw_ fLe fLe (ab_ 1) (ab_ 0) (ab_ 2))))))
def g_is_within : List S -> Option (S × List S) := fnG 3 d_is_within
def d_is_house : En -> Option Out := (aY_ (ag_ g_is_within (aa_ (ab_ 0) (aa_ (dC (.int 0)) (aa_ (dC (.int 19)) ai_)))))
def g_is_house : List S -> Option (S × List S) := fnG 1 d_is_house
def d_is_owners : En -> Option Out := (aY_ (cf_ (ae_ (cp_ .tuple (ab_ 0))) (cf_ (ae_ (dOp bP_ (bp_ (ab_ 0)) (dC (.int 12)))) (jv_ jP_ (eLc (eU_ (ab_ 0)) 1 cs_ (ag_ g_is_house (aa_ (ab_ 1) ai_)))))))
def g_is_owners : List S -> Option (S × List S) := fnG 2 d_is_owners
def d_is_edition : En -> Option Out := (aE_ (dIf (ao_ (dOr (hO_ (aj_ (cp_ .tuple (ab_ 0)))) (aj_ (dOp dD_ (bp_ (ab_ 0)) (dC (.int 3)))))) (aY_ (ae_ (dC (.bool false)))) aH_)
  (aE_ (hU_ (fJ_ 3 (aX_ (au_ 1) (aX_ (au_ 2) (aX_ (au_ 3) e6_)))) (ae_ (ab_ 0)))
  (aE_ (dIf (gc_ (ao_ (aj_ (dOp fI_ (ab_ 2) (dC .none)))) (dG_ (bb_ (ag_ g_is_within (aa_ (ab_ 2) (aa_ (dC (.int 0)) (aa_ (dC (.int 1000000)) ai_))))))) (aY_ (ae_ (dC (.bool false)))) aH_)
  (aY_ (cf_ (ag_ g_is_within (aa_ (ab_ 1) (aa_ (dC (.int 1)) (aa_ (dC (.int 1000000)) ai_)))) (ag_ g_is_owners (aa_ (ab_ 3) ai_)))))))
def g_is_edition : List S -> Option (S × List S) := fnG 4 d_is_edition
def d_check_edition : En -> Option Out := (dIf (dG_ (bb_ (ag_ g_is_edition (aa_ (ab_ 0) ai_)))) ir_ aH_)
def g_check_edition : List S -> Option (S × List S) := fnG 1 d_check_edition
def d_written : En -> Option Out := (aE_ (cr_ (ag_ g_check_edition (aa_ (ab_ 0) ai_)))
  (aE_ (hU_ (fJ_ 3 (aX_ (au_ 1) (aX_ (au_ 2) (aX_ (au_ 3) e6_)))) (ae_ (ab_ 0)))
  (aE_ (ap_ 4 (ba_ (aa_ (ab_ 1) (aa_ (dM_ (aj_ (dOp fS_ (ab_ 2) (dC .none))) (dC (.str "-")) (ab_ 2)) (di_ (ab_ 3) ai_)))))
  (aY_ (cv_ (dC (.str " ")) (eLc (c5_ (ab_ 4)) 5 cs_ (ae_ (dCB hZ_ (aa_ (ab_ 5) ai_)))))))))
def g_written : List S -> Option (S × List S) := fnG 6 d_written
def d__law_take : En -> Option Out := (aE_ (dIf (ao_ (aj_ (dOp e5_ (aC_ (ab_ 0) (dC (.int 0))) (ba_ ai_)))) (aE_ (eV_ (ab_ 0) (dC (.int 1)) (ae_ (dOp fG_ (dOp fh_ (aC_ (ab_ 0) (dC (.int 1))) (dC (.int 48271))) (dC (.int 2147483647)))))
  (aY_ (ae_ (dOp fG_ (dOp eX_ (aC_ (ab_ 0) (dC (.int 1))) (dC (.int 7))) (ab_ 1))))) aH_)
  (aE_ (ap_ 2 (aC_ (aC_ (ab_ 0) (dC (.int 0))) (dC (.int 0))))
  (aE_ (eV_ (aC_ (ab_ 0) (dC (.int 0))) (dC (.int 0)) (ae_ (dOp eX_ (ab_ 2) (ab_ 1))))
  (aE_ (dIf (ao_ (dOr (aj_ (dOp bP_ (aC_ (aC_ (ab_ 0) (dC (.int 0))) (dC (.int 0))) (dC (.int 0)))) (aj_ (dOp bP_ (aC_ (aC_ (ab_ 0) (dC (.int 0))) (dC (.int 0))) (la_ (dC (.int 1))))))) (cr_ (dH_ eJ_ (aC_ (ab_ 0) (dC (.int 0))) (dC (.int 0)))) aH_)
  (aY_ (ae_ (dOp fG_ (ab_ 2) (ab_ 1))))))))
def g__law_take : List S -> Option (S × List S) := fnG 3 d__law_take
end K19
set_option maxHeartbeats 1000000
namespace DT
open PySem PySem.Spec PyProof.Rows L2 Mv TL
open Gn hiding g__law_take g__law_begun d__law_take d__law_begun
def word (n : Nat) : Str := Str.ofString (toString ((n : Nat) : Int))
theorem cI_ (n : Nat) : (word n).cps.toList = numL n := tl_num n
theorem lF_ (n : Nat) : (word n).length = (numL n).length := by
 rw [<- cI_]; rfl
theorem dq_ {n : Nat} (h : n < 10 ^ 7) : (word n).length <= 7 := by rw [lF_]; exact numL_len (by decide) h
theorem nB_ : ∀ n : Nat, 0 < n -> ∃ c r, numL n = c :: r /\ c ≠ 48 := by
 intro n
 induction n using Nat.strongRecOn with
 | _ n ih =>
  intro h0
  by_cases h : n < 10
  ·exact ⟨48 + n, [], numL_lt h, by omega⟩
  ·obtain ⟨c, r, e, hc⟩ := ih (n / 10) (by omega) (by omega)
   exact ⟨c, r ++ [48 + n % 10], by rw [numL_step (by omega), e]; rfl, hc⟩
end DT
set_option maxHeartbeats 4000000
namespace DH
open PySem PySem.Spec PyProof.Rows L2 Mv
def d_is_within : En -> Option Out := (aY_ (ae_ (b4_ (cp_ .int (ab_ 0)) (b4_ (fe_ (cp_ .bool (ab_ 0))) (cw_ fLe fLe (ab_ 1) (ab_ 0) (ab_ 2))))))
def g_is_within : List S -> Option (S × List S) := fnG 3 d_is_within
def d_is_house : En -> Option Out := (aY_ (ag_ g_is_within (aa_ (ab_ 0) (aa_ (dC (.int 0)) (aa_ (dC (.int 19)) ai_)))))
def g_is_house : List S -> Option (S × List S) := fnG 1 d_is_house
def d_is_owners : En -> Option Out := (aY_ (cf_ (ae_ (cp_ .tuple (ab_ 0))) (cf_ (ae_ (dOp bP_ (bp_ (ab_ 0)) (dC (.int 12)))) (jv_ jP_ (eLc (eU_ (ab_ 0)) 1 cs_ (ag_ g_is_house (aa_ (ab_ 1) ai_)))))))
def g_is_owners : List S -> Option (S × List S) := fnG 2 d_is_owners
def d_is_edition : En -> Option Out := (aE_ (dIf (ao_ (dOr (hO_ (aj_ (cp_ .tuple (ab_ 0)))) (aj_ (dOp dD_ (bp_ (ab_ 0)) (dC (.int 3)))))) (aY_ (ae_ (dC (.bool false)))) aH_)
  (aE_ (hU_ (fJ_ 3 (aX_ (au_ 1) (aX_ (au_ 2) (aX_ (au_ 3) e6_)))) (ae_ (ab_ 0)))
  (aE_ (dIf (gc_ (ao_ (aj_ (dOp fI_ (ab_ 2) (dC .none)))) (dG_ (bb_ (ag_ g_is_within (aa_ (ab_ 2) (aa_ (dC (.int 0)) (aa_ (dC (.int 1000000)) ai_))))))) (aY_ (ae_ (dC (.bool false)))) aH_)
  (aY_ (cf_ (ag_ g_is_within (aa_ (ab_ 1) (aa_ (dC (.int 1)) (aa_ (dC (.int 1000000)) ai_)))) (ag_ g_is_owners (aa_ (ab_ 3) ai_)))))))
def g_is_edition : List S -> Option (S × List S) := fnG 4 d_is_edition
def d_check_edition : En -> Option Out := (dIf (dG_ (bb_ (ag_ g_is_edition (aa_ (ab_ 0) ai_)))) ir_ aH_)
def g_check_edition : List S -> Option (S × List S) := fnG 1 d_check_edition
end DH
namespace K02
open PySem PySem.Spec PyProof.Rows L2 Mv
def d_is_within : En -> Option Out := (aY_ (ae_ (b4_ (cp_ .int (ab_ 0)) (b4_ (fe_ (cp_ .bool (ab_ 0))) (cw_ fLe fLe (ab_ 1) (ab_ 0) (ab_ 2))))))
def g_is_within : List S -> Option (S × List S) := fnG 3 d_is_within
def d_is_house : En -> Option Out := (aY_ (ag_ g_is_within (aa_ (ab_ 0) (aa_ (dC (.int 0)) (aa_ (dC (.int 19)) ai_)))))
def g_is_house : List S -> Option (S × List S) := fnG 1 d_is_house
def d_is_owners : En -> Option Out := (aY_ (cf_ (ae_ (cp_ .tuple (ab_ 0))) (cf_ (ae_ (dOp bP_ (bp_ (ab_ 0)) (dC (.int 12)))) (jv_ jP_ (eLc (eU_ (ab_ 0)) 1 cs_ (ag_ g_is_house (aa_ (ab_ 1) ai_)))))))
def g_is_owners : List S -> Option (S × List S) := fnG 2 d_is_owners
end K02
namespace Sh
def cnt (l : List Int) (h : Int) : Int := (l.count h : Int)
def nC_ : List Int -> List Int -> Int
 | a :: t, r :: rs => (if a = r then 1 else 0) + nC_ t rs
 | _, _ => 0
structure Sys (S : Type) where
 hs : List Int
 step : Int -> S -> S
 val : List Int -> S -> Option Int
 Ok : S -> List Int -> Prop
 Inv : S -> Nat -> Prop
 up : hs.Pairwise (· < ·)
 ok_nil : ∀ {s t}, Inv s 0 -> t.length = 0 -> Ok s t -> t = []
 ok_cons : ∀ {s n h t}, Inv s (n + 1) -> (Ok s (h :: t) ↔ h ∈ hs /\ Ok (step h s) t)
 inv_step : ∀ {s n h}, Inv s (n + 1) -> h ∈ hs -> Inv (step h s) n
 att : ∀ {s rest m}, Inv s rest.length -> val rest s = some m -> ∃ t, t.length = rest.length /\ Ok s t /\ nC_ t rest = m
 bound : ∀ {s rest t}, Inv s rest.length -> t.length = rest.length -> Ok s t -> ∃ m, val rest s = some m /\ nC_ t rest <= m
section
variable {S : Type} (Y : Sys S)
def Sys.good (s : S) (r : Int) (rs : List Int) (m : Int) (h : Int) : Bool :=
 match Y.val rs (Y.step h s) with
 | some k => decide (k + (if h = r then 1 else 0) = m)
 | none => false
def Sys.run : S -> List Int -> List Int
 | _, [] => []
 | s, r :: rs =>
  match Y.val (r :: rs) s with
  | some m => match Y.hs.find? (Y.good s r rs m) with
   | some h => h :: Sys.run (Y.step h s) rs
   | none => []
  | none => []
end
end Sh
namespace K02
open PySem PySem.Spec PyProof.Rows L2 Mv Sh
theorem v_house (i : Int) : g_is_house [.dat (.int i)] = some (.dat (.bool (decide (0 <= i) && decide (i <= 19))), [.dat (.int i)]) := rfl
theorem jm_ {i : Int} (h : 0 <= i /\ i <= 19) : g_is_house [.dat (.int i)] = some (.dat (.bool true), [.dat (.int i)]) := by
 rw [v_house, decide_eq_true h.1, decide_eq_true h.2]; rfl
theorem kz_ (ns : List Int) : S.toD (.lst (ns.map fun _ => S.dat (.bool true))) = some (.list (List.replicate ns.length (.bool true))) := by
 have : (ns.map fun _ => S.dat (.bool true)) = (List.replicate ns.length (PyData.bool true)).map S.dat := by
  rw [List.map_const', List.map_replicate]
 rw [this]
 show (S.toDs _).map PyData.list = _
 rw [eb_]; rfl
theorem v_is_owners {ns : List Int} (hl : ns.length = 12) (h : ∀ i ∈ ns, 0 <= i /\ i <= 19) : g_is_owners [tI ns] = some (.dat (.bool true), [tI ns]) := by
 have hlen : (ns.map PyData.int).length = 12 := by simpa using hl
 have hloop : dLcLoop (rdD (ns.map .int)) 1 cs_ (ag_ g_is_house (aa_ (ab_ 1) ai_)) 12 0 [] [.own (tI ns), .no, .own (tI ns)] = some (ns.map (fun _ => S.dat (.bool true)), [.own (tI ns), .no, .own (tI ns)]) := by
  rw [m8_ (fun _ => S.dat (.bool true)) 12 (by decide) (fun i hi => ?_) (j1_ (by omega)) 12 0 12 [] rfl (Nat.le_refl _) rfl]
  ·rw [List.nil_append, <- hl, jc_ (fun _ => S.dat (.bool true)) ns _ (fun _ _ _ => rfl)]
  ·have hv : ns[i]? = some (ns[i]'(by omega)) := List.getElem?_eq_getElem _
   exact ⟨_, _, _, oB_ hv, rfl, eCall_go (rs := [.val (.dat (.int (ns[i]'(by omega))))]) rfl rfl rfl (jm_ (h _ (List.getElem_mem _))), rfl⟩
 have hcomp : eLc (eU_ (ab_ 0)) 1 cs_ (ag_ g_is_house (aa_ (ab_ 1) ai_)) [.own (tI ns), .no, .own (tI ns)] = some (.lst (ns.map fun _ => S.dat (.bool true)), [.own (tI ns), .no, .own (tI ns)]) := by
  show (match dLcLoop (rdD (ns.map .int)) 1 cs_ (ag_ g_is_house (aa_ (ab_ 1) ai_)) (ns.map PyData.int).length 0 [] [.own (tI ns), .no, .own (tI ns)] with
   | some (acc, E') => some (S.lst acc, cz_ ⟨_, [], _, _⟩ E')
   | none => none) = _
  rw [hlen, hloop]; rfl
 have hall : jv_ jP_ (eLc (eU_ (ab_ 0)) 1 cs_ (ag_ g_is_house (aa_ (ab_ 1) ai_))) [.own (tI ns), .no, .own (tI ns)] = some (.dat (.bool true), [.own (tI ns), .no, .own (tI ns)]) := by
  unfold jv_
  rw [hcomp]
  simp only [kz_, j2_]
  rfl
 have hl12 : ae_ (dOp bP_ (bp_ (ab_ 0)) (dC (.int 12))) [.own (tI ns), .no, .own (tI ns)] = some (.dat (.bool true), [.own (tI ns), .no, .own (tI ns)]) := by
  show some (S.dat (.bool (decide (((ns.map PyData.int).length : Int) = 12))), _) = _
  rw [hlen]; rfl
 exact aU_ (aQ_ (go_ (E1 := [.own (tI ns), .no, .own (tI ns)]) rfl (go_ hl12 hall))) rfl
end K02
namespace DQ
open PySem PySem.Spec PyProof.Rows L2 Mv DH
def oI : Option Int -> PyData | none => .none | some n => .int n
structure Ed where
 num : Int
 make : Option Int
 own : List Int
deriving DecidableEq
def tD (ns : List Int) : PyData := .tuple (ns.map .int)
def Ed.d (e : Ed) : PyData := .tuple [.int e.num, oI e.make, tD e.own]
structure De where
 slot : Int
 count : Int
 asker : Int
 num : Int
 more : Int
 worth : Int
 make : Int
deriving DecidableEq
end DQ
set_option maxHeartbeats 400000
namespace DQ
open PySem PySem.Spec PyProof.Rows L2 Mv DH
variable {E E1 E2 : En} {d d1 d2 da db : En -> Option Rs} {de df : En -> Option (S × En)} {dt du : En -> Option (Bool × En)} {s t : S}
theorem c2_ {r : Option (Bool × En)} (h : dt E = some (true, E1)) (h2 : du E1 = r) : gc_ dt du E = r := by unfold gc_; rw [h]; exact h2
theorem c3_ (h : dt E = some (false, E1)) : gc_ dt du E = some (false, E1) := by unfold gc_; rw [h]
theorem appE_go {p p' : List Nat} {ss : List S} (h1 : da E = some (.pl p)) (h2 : aZ_ E p = some (.lst ss)) (h3 : de (E ++ [.bor p]) = some (s, E1)) (h4 : E1.getLast? = some (.bor p')) {tt : List S} (h5 : aZ_ E1 p' = some (.lst tt)) (hl : tt.length < 100000) : hV_ bE_ da de E = some (.dat .none, strip1 (bV_ (bA_ E1 p' (.lst (tt ++ [s]))) p')) := by
 unfold hV_
 rw [h1]
 simp only [h2, h3, h4, h5]
 unfold bE_
 simp only [if_pos hl]
variable {E' : En}
structure EdOk (e : Ed) : Prop where
 num : 1 <= e.num /\ e.num <= 1000000
 make : ∀ k, e.make = some k -> 0 <= k /\ k <= 1000000
 own : e.own.length = 12
 ok : ∀ i ∈ e.own, 0 <= i /\ i <= 19
theorem lG_ {i a b : Int} : g_is_within [.dat (.int i), .dat (.int a), .dat (.int b)] = some (.dat (.bool (decide (a <= i) && decide (i <= b))), [.dat (.int i), .dat (.int a), .dat (.int b)]) := rfl
theorem fx_ {i a b : Int} (h1 : a <= i) (h2 : i <= b) : g_is_within [.dat (.int i), .dat (.int a), .dat (.int b)] = some (.dat (.bool true), [.dat (.int i), .dat (.int a), .dat (.int b)]) := by
 rw [lG_, decide_eq_true h1, decide_eq_true h2]; rfl
theorem v_is_owners {ns : List Int} (hl : ns.length = 12) (h : ∀ i ∈ ns, 0 <= i /\ i <= 19) : g_is_owners [.dat (tD ns)] = some (.dat (.bool true), [.dat (tD ns)]) := K02.v_is_owners hl h
theorem hA_ {e : Ed} (ok : EdOk e) : g_is_edition [.dat e.d] = some (.dat (.bool true), [.dat e.d]) := by
 obtain ⟨num, make, own⟩ := e
 let T : En := [.own (.dat (Ed.d ⟨num, make, own⟩))]
 let E1 : En := [.own (.dat (Ed.d ⟨num, make, own⟩)), .own (.dat (.int num)), .own (.dat (oI make)), .own (.dat (tD own))] ++ T
 have s1 : dIf (ao_ (dOr (hO_ (aj_ (cp_ .tuple (ab_ 0)))) (aj_ (dOp dD_ (bp_ (ab_ 0)) (dC (.int 3)))))) (aY_ (ae_ (dC (.bool false)))) aH_ (entry 4 [.dat (Ed.d ⟨num, make, own⟩)]) = some (.nx (entry 4 [.dat (Ed.d ⟨num, make, own⟩)])) := rfl
 have s2 : hU_ (fJ_ 3 (aX_ (au_ 1) (aX_ (au_ 2) (aX_ (au_ 3) e6_)))) (ae_ (ab_ 0)) (entry 4 [.dat (Ed.d ⟨num, make, own⟩)]) = some (.nx E1) := rfl
 have s3 : dIf (gc_ (ao_ (aj_ (dOp fI_ (ab_ 2) (dC .none)))) (dG_ (bb_ (ag_ g_is_within (aa_ (ab_ 2) (aa_ (dC (.int 0)) (aa_ (dC (.int 1000000)) ai_))))))) (aY_ (ae_ (dC (.bool false)))) aH_ E1 = some (.nx E1) := by
  cases make with
  | none => exact bF_ (E1 := E1) (c3_ rfl) rfl
  | some k =>
   have := ok.make k rfl
   exact bF_ (E1 := E1) (c2_ (E1 := E1) rfl (dg_ (bQ_ (eCall_go (rs := [.val (.dat (.int k)), .val (.dat (.int 0)), .val (.dat (.int 1000000))]) rfl rfl rfl (fx_ this.1 this.2))))) rfl
 exact aU_ (ad_ s1 (ad_ s2 (ad_ s3 (aQ_ (go_ (E1 := E1) (eCall_go (rs := [.val (.dat (.int num)), .val (.dat (.int 1)), .val (.dat (.int 1000000))]) rfl rfl rfl (fx_ ok.num.1 ok.num.2)) (eCall_go (rs := [.val (.dat (tD own))]) rfl rfl rfl (v_is_owners ok.own ok.ok))))))) rfl
theorem v_check_edition {e : Ed} (ok : EdOk e) : g_check_edition [.dat e.d] = some (.dat .none, [.dat e.d]) :=
 oA_ (bF_ (E1 := entry 1 [.dat e.d]) (dg_ (bQ_ (eCall_go (rs := [.val (.dat e.d)]) rfl rfl rfl (hA_ ok)))) rfl) rfl
end DQ
set_option maxHeartbeats 1000000
namespace DT
open PySem PySem.Spec PyProof.Rows L2 Mv TL
open Gn hiding g__law_take g__law_begun d__law_take d__law_begun
theorem pureT_go {E : En} {dt : En -> Option Bool} {b : Bool} (h : dt E = some b) : ao_ dt E = some (b, E) := by unfold ao_; rw [h]; rfl
theorem pure_go {E : En} {d : En -> Option Rs} {s : S} (h : d E = some (.val s)) : ae_ d E = some (s, E) := by unfold ae_; rw [h]
open Gn hiding g__law_take g__law_begun d__law_take d__law_begun
abbrev Ed := DQ.Ed
abbrev EdOk := DQ.EdOk
theorem lH_ {e : Ed} (ok : EdOk e) : K19.g_check_edition [.dat e.d] = some (.dat .none, [.dat e.d]) := DQ.v_check_edition ok
def dash : Str := Str.ofString "-"
def wI (i : Int) : Str := Str.ofString (toString i)
theorem gF_ {n : Nat} (h : n < 10 ^ 7) : PySem.intText? (word n) = some (n : Int) := int_num (Nat.le_trans (numL_len (k := 7) (by decide) h) (by decide))
inductive Wd where
 | num (n : Nat)
 | dash
def Wd.s : Wd -> Str | .num n => word n | .dash => DT.dash
def Wd.ok (p : Nat) : Wd -> Prop | .num n => n < 10 ^ 7 /\ (2 <= p -> n <= 19) | .dash => p = 1
def mkW : Option Int -> Wd | none => .dash | some k => .num k.toNat
def edW (e : Ed) : List Wd := .num e.num.toNat :: mkW e.make :: e.own.map fun o => .num o.toNat
def txt (e : Ed) : Str := Txt.join (Str.ofString " ") ((edW e).map Wd.s)
theorem eA_ {e : Ed} (ok : EdOk e) : (edW e).length = 14 := by
 show (e.own.map _).length + 1 + 1 = 14
 rw [List.length_map, ok.own]
theorem mA_ {e : Ed} (ok : EdOk e) {p : Nat} {w : Wd} (h : (edW e)[p]? = some w) : w.ok p := by
 have n1 := ok.num
 match p with
 | 0 =>
  simp [edW] at h
  subst h
  exact ⟨by omega, fun z => by omega⟩
 | 1 =>
  simp [edW] at h
  subst h
  cases hm : e.make with
  | none => exact rfl
  | some k =>
   have := ok.make k hm
   exact ⟨by omega, fun z => by omega⟩
 | p + 2 =>
  simp [edW] at h
  obtain ⟨o, ho, rfl⟩ := h
  have := ok.ok o (List.mem_of_getElem? ho)
  exact ⟨by omega, fun _ => by omega⟩
theorem Wd.len {w : Wd} {p : Nat} (h : w.ok p) : w.s.length <= 7 := by
 cases w with
 | num n => exact dq_ h.1
 | dash => decide +kernel
theorem kA_ {e : Ed} (ok : EdOk e) {w : Wd} (h : w ∈ edW e) : w.s.length <= 7 := by
 obtain ⟨p, hp⟩ := List.mem_iff_getElem?.mp h
 exact Wd.len (mA_ ok hp)
end DT
namespace D20
open PySem PySem.Spec PyProof.Rows L2 Mv TL DT
open PySem.NumText (AllDigits digitsVal)
def Asc (l : List Nat) : Prop := ∀ c ∈ l, c < 128
def dr_ (l : List Nat) : Bool := decide (1 <= l.length /\ l.length <= 7) && (l.all (fun c => decide (48 <= c /\ c <= 57)) && (decide (l = [48]) || !decide (l.head? = some 48)))
def num (z : Str) : Option Nat := if dr_ (tl z) = true then some (digitsVal (tl z)) else none
theorem gG_ {P : List Nat -> Prop} (h0 : P []) (h1 : ∀ l c, P l -> P (l ++ [c])) : ∀ l, P l := fun l => by
 have : ∀ l : List Nat, P l.reverse := by
  intro l
  induction l with
  | nil => exact h0
  | cons a r ih => rw [List.reverse_cons]; exact h1 _ a ih
 have h := this l.reverse
 rwa [List.reverse_reverse] at h
theorem gH_ (l : List Nat) (c : Nat) : digitsVal (l ++ [c]) = digitsVal l * 10 + (c - 48) := by
 unfold digitsVal
 rw [List.foldl_append]; rfl
theorem nD_ : ∀ (l : List Nat), AllDigits l -> l ≠ [] -> l.head? ≠ some 48 -> 0 < digitsVal l := by
 refine gG_ (fun _ h => absurd rfl h) fun l c ih => ?_
 ·intro hd _ h0
  rw [gH_]
  cases l with
  | nil =>
   have := hd c (by simp)
   have h1 : c ≠ 48 := fun z => h0 (by rw [z]; rfl)
   omega
  | cons a r =>
   have := ih (fun x m => hd x (List.mem_append_left _ m)) (by simp) (by simpa using h0)
   omega
theorem lI_ : ∀ (l : List Nat), AllDigits l -> l ≠ [] -> (l = [48] ∨ l.head? ≠ some 48) -> numL (digitsVal l) = l := by
 refine gG_ (fun _ h => absurd rfl h) fun l c ih => ?_
 ·intro hd _ h0
  have hc := hd c (by simp)
  rw [gH_]
  cases l with
  | nil =>
   show numL (0 * 10 + (c - 48)) = [c]
   rw [show 0 * 10 + (c - 48) = c - 48 by omega, numL_lt (by omega), show 48 + (c - 48) = c by omega]
  | cons a r =>
   have h1 : (a :: r).head? ≠ some 48 := by
    rcases h0 with h0 | h0
    ·exact absurd (congrArg List.length h0) (by simp)
    ·simpa using h0
   have hdl : AllDigits (a :: r) := fun x m => hd x (List.mem_append_left _ m)
   have hp := nD_ (a :: r) hdl (by simp) h1
   have := ih hdl (by simp) (.inr h1)
   rw [numL_step (by omega), show (digitsVal (a :: r) * 10 + (c - 48)) / 10 = digitsVal (a :: r) by omega, this, show 48 + (digitsVal (a :: r) * 10 + (c - 48)) % 10 = c by omega]
theorem isNum_iff {l : List Nat} : dr_ l = true ↔ (1 <= l.length /\ l.length <= 7) /\ AllDigits l /\ (l = [48] ∨ l.head? ≠ some 48) := by
 unfold dr_ AllDigits
 simp only [Bool.and_eq_true, decide_eq_true_eq, List.all_eq_true, Bool.or_eq_true, Bool.not_eq_true', decide_eq_false_iff_not]
theorem eB_ {n : Nat} (h : n < 10 ^ 7) : dr_ (numL n) = true := by
 rw [isNum_iff]
 refine ⟨⟨List.length_pos_iff.mpr (numL_ne n), numL_len (by decide) h⟩, numL_digits n, ?_⟩
 rcases Nat.eq_zero_or_pos n with rfl | h0
 ·exact .inl (numL_lt (by decide))
 ·obtain ⟨c, r, e, hc⟩ := nB_ n h0
  right
  rw [e]
  simpa using hc
theorem mB_ : ∀ (k : Nat) (l : List Nat), AllDigits l -> l.length <= k -> digitsVal l < 10 ^ k := by
 intro k
 induction k with
 | zero => intro l _ hl; cases l with | nil => decide | cons a r => simp at hl
 | succ k ih =>
  refine gG_ (fun _ _ => by show 0 < 10 ^ (k + 1); exact Nat.pow_pos (by decide)) fun l c _ => ?_
  ·intro hd hl
   rw [gH_]
   have a := ih l (fun x m => hd x (List.mem_append_left _ m)) (by simp at hl; exact hl)
   have b := hd c (by simp)
   rw [Nat.pow_succ]
   omega
theorem hB_ {l : List Nat} (h : dr_ l = true) : numL (digitsVal l) = l /\ digitsVal l < 10 ^ 7 := by
 obtain ⟨h1, h2, h3⟩ := isNum_iff.mp h
 have e := lI_ l h2 (fun z => by rw [z] at h1; simp at h1) h3
 refine ⟨e, ?_⟩
 exact mB_ 7 l h2 h1.2
theorem lJ_ {n : Nat} (h : n < 10 ^ 7) : num (word n) = some n := by
 unfold num
 rw [show tl (word n) = numL n from cI_ n, if_pos (eB_ h), numL_val]
theorem ei_ {z : Str} {n : Nat} (h : num z = some n) : z = word n /\ n < 10 ^ 7 := by
 unfold num at h
 split at h
 ·next hn =>
  cases h
  obtain ⟨h1, h2⟩ := hB_ hn
  exact ⟨ext_tl (by rw [show tl (word (digitsVal (tl z))) = numL (digitsVal (tl z)) from cI_ _, h1]), h2⟩
 ·cases h
theorem kB_ : ∀ c : Nat, c < 128 -> Unicode.isDigit c = decide (48 <= c /\ c <= 57) := by decide +kernel
theorem o1_ {z : Str} (h : Asc (tl z)) : Txt.isdigit z = (decide (0 < (tl z).length) && (tl z).all fun c => decide (48 <= c /\ c <= 57)) := by
 unfold Txt.isdigit
 rw [<- Array.all_toList, len_tl z]
 congr 1
 have : ∀ l : List Nat, Asc l -> l.all Unicode.isDigit = l.all fun c => decide (48 <= c /\ c <= 57) := by
  intro l
  induction l with
  | nil => intro _; rfl
  | cons a r ih =>
   intro h
   simp only [List.all_cons]
   rw [kB_ a (h a (by simp)), ih fun c m => h c (List.mem_cons_of_mem _ m)]
 exact this _ h
theorem f3_ {z y : Str} {s : Nat} (hy : tl y = [s]) : Txt.startswith z y = decide ((tl z).head? = some s) := by
 unfold Txt.startswith Builtin.Str.subAt
 have hl : y.length = 1 := by rw [len_tl, hy]; rfl
 have ez : z.length = (tl z).length := len_tl z
 have : (z.cps.extract 0 (0 + y.length) == y.cps) = decide ((tl z).take 1 = [s]) := by
  rw [Bool.eq_iff_iff, beq_iff_eq, decide_eq_true_eq, <- Array.toList_inj, Array.toList_extract, show y.cps.toList = [s] from hy, hl]
  simp [tl]
 show (decide (0 + y.length <= z.length) && (z.cps.extract 0 (0 + y.length) == y.cps)) = _
 rw [this, hl, ez]
 cases h : tl z with
 | nil => simp
 | cons a r => simp
end D20
set_option maxHeartbeats 4000000
namespace K17
open PySem PySem.Spec PyProof.Rows L2 Mv NX
def f__law_alike (g : List S -> Option (S × List S)) : En -> Option Out := (aE_ (dIf (ao_ (aj_ (dOp fS_ (ab_ 1) (dC .none)))) (aY_ (ae_ (dOp fS_ (ab_ 0) (dC .none)))) aH_)
  (aE_ (dIf (ao_ (aj_ (cp_ .bool (ab_ 1)))) (aY_ (ae_ (b4_ (cp_ .bool (ab_ 0)) (dOp e5_ (ab_ 0) (ab_ 1))))) aH_)
  (aE_ (dIf (ao_ (aj_ (cp_ .int (ab_ 1)))) (aY_ (ae_ (b4_ (cp_ .int (ab_ 0)) (b4_ (fe_ (cp_ .bool (ab_ 0))) (dOp e5_ (ab_ 0) (ab_ 1)))))) aH_)
  (aE_ (dIf (ao_ (aj_ (cp_ .str (ab_ 1)))) (aY_ (ae_ (b4_ (cp_ .str (ab_ 0)) (dOp e5_ (ab_ 0) (ab_ 1))))) aH_)
  (aE_ (dIf (ao_ (dOr (aj_ (dOp dD_ (cp_ .tuple (ab_ 1)) (cp_ .tuple (ab_ 0)))) (aj_ (dOp dD_ (cp_ .list (ab_ 1)) (cp_ .list (ab_ 0)))))) (aY_ (ae_ (dC (.bool false)))) aH_)
  (aE_ (dIf (ao_ (aj_ (dOp dD_ (bp_ (ab_ 0)) (bp_ (ab_ 1))))) (aY_ (ae_ (dC (.bool false)))) aH_)
  (aE_ (d8_ (by_ (bp_ (ab_ 1))) (au_ 2) (dIf (dG_ (bb_ (ag_ g (aa_ (eL_ (ab_ 0) (ab_ 2)) (aa_ (eL_ (ab_ 1) (ab_ 2)) ai_))))) (aY_ (ae_ (dC (.bool false)))) aH_))
  (aY_ (ae_ (dC (.bool true)))))))))))
def g__law_alike : Nat -> List S -> Option (S × List S)
 | 0 => m4_
 | k + 1 => fnG 3 (f__law_alike (g__law_alike k))
end K17
namespace DQ17
open PySem PySem.Spec PyProof.Rows L2 Mv Gn
section
variable {E E1 E2 : En} {da db dx d d1 d2 : En -> Option Rs} {de : En -> Option (S × En)} {dt du : En -> Option (Bool × En)} {ds : List PyData} {r : Rs}
theorem mC_ {r : Option Rs} (h : d1 E = some (.val (.dat (.bool true)))) (h2 : d2 E = r) : b4_ d1 d2 E = r := by unfold b4_; rw [h]; exact h2
theorem qj_ {f : PyData -> PyData -> Option PyData} {a b c : PyData} {r1 r2 : Rs} (h1 : d1 E = some r1) (h2 : d2 E = some r2) (f1 : r1.full E = some a) (f2 : r2.full E = some b) (h : f a b = some c) : dOp f d1 d2 E = some (.val (.dat c)) := by
 unfold dOp
 rw [h1, h2]
 simp only [f1, f2, h, Option.map_some]
theorem ay_ {f : PyData -> PyData -> Option PyData} {a b c : PyData} (h1 : d1 E = some (.val (.dat a))) (h2 : d2 E = some (.val (.dat b))) (h : f a b = some c) : dOp f d1 d2 E = some (.val (.dat c)) := qj_ h1 h2 rfl rfl h
theorem pure_go {s : S} (h : d E = some (.val s)) : ae_ d E = some (s, E) := by unfold ae_; rw [h]
theorem pureT_go {b : Bool} {dd : En -> Option Bool} (h : dd E = some b) : ao_ dd E = some (b, E) := by unfold ao_; rw [h]; rfl
theorem eOr_t {dt du : En -> Option (Bool × En)} (h : dt E = some (true, E1)) : eOr dt du E = some (true, E1) := by unfold eOr; rw [h]
theorem as_ {b : Bool} (h : d E = some (.val (.dat (.bool b)))) : aj_ d E = some b := by unfold aj_; rw [h]
end
structure De where
 slot : Int
 count : Int
 asker : Int
 num : Int
 more : Int
 worth : Int
 make : Int
deriving DecidableEq
structure Ty where
 grown : List (Int × (Int × Int))
 numbers : List (Int × Int)
 make : Int
end DQ17
set_option maxHeartbeats 1000000
namespace D20
open PySem PySem.Spec PyProof.Rows L2 Mv TL DT
open PySem.NumText (AllDigits digitsVal)
open DQ17 (as_ ay_)
open Gn hiding g__law_take g__law_begun d__law_take d__law_begun
theorem ez {z y : Str} : z = y ↔ tl z = tl y := ⟨fun h => by rw [h], ext_tl⟩
theorem nE_ {z : Str} (h : Asc (tl z)) : dr_ (tl z) = (Txt.isdigit z && (!decide (7 < z.length) && (decide (z = ("0" : Str)) || !Txt.startswith z ("0" : Str)))) := by
 have h0 : tl ("0" : Str) = [48] := by decide +kernel
 rw [o1_ h, f3_ h0, len_tl z, Bool.eq_iff_iff]
 unfold dr_
 have e0 : (z = ("0" : Str)) ↔ tl z = [48] := by rw [ez, h0]
 simp only [Bool.and_eq_true, decide_eq_true_eq, Bool.or_eq_true, Bool.not_eq_true', decide_eq_false_iff_not, e0]
 constructor
 ·rintro ⟨⟨a, b⟩, c, d⟩
  exact ⟨⟨by omega, c⟩, by omega, d⟩
 ·rintro ⟨⟨a, c⟩, b, d⟩
  exact ⟨⟨by omega, by omega⟩, c, d⟩
theorem gI_ {E : En} {d : En -> Option Rs} {z : Str} (h : d E = some (.val (.dat (.str z)))) (hl : z.length <= sizeLine) : dCB dk_ (aa_ d ai_) E = some (.val (.dat (.int (z.length : Nat)))) := by
 unfold dCB aa_
 rw [h]
 show ((if z.length <= sizeLine then some (PyData.int (z.length : Nat)) else none).map fun c => Rs.val (.dat c)) = _
 rw [if_pos hl]; rfl
theorem h7_ {z : Str} (h : Asc (tl z)) (hl : z.length <= sizeLine) : K20.g_is_plain [.dat (.str z)] = some (.dat (.bool (dr_ (tl z))), [.dat (.str z)]) := by
 let E : En := entry 1 [.dat (.str z)]
 have a1 : aj_ (dM0 pO_ (ab_ 0)) E = some (Txt.isdigit z) := rfl
 have a2 : aj_ (dOp fGt (dCB dk_ (aa_ (ab_ 0) ai_)) (dC (.int 7))) E = some (decide (7 < z.length)) := by
  unfold aj_
  rw [bs_ (gI_ (z := z) rfl hl) rfl rfl rfl rfl]
  show some (decide ((7 : Int) < ((z.length : Nat) : Int))) = _
  congr 1
  rw [Bool.eq_iff_iff, decide_eq_true_eq, decide_eq_true_eq]; omega
 have t : ∀ b, (!Txt.isdigit z || decide (7 < z.length)) = b -> ao_ (dOr (hO_ (aj_ (dM0 pO_ (ab_ 0)))) (aj_ (dOp fGt (dCB dk_ (aa_ (ab_ 0) ai_)) (dC (.int 7))))) E = some (b, E) := fun b hb => by
  refine pureT_go ?_
  unfold dOr hO_
  rw [a1]
  cases hd : Txt.isdigit z with
  | false => rw [hd] at hb; simp at hb; rw [hb]; rfl
  | true => rw [hd] at hb; simp only [Bool.not_true, Bool.false_or] at hb; rw [<- hb]; exact a2
 rw [nE_ h]
 cases hb : (!Txt.isdigit z || decide (7 < z.length)) with
 | true =>
  have : (Txt.isdigit z && (!decide (7 < z.length) && (decide (z = ("0" : Str)) || !Txt.startswith z ("0" : Str)))) = false := by
   cases hd : Txt.isdigit z
   ·rfl
   ·rw [hd] at hb; simp only [Bool.not_true, Bool.false_or] at hb; rw [hb]; rfl
  rw [this]
  exact aU_ (bu_ (cu_ (t _ hb) (aQ_ rfl))) rfl
 | false =>
  rw [Bool.or_eq_false_iff, Bool.not_eq_false'] at hb
  rw [hb.1, hb.2, Bool.true_and, Bool.not_false, Bool.true_and]
  have r1 : ok_ (dOp bP_ (ab_ 0) (dC (.str "0"))) (fe_ (dM1 fm_ (ab_ 0) (dC (.str "0")))) E = some (.val (.dat (.bool (decide (z = ("0" : Str)) || !Txt.startswith z ("0" : Str))))) := by
   unfold ok_
   have e0 : dOp bP_ (ab_ 0) (dC (.str "0")) E = some (.val (.dat (.bool (decide (z = ("0" : Str)))))) := rfl
   rw [e0]
   cases decide (z = ("0" : Str)) <;> rfl
  have tf := t false (by rw [hb.1, hb.2]; rfl)
  exact aU_ (ad_ (bF_ tf rfl) (aQ_ (pure_go r1))) rfl
theorem f4_ : ∀ {ds : List PyData}, (∀ d ∈ ds, d.canLay0 = true /\ d.depth <= 3) -> SeqAt.shaped (.list ds) = true := by
 intro ds h
 have c : ∀ ds : List PyData, (∀ d ∈ ds, d.canLay0 = true /\ d.depth <= 3) -> PyData.canLayAll0 ds = true /\ PyData.depthAll ds <= 3 := by
  intro ds
  induction ds with
  | nil => intro _; exact ⟨rfl, Nat.zero_le _⟩
  | cons a r ih =>
   intro h
   obtain ⟨h1, h2⟩ := h a (by simp)
   obtain ⟨i1, i2⟩ := ih fun d m => h d (List.mem_cons_of_mem _ m)
   exact ⟨by rw [PyData.canLayAll0, h1, i1]; rfl, by rw [PyData.depthAll]; exact Nat.max_le.mpr ⟨h2, i2⟩⟩
 unfold SeqAt.shaped
 obtain ⟨c1, c2⟩ := c ds h
 rw [PyData.canLay0, c1, PyData.depth, Bool.true_and]
 exact decide_eq_true (by omega)
theorem nF_ {ds : List PyData} (h : SeqAt.shaped (.list ds) = true) : k9_ (.list ds) (.list []) = some (.bool (decide (ds ≠ []))) := by
 unfold k9_
 rw [if_pos ⟨h, rfl⟩]
 cases ds with
 | nil => rfl
 | cons a r => simp [PyData.eqv, PyData.eqvAll]
def ch (c : Nat) : PyData := .str ⟨#[c]⟩
def eC_ (c : Nat) : Bool := decide (48 <= c /\ c <= 57)
theorem kC_ (c : Nat) (hc : c < 128) : mz_ true (ch c) (.str ("0123456789" : Str)) = some (.bool (!eC_ c)) := by
 unfold mz_ ch
 have f := PySem.StrLaws.found_one ("0123456789" : Str) c
 show some (PyData.bool (!((Builtin.Str.occurrences ("0123456789" : Str) ⟨#[c]⟩ 0 ("0123456789" : Str).length 1).isEmpty != true))) = _
 have : ∀ c : Nat, c < 128 -> decide (c ∈ ("0123456789" : Str).cps.toList) = eC_ c := by decide +kernel
 rw [this c hc] at f
 rw [<- f]
 cases (Builtin.Str.occurrences ("0123456789" : Str) ⟨#[c]⟩ 0 ("0123456789" : Str).length 1).isEmpty <;> rfl
theorem lK_ {z : Str} (h : Asc (tl z)) (hl : z.length < 100000) : eLc (jj_ (ab_ 0)) 1 (ao_ (aj_ (dOp (mz_ true) (ab_ 1) (dC (.str "0123456789"))))) (ae_ (ab_ 1)) (entry 2 [.dat (.str z)]) = some (dL ch ((tl z).filter fun c => !eC_ c), entry 2 [.dat (.str z)]) := by
 have hlt : (tl z).length < 100000 := by rw [<- len_tl]; exact hl
 refine iB_ (c := ⟨entry 2 [.dat (.str z)], [], rdS z, z.cps.size⟩) rfl ?_
 have hz : z.cps.size = (tl z).length := by rw [<- len_tl]; rfl
 have hrd : ∀ (i : Nat) (a : Nat), (tl z)[i]? = some a -> rdS z (entry 2 [.dat (.str z)]) i = some (some (.val (.dat (ch a)))) := fun i a ha => by
  unfold rdS
  have : z.cps[i]? = some a := by rw [<- ha]; simp [tl]
  rw [this]; rfl
 show dLcLoop (rdS z) 1 _ _ z.cps.size 0 [] (ak_ (entry 2 [.dat (.str z)] ++ []) 1 .no) = _
 have e0 : ak_ (entry 2 [.dat (.str z)] ++ []) 1 .no = entry 2 [.dat (.str z)] := rfl
 rw [e0, lcF (xs := tl z) (f := ch) (p := fun c => !eC_ c) (g := fun c => S.dat (ch c)) hlt hrd (by
   unfold rdS
   have : z.cps[(tl z).length]? = none := by rw [<- hz]; simp
   rw [this]; rfl) (fun a ha => by
   refine ⟨[.own (.dat (.str z)), .own (.dat (ch a)), .own (.dat (.str z))], rfl, ?_, fun _ => rfl, rfl⟩
   refine pureT_go (as_ ?_)
   exact bs_ (a := .val (.dat (ch a))) (b := .val (.dat (.str "0123456789"))) rfl rfl rfl rfl (kC_ a (h a ha))) (tl z).length 0 z.cps.size [] (by omega) (by omega) (Nat.le_refl _)]
 rfl
def oN : Option Nat -> PyData | none => .none | some n => .int (n : Int)
theorem iQ_ {E : En} {f g : PyData -> PyData -> Option PyData} {da db dc : En -> Option Rs} {a b c : PyData} {k l : Bool} (h1 : da E = some (.val (.dat a))) (h2 : db E = some (.val (.dat b))) (h3 : dc E = some (.val (.dat c))) (h4 : f a b = some (.bool k)) (h5 : g b c = some (.bool l)) : cw_ f g da db dc E = some (.val (.dat (.bool (k && l)))) := by
 unfold cw_
 rw [h1, h2, h3]
 show (match f a b, g b c with | some (.bool k), some (.bool l) => some (Rs.val (.dat (.bool (k && l)))) | _, _ => none) = _
 rw [h4, h5]
theorem gJ_ {E : En} {d : En -> Option Rs} {z : Str} {i : Int} (h : d E = some (.val (.dat (.str z)))) (h2 : PySem.intText? z = some i) (hl : z.length <= 640) : dCB c7_ (aa_ d ai_) E = some (.val (.dat (.int i))) := by
 unfold dCB aa_
 rw [h]
 show ((if z.length <= 640 then (PySem.intText? z).map PyData.int else none).map fun c => Rs.val (.dat c)) = _
 rw [if_pos hl, h2]; rfl
theorem gK_ {z : Str} (h : Asc (tl z)) (hl : z.length < 100000) : K20.g__law_number [.dat (.str z)] = some (.dat (oN (num z)), [.dat (.str z)]) := by
 have hs : z.length <= sizeLine := by rw [sizeLine_eq]; omega
 let E : En := entry 2 [.dat (.str z)]
 have len := gI_ (E := E) (d := ab_ 0) (z := z) rfl hs
 have a1 : ao_ (hO_ (aj_ (cw_ fLe fLe (dC (.int 1)) (dCB dk_ (aa_ (ab_ 0) ai_)) (dC (.int 7))))) E = some (!decide (1 <= z.length /\ z.length <= 7), E) := by
  refine pureT_go ?_
  have : cw_ fLe fLe (dC (.int 1)) (dCB dk_ (aa_ (ab_ 0) ai_)) (dC (.int 7)) E = some (.val (.dat (.bool (decide (1 <= z.length /\ z.length <= 7))))) := by
   rw [iQ_ rfl len rfl rfl rfl]
   congr 4
   rw [Bool.eq_iff_iff, Bool.and_eq_true, decide_eq_true_eq, decide_eq_true_eq, decide_eq_true_eq]
   omega
  unfold hO_
  rw [as_ this]; rfl
 have a2 : bb_ (bh_ (af_ (eLc (jj_ (ab_ 0)) 1 (ao_ (aj_ (dOp (mz_ true) (ab_ 1) (dC (.str "0123456789"))))) (ae_ (ab_ 1))) (an_ (ba_ ai_) aJ_)) fun k => aT_ k 2 (ae_ ((dOp k9_) (dGh k 0) (dGh k 1)))) E = some (decide ((tl z).filter (fun c => !eC_ c) ≠ []), E) := by
  refine bQ_ ?_
  have l1 : af_ (eLc (jj_ (ab_ 0)) 1 (ao_ (aj_ (dOp (mz_ true) (ab_ 1) (dC (.str "0123456789"))))) (ae_ (ab_ 1))) (an_ (ba_ ai_) aJ_) E = some (2, E ++ [.own (dL ch ((tl z).filter fun c => !eC_ c)), .own (.lst [])]) := lE_go (lK_ h hl) (lP_own rfl rfl)
  refine eff_go (G2 := [.own (dL ch ((tl z).filter fun c => !eC_ c)), .own (.lst [])]) l1 (when_go (ePure_go ?_)) rfl rfl
  refine bs_ (a := .pl [3]) (b := .pl [4]) (x := .list (((tl z).filter fun c => !eC_ c).map ch)) (y := .list []) rfl rfl ?_ rfl ?_
  ·show ((S.get (dL ch ((tl z).filter fun c => !eC_ c)) []).bind S.toD) = _
   rw [S.get_nil]; exact kn_
  ·rw [nF_ (f4_ fun d m => ?_)]
   ·congr 2
    rw [Bool.eq_iff_iff, decide_eq_true_eq, decide_eq_true_eq]
    simp
   ·obtain ⟨c, hc, rfl⟩ := List.mem_map.mp m
    have := h c (List.mem_filter.mp hc).1
    exact ⟨by show (#[c] : Array Nat).all (· < 0x110000) = true; simp; omega, Nat.zero_le _⟩
 have ln : z.length = (tl z).length := len_tl z
 by_cases c1 : 1 <= z.length /\ z.length <= 7
 ·rw [decide_eq_true c1] at a1
  by_cases c2 : AllDigits (tl z)
  ·have e2 : (tl z).filter (fun c => !eC_ c) = [] := by
    rw [List.filter_eq_nil_iff]
    intro c m
    have := c2 c m
    unfold eC_
    simp; omega
   rw [decide_eq_false (fun z => z e2)] at a2
   have hne : tl z ≠ [] := fun z0 => by rw [z0] at ln; simp at ln; omega
   have hi : PySem.intText? z = some ((digitsVal (tl z) : Nat) : Int) := PySem.intText_digits c2 hne (by omega)
   have i1 := gJ_ (E := E) (d := ab_ 0) (z := z) rfl hi (by omega)
   have hlt : digitsVal (tl z) < 10 ^ 7 := mB_ 7 _ c2 (by omega)
   generalize hn : digitsVal (tl z) = n at *
   have i2 : dCB hZ_ (aa_ (dCB c7_ (aa_ (ab_ 0) ai_)) ai_) E = some (.val (.dat (.str (word n)))) := by
    refine kl_ (rs := [.val (.dat (.int (n : Nat)))]) (ds := [.int (n : Nat)]) (am_ i1 rfl) rfl ?_
    show (if ((n : Nat) : Int).natAbs.log2 < 1920 then some (PyData.str (toString ((n : Nat) : Int))) else none) = _
    rw [if_pos]
    ·rfl
    ·show n.log2 < 1920
     rcases Nat.eq_zero_or_pos n with rfl | h0
     ·decide
     ·exact (Nat.log2_lt (by omega)).mpr (Nat.lt_of_lt_of_le hlt (Nat.le_trans (by decide : 10 ^ 7 <= 2 ^ 64) (Nat.pow_le_pow_right (by decide) (by decide))))
   have i3 : aj_ (dOp bP_ (dCB hZ_ (aa_ (dCB c7_ (aa_ (ab_ 0) ai_)) ai_)) (ab_ 0)) E = some (decide (word n = z)) := as_ (bs_ i2 rfl rfl rfl rfl)
   have hb : decide (word n = z) = dr_ (tl z) := by
    rw [Bool.eq_iff_iff, decide_eq_true_eq]
    constructor
    ·intro e
     rw [<- e, show tl (word n) = numL n from cI_ n]
     exact eB_ hlt
    ·intro e
     obtain ⟨e1, _⟩ := hB_ e
     rw [hn] at e1
     exact ext_tl (by rw [show tl (word n) = numL n from cI_ n, e1])
   have r : dM_ (aj_ (dOp bP_ (dCB hZ_ (aa_ (dCB c7_ (aa_ (ab_ 0) ai_)) ai_)) (ab_ 0))) (dCB c7_ (aa_ (ab_ 0) ai_)) (dC .none) E = some (.val (.dat (oN (num z)))) := by
    unfold dM_
    rw [i3, hb]
    unfold num
    cases dr_ (tl z) with
    | true => simp only [if_true]; rw [hn]; exact i1
    | false => rfl
   exact aU_ (ad_ (bF_ (j3_ a1 a2) rfl) (aQ_ (pure_go r))) rfl
  ·have e2 : (tl z).filter (fun c => !eC_ c) ≠ [] := fun e => c2 fun c m => by
    have := List.filter_eq_nil_iff.mp e c m
    unfold eC_ at this
    simpa using this
   rw [decide_eq_true e2] at a2
   have hn : num z = none := by
    unfold num
    rw [if_neg]
    intro hb
    exact c2 (isNum_iff.mp hb).2.1
   rw [hn]
   exact aU_ (bu_ (cu_ (j3_ a1 a2) (aQ_ rfl))) rfl
 ·rw [decide_eq_false c1] at a1
  have hn : num z = none := by
   unfold num
   rw [if_neg]
   intro hb
   have := (isNum_iff.mp hb).1
   exact c1 (by omega)
  rw [hn]
  exact aU_ (bu_ (cu_ (DQ17.eOr_t a1) (aQ_ rfl))) rfl
open PySem.NumText (AllDigits digitsVal)
open DQ17 (as_ ay_)
open DQ (c3_ c2_)
open Gn hiding g__law_take g__law_begun d__law_take d__law_begun
def aK_ (b : Nat -> Bool) : Nat -> Nat -> Option Nat
 | 0, _ => none
 | m + 1, i => if b i = true then some i else aK_ b m (i + 1)
theorem fb_none {b : Nat -> Bool} : ∀ {m i : Nat}, aK_ b m i = none ↔ ∀ p, i <= p -> p < i + m -> b p = false
 | 0, i => ⟨fun _ p h1 h2 => by omega, fun _ => rfl⟩
 | m + 1, i => by
  unfold aK_
  by_cases hb : b i = true
  ·rw [if_pos hb]
   exact ⟨fun z => (nomatch z), fun h => by rw [h i (Nat.le_refl _) (by omega)] at hb; cases hb⟩
  ·rw [if_neg hb, fb_none]
   have hb := Bool.eq_false_iff.mpr hb
   exact ⟨fun h p h1 h2 => by by_cases e : p = i; { rw [e]; exact hb }; exact h p (by omega) (by omega), fun h p h1 h2 => h p (by omega) (by omega)⟩
theorem fb_some {b : Nat -> Bool} : ∀ {m i p : Nat}, aK_ b m i = some p ↔ (i <= p /\ p < i + m) /\ b p = true /\ ∀ q, i <= q -> q < p -> b q = false
 | 0, i, p => ⟨fun z => (nomatch z), fun h => by omega⟩
 | m + 1, i, p => by
  unfold aK_
  by_cases hb : b i = true
  ·rw [if_pos hb]
   refine ⟨fun z => ?_, fun h => ?_⟩
   ·cases z; exact ⟨⟨Nat.le_refl _, by omega⟩, hb, fun q h1 h2 => by omega⟩
   ·by_cases e : i = p
    ·rw [e]
    ·have := h.2.2 i (Nat.le_refl _) (by omega); rw [hb] at this; cases this
  ·rw [if_neg hb, fb_some]
   have hb := Bool.eq_false_iff.mpr hb
   refine ⟨fun h => ⟨⟨by omega, by omega⟩, h.2.1, fun q h1 h2 => ?_⟩, fun h => ⟨⟨?_, by omega⟩, h.2.1, fun q h1 h2 => h.2.2 q (by omega) h2⟩⟩
   ·by_cases e : q = i
    ·rw [e]; exact hb
    ·exact h.2.2 q (by omega) h2
   ·by_cases e : i = p
    ·rw [e] at hb; rw [h.2.1] at hb; cases hb
    ·omega
def stop (o : Out) : Prop := (∃ s E, o = .rt s E) ∨ ∃ c E, o = .ex c E
theorem eD_ {rd : En -> Nat -> Option (Option Rs)} {bd : Rs -> En -> Option En} {db : En -> Option Out} (J : Nat -> En -> Prop) (Z : Nat -> Out -> Prop) (b : Nat -> Bool) (n : Nat)
  (hs : ∀ i E, i < n -> J i E -> ∃ r E1, rd E i = some (some r) /\ bd r E = some E1 /\ (b i = true -> ∃ o, db E1 = some o /\ Z i o /\ stop o) /\ (b i = false -> ∃ E2, db E1 = some (.nx E2) /\ J (i + 1) E2))
  (he : ∀ E, J n E -> rd E n = some none) :
  ∀ (m i fuel : Nat) (E : En), i + m = n -> m <= fuel -> J i E -> (aK_ b m i = none -> ∃ E', dLoop rd bd db fuel i E = some (.nx E') /\ J n E') /\ ∀ p, aK_ b m i = some p -> ∃ o, dLoop rd bd db fuel i E = some o /\ Z p o /\ stop o := by
 intro m
 induction m with
 | zero =>
  intro i fuel E hi _ hJ
  have : i = n := by omega
  subst this
  exact ⟨fun _ => ⟨E, fk_ (he E hJ), hJ⟩, fun p z => nomatch z⟩
 | succ m ih =>
  intro i fuel E hi hf hJ
  cases fuel with
  | zero => omega
  | succ fuel =>
   obtain ⟨r, E1, h1, h2, h3, h4⟩ := hs i E (by omega) hJ
   unfold aK_
   by_cases hb : b i = true
   ·rw [if_pos hb]
    obtain ⟨o, ho, hz, st⟩ := h3 hb
    refine ⟨fun z => (nomatch z), fun p z => ?_⟩
    cases z
    refine ⟨o, ?_, hz, st⟩
    rw [dLoop.eq_def]
    simp only [h1, h2, ho]
    rcases st with ⟨s, E', rfl⟩ | ⟨c, E', rfl⟩ <;> rfl
   ·rw [if_neg hb]
    obtain ⟨E2, h5, h6⟩ := h4 (Bool.eq_false_iff.mpr hb)
    rw [gn_ h1 h2 h5]
    exact ih (i + 1) fuel E2 (by omega) (by omega) h6
def cn_ : Str := ("-" : Str)
def okW (p : Nat) (z : Str) : Bool := if z = cn_ then decide (p = 1) else match num z with | some n => decide (p < 2) || decide (n <= 19) | none => false
theorem kD_ {z : Str} {p : Nat} (h : Asc (tl z)) (hl : z.length < 100000) : K20.g_can_stand [.dat (.str z), .dat (.int (p : Nat))] = some (.dat (.bool (okW p z)), [.dat (.str z), .dat (.int (p : Nat))]) := by
 let E : En := entry 2 [.dat (.str z), .dat (.int (p : Nat))]
 have hs : z.length <= sizeLine := by rw [sizeLine_eq]; omega
 have e0 : aj_ (dOp bP_ (ab_ 0) (dC (.str "-"))) E = some (decide (z = cn_)) := rfl
 by_cases hd : z = cn_
 ·have t : ao_ (aj_ (dOp bP_ (ab_ 0) (dC (.str "-")))) E = some (true, E) := pureT_go (e0.trans (by rw [decide_eq_true hd]))
  have r : dOp bP_ (ab_ 1) (dC (.int 1)) E = some (.val (.dat (.bool (okW p z)))) := by
   unfold okW
   rw [if_pos hd]
   show some (Rs.val (.dat (.bool (decide (((p : Nat) : Int) = 1))))) = _
   congr 4
   rw [Bool.eq_iff_iff, decide_eq_true_eq, decide_eq_true_eq]; omega
  exact aU_ (bu_ (cu_ t (aQ_ (pure_go r)))) rfl
 ·have t : ao_ (aj_ (dOp bP_ (ab_ 0) (dC (.str "-")))) E = some (false, E) := pureT_go (e0.trans (by rw [decide_eq_false hd]))
  have c1 : ag_ K20.g_is_plain (aa_ (ab_ 0) ai_) E = some (.dat (.bool (dr_ (tl z))), E) := eCall_go (rs := [.val (.dat (.str z))]) rfl rfl rfl (h7_ h hs)
  have r : cf_ (ag_ K20.g_is_plain (aa_ (ab_ 0) ai_)) (oo_ (ae_ (dOp fLt (ab_ 1) (dC (.int 2)))) (ag_ K20.g_is_house (aa_ (dCB c7_ (aa_ (ab_ 0) ai_)) ai_))) E = some (.dat (.bool (okW p z)), E) := by
   unfold okW
   rw [if_neg hd]
   cases hn : num z with
   | none =>
    have : dr_ (tl z) = false := by
     unfold num at hn
     split at hn
     ·cases hn
     ·next q => exact Bool.eq_false_iff.mpr q
    rw [this] at c1
    unfold cf_
    rw [c1]
   | some n =>
    have hb : dr_ (tl z) = true := by
     unfold num at hn
     split at hn
     ·next q => exact q
     ·cases hn
    rw [hb] at c1
    refine go_ c1 ?_
    obtain ⟨rfl, h7⟩ := ei_ hn
    have l0 : ae_ (dOp fLt (ab_ 1) (dC (.int 2))) E = some (.dat (.bool (decide (((p : Nat) : Int) < 2))), E) := rfl
    have e2 : decide (((p : Nat) : Int) < 2) = decide (p < 2) := by rw [Bool.eq_iff_iff, decide_eq_true_eq, decide_eq_true_eq]; omega
    rw [e2] at l0
    unfold oo_
    rw [l0]
    by_cases hp : p < 2
    ·rw [decide_eq_true hp]; rfl
    ·rw [decide_eq_false hp]
     have i1 := gJ_ (E := E) (d := ab_ 0) (z := word n) rfl (gF_ h7) (Nat.le_trans (dq_ h7) (by decide))
     have hh : K20.g_is_house [.dat (.int (n : Nat))] = some (.dat (.bool (decide (n <= 19))), [.dat (.int (n : Nat))]) := by
      refine (show K20.g_is_house [.dat (.int (n : Nat))] = some (.dat (.bool (decide (0 <= ((n : Nat) : Int)) && decide (((n : Nat) : Int) <= 19))), [.dat (.int (n : Nat))]) from K02.v_house (n : Int)).trans ?_
      congr 5
      rw [Bool.eq_iff_iff, Bool.and_eq_true, decide_eq_true_eq, decide_eq_true_eq, decide_eq_true_eq]; omega
     show ag_ K20.g_is_house (aa_ (dCB c7_ (aa_ (ab_ 0) ai_)) ai_) E = some (.dat (.bool (false || decide (n <= 19))), E)
     rw [Bool.false_or]
     exact eCall_go (rs := [.val (.dat (.int (n : Nat)))]) (am_ i1 rfl) rfl rfl hh
  exact aU_ (ad_ (bF_ t rfl) (aQ_ r)) rfl
abbrev Ed := DQ.Ed
def pU_ : Option Int -> Bool | none => true | some k => decide (0 <= k) && decide (k <= 1000000)
def edB (e : Ed) : Bool := pU_ e.make && (decide (1 <= e.num) && decide (e.num <= 1000000))
theorem qk_ {e : Ed} (ho : e.own.length = 12) (hr : ∀ i ∈ e.own, 0 <= i /\ i <= 19) : K20.g_is_edition [.dat e.d] = some (.dat (.bool (edB e)), [.dat e.d]) := by
 obtain ⟨nm, make, own⟩ := e
 let T : En := [.own (.dat (DQ.Ed.d ⟨nm, make, own⟩))]
 let E1 : En := [.own (.dat (DQ.Ed.d ⟨nm, make, own⟩)), .own (.dat (.int nm)), .own (.dat (DQ.oI make)), .own (.dat (DQ.tD own))] ++ T
 have w : ∀ i a b : Int, K20.g_is_within [.dat (.int i), .dat (.int a), .dat (.int b)] = some (.dat (.bool (decide (a <= i) && decide (i <= b))), [.dat (.int i), .dat (.int a), .dat (.int b)]) := fun _ _ _ => rfl
 have c1 : ag_ K20.g_is_within (aa_ (ab_ 1) (aa_ (dC (.int 1)) (aa_ (dC (.int 1000000)) ai_))) E1 = some (.dat (.bool (decide (1 <= nm) && decide (nm <= 1000000))), E1) := eCall_go (rs := [.val (.dat (.int nm)), .val (.dat (.int 1)), .val (.dat (.int 1000000))]) rfl rfl rfl (w nm 1 1000000)
 have c2 : ag_ K20.g_is_owners (aa_ (ab_ 3) ai_) E1 = some (.dat (.bool true), E1) := eCall_go (rs := [.val (.dat (DQ.tD own))]) rfl rfl rfl (show K20.g_is_owners [.dat (DQ.tD own)] = _ from DQ.v_is_owners ho hr)
 have r : cf_ (ag_ K20.g_is_within (aa_ (ab_ 1) (aa_ (dC (.int 1)) (aa_ (dC (.int 1000000)) ai_)))) (ag_ K20.g_is_owners (aa_ (ab_ 3) ai_)) E1 = some (.dat (.bool (decide (1 <= nm) && decide (nm <= 1000000))), E1) := by
  unfold cf_
  rw [c1]
  cases decide (1 <= nm) && decide (nm <= 1000000) with
  | true => exact c2
  | false => rfl
 have fin : ∀ b, pU_ make = b -> gc_ (ao_ (aj_ (dOp fI_ (ab_ 2) (dC .none)))) (dG_ (bb_ (ag_ K20.g_is_within (aa_ (ab_ 2) (aa_ (dC (.int 0)) (aa_ (dC (.int 1000000)) ai_)))))) E1 = some (!b, E1) := fun b hb => by
  cases make with
  | none => rw [<- hb]; exact c3_ rfl
  | some k => rw [<- hb]; exact c2_ (E1 := E1) rfl (dg_ (bQ_ (eCall_go (rs := [.val (.dat (.int k)), .val (.dat (.int 0)), .val (.dat (.int 1000000))]) rfl rfl rfl (w k 0 1000000))))
 unfold edB
 show K20.g_is_edition _ = some (.dat (.bool (pU_ make && (decide (1 <= nm) && decide (nm <= 1000000)))), _)
 cases hb : pU_ make with
 | true => exact aU_ (ad_ (E1 := entry 4 [.dat (DQ.Ed.d ⟨nm, make, own⟩)]) rfl (ad_ (E1 := E1) rfl (ad_ (bF_ (fin _ hb) rfl) (aQ_ r)))) rfl
 | false => exact aU_ (ad_ (E1 := entry 4 [.dat (DQ.Ed.d ⟨nm, make, own⟩)]) rfl (ad_ (E1 := E1) rfl (bu_ (cu_ (fin _ hb) (aQ_ rfl))))) rfl
theorem h8_ {n : Nat} {d : En -> Option Out} {ss ss' : List S} {s : S} {E : En} (h : d (entry n ss) = some (.rt s E)) (h2 : cD_ (E.drop n) = some ss') : jw_ n d ss = some (.rt s, ss') := by unfold jw_; rw [h]; simp only [h2]; rfl
theorem nG_ {n : Nat} {d : En -> Option Out} {ss ss' : List S} {E : En} (h : d (entry n ss) = some (.nx E)) (h2 : cD_ (E.drop n) = some ss') : jw_ n d ss = some (.rt (.dat .none), ss') := by unfold jw_; rw [h]; simp only [h2]; rfl
theorem eE_ {n c : Nat} {d : En -> Option Out} {ss ss' : List S} {E : En} (h : d (entry n ss) = some (.ex c E)) (h2 : cD_ (E.drop n) = some ss') : jw_ n d ss = some (.ex c, ss') := by unfold jw_; rw [h]; simp only [h2]; rfl
theorem gL_ {d1 d2 : En -> Option Out} {c : Nat} {E E1 : En} (h : d1 E = some (.ex c E1)) : aE_ d1 d2 E = some (.ex c E1) := by unfold aE_; rw [h]
theorem ql_ {e : Ed} (ho : e.own.length = 12) (hr : ∀ i ∈ e.own, 0 <= i /\ i <= 19) : K20.g_check_edition [.dat e.d] = some (if edB e = true then .rt (.dat .none) else .ex 17, [.dat e.d]) := by
 have c : ag_ K20.g_is_edition (aa_ (ab_ 0) ai_) (entry 1 [.dat e.d]) = some (.dat (.bool (edB e)), entry 1 [.dat e.d]) := eCall_go (rs := [.val (.dat e.d)]) rfl rfl rfl (qk_ ho hr)
 have t : dG_ (bb_ (ag_ K20.g_is_edition (aa_ (ab_ 0) ai_))) (entry 1 [.dat e.d]) = some (!edB e, entry 1 [.dat e.d]) := dg_ (bQ_ c)
 cases hb : edB e with
 | true => rw [hb] at t; rw [if_pos rfl]; exact nG_ (bF_ t rfl) rfl
 | false => rw [hb] at t; rw [if_neg Bool.false_ne_true]; exact eE_ (cu_ t rfl) rfl
open PySem.NumText (AllDigits digitsVal)
open DQ17 (as_ ay_)
open Gn hiding g__law_take g__law_begun d__law_take d__law_begun
theorem qW_ (s : Nat) : ∀ (l acc : List Nat), spl [s] 0 acc l ≠ [] /\ (∀ q ∈ spl [s] 0 acc l, ∀ c ∈ q, c ∈ acc ∨ c ∈ l) /\ ((spl [s] 0 acc l).map List.length).sum + (spl [s] 0 acc l).length = acc.length + l.length + 1 := by
 intro l
 induction l with
 | nil => intro acc; rw [spl_nil]; exact ⟨by simp, fun q m c mc => .inl (by rw [List.mem_singleton.mp m] at mc; exact mc), by simp⟩
 | cons a r ih =>
  intro acc
  cases hp : pre [s] (a :: r) with
  | true =>
   rw [spl_hit hp]
   obtain ⟨h1, h2, h3⟩ := ih []
   refine ⟨by simp, fun q m c mc => ?_, ?_⟩
   ·rcases List.mem_cons.mp m with rfl | m
    ·exact .inl mc
    ·rcases h2 q m c mc with z | z
     ·cases z
     ·exact .inr (List.mem_cons_of_mem _ z)
   ·show ((acc :: spl [s] 0 [] r).map List.length).sum + (acc :: spl [s] 0 [] r).length = _
    simp only [List.map_cons, List.sum_cons, List.length_cons, List.length_nil] at h3 ⊢
    omega
  | false =>
   rw [spl_miss hp]
   obtain ⟨h1, h2, h3⟩ := ih (acc ++ [a])
   refine ⟨h1, fun q m c mc => ?_, ?_⟩
   ·rcases h2 q m c mc with z | z
    ·rcases List.mem_append.mp z with z | z
     ·exact .inl z
     ·exact .inr (by rw [List.mem_singleton.mp z]; exact List.mem_cons_self)
    ·exact .inr (List.mem_cons_of_mem _ z)
   ·rw [h3]; simp only [List.length_append, List.length_cons, List.length_nil]; omega
def spS : Str := (" " : Str)
def nlS : Str := ("\n" : Str)
theorem kE_ {z y : Str} {s : Nat} (hy : tl y = [s]) (hs : s < 128) (hz : Asc (tl z)) : Txt.split z y ≠ [] /\ (∀ w ∈ Txt.split z y, Asc (tl w)) /\ ((Txt.split z y).map Str.length).sum + (Txt.split z y).length = z.length + 1 := by
 have e := split_spl z y (by rw [hy]; simp) (kind_ok (by rw [<- Array.all_toList]; show (tl y).all _ = true; rw [hy]; simp; omega))
 rw [hy] at e
 obtain ⟨h1, h2, h3⟩ := qW_ s (tl z) []
 rw [<- e] at h1 h2 h3
 refine ⟨fun q => h1 (by rw [q]; rfl), fun w m c mc => ?_, ?_⟩
 ·rcases h2 (tl w) (List.mem_map.mpr ⟨w, m, rfl⟩) c mc with q | q
  ·cases q
  ·exact hz c q
 ·rw [List.map_map, List.length_map] at h3
  have : ((Txt.split z y).map Str.length) = (Txt.split z y).map (List.length ∘ tl) := List.map_congr_left fun w _ => len_tl w
  rw [this, h3, len_tl z]; simp
theorem gM_ {l : List Str} {w : Str} (m : w ∈ l) : w.length <= (l.map Str.length).sum := by
 induction l with
 | nil => cases m
 | cons a r ih =>
  rw [List.map_cons, List.sum_cons]
  rcases List.mem_cons.mp m with rfl | m
  ·omega
  ·have := ih m; omega
structure Tx (z : Str) : Prop where
 asc : Asc (tl z)
 len : z.length < 90000
theorem d4_ {z y w : Str} {s : Nat} (t : Tx z) (hy : tl y = [s]) (hs : s < 128) (m : w ∈ Txt.split z y) : Tx w := by
 obtain ⟨h1, h2, h3⟩ := kE_ hy hs t.asc
 have := gM_ m
 have := t.len
 have : 1 <= (Txt.split z y).length := List.length_pos_iff.mpr h1
 exact ⟨h2 w m, by omega⟩
theorem ds_ {z y : Str} {s : Nat} (t : Tx z) (hy : tl y = [s]) (hs : s < 128) : (Txt.split z y).length < 90002 := by
 obtain ⟨h1, h2, h3⟩ := kE_ hy hs t.asc
 have := t.len
 omega
theorem co_ : tl spS = [32] := by decide +kernel
theorem eF_ : tl nlS = [10] := by decide +kernel
theorem kF_ : tl cn_ = [45] := by decide +kernel
theorem cC_ {E : En} {da : En -> Option Rs} {z y : Str} {s : Nat} (hy : tl y = [s]) (h : da E = some (.val (.dat (.str z)))) (hl : z.length < 90000) : a7_ da (dC (.str y)) E = some (.val (dL PyData.str (Txt.split z y))) := by
 unfold a7_
 rw [h]
 show (if (y.length == 0) = false /\ z.length + 2 <= sizeLine then _ else none) = _
 rw [if_pos ⟨by rw [len_tl, hy]; rfl, by rw [sizeLine_eq]; omega⟩]
 rfl
theorem fy_ {E : En} {d : En -> Option Rs} {i : Nat} (h : d E = some (.val (.dat (.int (i : Nat))))) (hi : i < 1000000) : ch_ d E = some (.ex (1000 + i) E) := by
 unfold ch_
 rw [h]
 generalize hm : (1000 : Nat) = m
 show (if 0 <= ((i : Nat) : Int) /\ ((i : Nat) : Int) < 2 ^ 62 then some (Out.ex (m + ((i : Nat) : Int).toNat) E) else none) = _
 rw [if_pos ⟨by omega, by omega⟩, Int.toNat_natCast]
def hK_ (ws : List Str) (i : Nat) : Bool := match ws[i]? with | none => true | some w => !okW i w
def fR (z : Str) (ws : List Str) (v2 v3 v4 v5 v6 v7 : Sl) (G : En) : En := [.own (.dat (.str z)), .own (dL PyData.str ws), v2, v3, v4, v5, v6, v7, .own (.dat (.str z))] ++ G
def Qd (s : Sl) : Prop := s = .no ∨ ∃ d, s = .own (.dat d)
theorem iR_ : num cn_ = none := by decide +kernel
theorem f5_ {E : En} {ws : List Str} (h : E[1]? = some (.own (dL PyData.str ws))) : bp_ (ab_ 1) E = some (.val (.dat (.int (ws.length : Nat)))) := by
 have hv : ab_ 1 E = some (.pl [1]) := by unfold ab_; rw [h]; rfl
 exact ko_ (f := PyData.str) hv (show Rs.at E (.pl [1]) = _ by simp only [Rs.at, aZ_, h]; exact S.get_nil _)
theorem kG_ {E : En} {ws : List Str} {w : Str} {i : Nat} {di : En -> Option Rs} (h : E[1]? = some (.own (dL PyData.str ws))) (hi : di E = some (.val (.dat (.int (i : Nat))))) (hw : ws[i]? = some w) : aC_ (ab_ 1) di E = some (.val (.dat (.str w))) := by
 have hv : ab_ 1 E = some (.pl [1]) := by unfold ab_; rw [h]; rfl
 exact eP_ (f := PyData.str) (xs := ws) (k := i) hv (show Rs.at E (.pl [1]) = _ by simp only [Rs.at, aZ_, h]; exact S.get_nil _) hi hw
def rdB (ws : List Str) : Option Nat := match aK_ (hK_ ws) 14 0 with | some p => some p | none => if 14 < ws.length then some 14 else none
section
variable {z : Str} {ws : List Str}
theorem kH_ (hws : ∀ w ∈ ws, Tx w) :
  (aK_ (hK_ ws) 14 0 = none -> ∃ v2, d8_ (by_ (dC (.int 14))) (au_ 2) (dIf (eOr (ao_ (aj_ (dOp bP_ (ab_ 2) (bp_ (ab_ 1))))) (dG_ (bb_ (ag_ K20.g_can_stand (aa_ (aC_ (ab_ 1) (ab_ 2)) (aa_ (ab_ 2) ai_)))))) (ch_ (ab_ 2)) aH_) (fR z ws .no .no .no .no .no .no []) = some (.nx (fR z ws v2 .no .no .no .no .no [])) /\ Qd v2 /\ 14 <= ws.length) ∧
  ∀ p, aK_ (hK_ ws) 14 0 = some p -> ∃ v2, d8_ (by_ (dC (.int 14))) (au_ 2) (dIf (eOr (ao_ (aj_ (dOp bP_ (ab_ 2) (bp_ (ab_ 1))))) (dG_ (bb_ (ag_ K20.g_can_stand (aa_ (aC_ (ab_ 1) (ab_ 2)) (aa_ (ab_ 2) ai_)))))) (ch_ (ab_ 2)) aH_) (fR z ws .no .no .no .no .no .no []) = some (.ex (1000 + p) (fR z ws v2 .no .no .no .no .no [])) := by
 have hsrc := cg_ (E := fR z ws .no .no .no .no .no .no []) (d := dC (.int 14)) (j := 14) rfl (by omega) (by omega)
 have L := eD_ (rd := fun _ i => some (if i < 14 then some (.val (.dat (.int (i : Nat)))) else none)) (bd := au_ 2) (db := dIf (eOr (ao_ (aj_ (dOp bP_ (ab_ 2) (bp_ (ab_ 1))))) (dG_ (bb_ (ag_ K20.g_can_stand (aa_ (aC_ (ab_ 1) (ab_ 2)) (aa_ (ab_ 2) ai_)))))) (ch_ (ab_ 2)) aH_)
  (fun i E => ∃ v2, E = fR z ws v2 .no .no .no .no .no [] /\ Qd v2 /\ i <= ws.length) (fun i o => ∃ v2, o = .ex (1000 + i) (fR z ws v2 .no .no .no .no .no [])) (hK_ ws) 14
  (fun i E hi hJ => by
   obtain ⟨v2, rfl, q, hil⟩ := hJ
   let E1 := fR z ws (.own (.dat (.int (i : Nat)))) .no .no .no .no .no []
   have t1 : ao_ (aj_ (dOp bP_ (ab_ 2) (bp_ (ab_ 1)))) E1 = some (decide (i = ws.length), E1) := by
    refine pureT_go (as_ ?_)
    rw [bs_ (a := .val (.dat (.int (i : Nat)))) (x := .int (i : Nat)) rfl (f5_ rfl) rfl rfl rfl]
    congr 4
    rw [Bool.eq_iff_iff, decide_eq_true_eq, decide_eq_true_eq]; omega
   have rz : ch_ (ab_ 2) E1 = some (.ex (1000 + i) E1) := fy_ rfl (by omega)
   refine ⟨_, E1, iC_ (E := []) hi, ?_, fun hb => ?_, fun hb => ?_⟩
   ·show some (ak_ _ 2 _) = _
    rcases q with rfl | ⟨d, rfl⟩ <;> rfl
   ·unfold hK_ at hb
    cases hw : ws[i]? with
    | none =>
     have : i = ws.length := by have := List.getElem?_eq_none_iff.mp hw; omega
     rw [decide_eq_true this] at t1
     exact ⟨_, cu_ (DQ17.eOr_t t1) rz, ⟨_, rfl⟩, .inr ⟨_, _, rfl⟩⟩
    | some w =>
     rw [hw] at hb
     have hlt := (List.getElem?_eq_some_iff.mp hw).1
     rw [decide_eq_false (by omega)] at t1
     have tw := hws w (List.mem_of_getElem? hw)
     have c1 : ag_ K20.g_can_stand (aa_ (aC_ (ab_ 1) (ab_ 2)) (aa_ (ab_ 2) ai_)) E1 = some (.dat (.bool (okW i w)), E1) :=
      eCall_go (rs := [.val (.dat (.str w)), .val (.dat (.int (i : Nat)))]) (am_ (kG_ rfl rfl hw) rfl) rfl rfl (kD_ tw.asc (by have := tw.len; omega))
     have t2 := dg_ (bQ_ c1)
     rw [show (!okW i w) = true from hb] at t2
     exact ⟨_, cu_ (j3_ t1 t2) rz, ⟨_, rfl⟩, .inr ⟨_, _, rfl⟩⟩
   ·unfold hK_ at hb
    cases hw : ws[i]? with
    | none => rw [hw] at hb; cases hb
    | some w =>
     rw [hw] at hb
     have hlt := (List.getElem?_eq_some_iff.mp hw).1
     rw [decide_eq_false (by omega)] at t1
     have tw := hws w (List.mem_of_getElem? hw)
     have c1 : ag_ K20.g_can_stand (aa_ (aC_ (ab_ 1) (ab_ 2)) (aa_ (ab_ 2) ai_)) E1 = some (.dat (.bool (okW i w)), E1) :=
      eCall_go (rs := [.val (.dat (.str w)), .val (.dat (.int (i : Nat)))]) (am_ (kG_ rfl rfl hw) rfl) rfl rfl (kD_ tw.asc (by have := tw.len; omega))
     have t2 := dg_ (bQ_ c1)
     rw [show (!okW i w) = false from hb] at t2
     exact ⟨_, bF_ (j3_ t1 t2) rfl, _, rfl, .inr ⟨_, rfl⟩, by omega⟩)
  (fun E _ => gq_ (E := [])) 14 0 14 (fR z ws .no .no .no .no .no .no []) (by omega) (Nat.le_refl _) ⟨.no, rfl, .inl rfl, by omega⟩
 refine ⟨fun h => ?_, fun p h => ?_⟩
 ·obtain ⟨E', hE, v2, rfl, q, hl⟩ := L.1 h
  exact ⟨v2, cE_ hsrc (by rw [List.append_nil]; exact hE), q, hl⟩
 ·obtain ⟨o, ho, ⟨v2, rfl⟩, _⟩ := L.2 p h
  refine ⟨v2, ?_⟩
  unfold d8_
  rw [hsrc]
  dsimp only
  rw [List.append_nil]
  show mi_ _ (dLoop _ _ _ _ 0 _) = _
  rw [show (14 : Int).toNat = 14 from rfl, ho]; rfl
end
open PySem.NumText (AllDigits digitsVal)
open DQ17 (as_ ay_)
open DQ (c3_ c2_)
open Gn hiding g__law_take g__law_begun d__law_take d__law_begun
def vN (w : Str) : PyData := oN (num w)
theorem gN_ {g : List S -> Option (Rx × List S)} {dr : En -> Option (List Rs)} {E : En} {rs : List Rs} {ss ss' : List S} {r : Rx} (h1 : dr E = some rs) (h2 : bf_ rs = true) (h3 : hQ_ E rs = some ss) (h4 : g ss = some (r, ss')) : eW_ g dr E = some (r, bK_ (aF_ E rs ss') rs) := by
 unfold eW_
 rw [h1]
 simp only [h2, if_true, h3, h4]
theorem h9_ {p : Nat} {w : Str} (h : okW p w = true) (hd : w ≠ cn_) : ∃ n, num w = some n /\ (p < 2 ∨ n <= 19) := by
 unfold okW at h
 rw [if_neg hd] at h
 cases hn : num w with
 | none => rw [hn] at h; cases h
 | some n =>
  rw [hn] at h
  refine ⟨n, rfl, ?_⟩
  simpa using h
theorem iS_ {p : Nat} {w : Str} (h : okW p w = true) (hd : w = cn_) : p = 1 := by
 unfold okW at h
 rw [if_pos hd] at h
 exact of_decide_eq_true h
theorem qm_ {ws : List Str} (h : rdB ws = none) : ws.length = 14 /\ (∀ w ∈ ws, w = cn_ ∨ ∃ n, num w = some n) /\ ∃ e : Ed, e.own.length = 12 /\ (∀ i ∈ e.own, 0 <= i /\ i <= 19) /\ 0 <= e.num /\ (∀ k, e.make = some k -> 0 <= k) /\ ws.map vN = .int e.num :: DQ.oI e.make :: e.own.map .int := by
 unfold rdB at h
 cases hf : aK_ (hK_ ws) 14 0 with
 | some p => rw [hf] at h; cases h
 | none =>
  rw [hf] at h
  have hb := fb_none.mp hf
  have hat : ∀ p, p < 14 -> ∃ w, ws[p]? = some w /\ okW p w = true := fun p hp => by
   have := hb p (by omega) (by omega)
   unfold hK_ at this
   cases hw : ws[p]? with
   | none => rw [hw] at this; cases this
   | some w => rw [hw] at this; exact ⟨w, rfl, by simpa using this⟩
  have hl : ws.length = 14 := by
   obtain ⟨w, hw, _⟩ := hat 13 (by decide)
   have h1 := (List.getElem?_eq_some_iff.mp hw).1
   by_cases h2 : 14 < ws.length
   ·dsimp only at h; rw [if_pos h2] at h; cases h
   ·omega
  refine ⟨hl, fun w m => ?_, ?_⟩
  ·obtain ⟨p, hp, e⟩ := List.getElem_of_mem m
   obtain ⟨w', hw', ok⟩ := hat p (by omega)
   have : w' = w := by rw [List.getElem?_eq_getElem hp, e] at hw'; exact (Option.some.inj hw').symm
   subst this
   by_cases hd : w' = cn_
   ·exact .inl hd
   ·obtain ⟨n, hn, _⟩ := h9_ ok hd
    exact .inr ⟨n, hn⟩
  ·match ws, hl, hat with
   | w0 :: w1 :: rest, hl, hat =>
    obtain ⟨w, hw, ok0⟩ := hat 0 (by decide)
    cases hw
    obtain ⟨w, hw, ok1⟩ := hat 1 (by decide)
    cases hw
    have hd0 : w0 ≠ cn_ := fun z => by have := iS_ ok0 z; omega
    obtain ⟨n0, e0, _⟩ := h9_ ok0 hd0
    have hr : ∀ w ∈ rest, ∃ n, num w = some n /\ n <= 19 := fun w m => by
     obtain ⟨p, hp, e⟩ := List.getElem_of_mem m
     obtain ⟨w', hw', ok⟩ := hat (p + 2) (by simp at hl; omega)
     have hw2 : rest[p]? = some w' := by simpa using hw'
     have : w' = w := by rw [List.getElem?_eq_getElem hp, e] at hw2; exact (Option.some.inj hw2).symm
     subst this
     have hd : w' ≠ cn_ := fun z => by have := iS_ ok z; omega
     obtain ⟨n, hn, h2⟩ := h9_ ok hd
     exact ⟨n, hn, by omega⟩
    refine ⟨⟨(n0 : Int), (num w1).map fun n => ((n : Nat) : Int), rest.map fun w => (((num w).getD 0 : Nat) : Int)⟩, by simp at hl ⊢; exact hl, fun i m => ?_, by show (0 : Int) <= (n0 : Int); omega, fun k hk => ?_, ?_⟩
    ·obtain ⟨w, mw, rfl⟩ := List.mem_map.mp m
     obtain ⟨n, hn, h19⟩ := hr w mw
     rw [hn]
     exact ⟨by show (0 : Int) <= ((n : Nat) : Int); omega, by show ((n : Nat) : Int) <= 19; omega⟩
    ·obtain ⟨n, _, rfl⟩ := Option.map_eq_some_iff.mp hk
     omega
    ·show vN w0 :: vN w1 :: rest.map vN = .int (n0 : Int) :: DQ.oI ((num w1).map fun n => ((n : Nat) : Int)) :: (rest.map fun w => (((num w).getD 0 : Nat) : Int)).map PyData.int
     congr 1
     ·unfold vN; rw [e0]; rfl
     ·congr 1
      ·unfold vN; cases num w1 <;> rfl
      ·rw [List.map_map]
       refine List.map_congr_left fun w m => ?_
       obtain ⟨n, hn, _⟩ := hr w m
       unfold vN
       show oN (num w) = .int (((num w).getD 0 : Nat) : Int)
       rw [hn]; rfl
section
variable {z : Str} {ws : List Str}
def LC7 : En -> Option (S × En) := eLc (c5_ (ab_ 1)) 7 cs_ (ae_ (dM_ (aj_ (dOp bP_ (ab_ 7) (dC (.str "-")))) (dC .none) (dCB c7_ (aa_ (ab_ 7) ai_))))
theorem lc7 (hl : ws.length < 100000) (hw : ∀ w ∈ ws, w = cn_ ∨ ∃ n, num w = some n) {v2 : Sl} (q : Qd v2) : LC7 (fR z ws v2 .no .no .no .no .no []) = some (.lst (ws.map fun w => S.dat (vN w)), fR z ws v2 .no .no .no .no .no []) := by
 have := lcP (xs := ws) (f := PyData.str) (p := fun _ => true) (g := fun w => S.dat (vN w)) (q := [1]) (j := 7) (src := c5_ (ab_ 1)) (dt := cs_) (de := ae_ (dM_ (aj_ (dOp bP_ (ab_ 7) (dC (.str "-")))) (dC .none) (dCB c7_ (aa_ (ab_ 7) ai_)))) (E := fR z ws v2 .no .no .no .no .no []) (E0 := fR z ws v2 .no .no .no .no .no [] ++ [.bor [1]]) hl (by
    show some (Src.mk _ [.bor [1]] rdP (ws.map fun d => S.dat (.str d)).length) = _
    rw [List.length_map]) (by rcases q with rfl | ⟨d, rfl⟩ <;> rfl) (by rcases q with rfl | ⟨d, rfl⟩ <;> rfl) (by rcases q with rfl | ⟨d, rfl⟩ <;> exact S.get_nil _) (fun w mw => by
     refine ⟨fR z ws v2 .no .no .no .no (.own (.dat (.str w))) [.bor [1]], by rcases q with rfl | ⟨d, rfl⟩ <;> rfl, rfl, fun _ => ?_, by rcases q with rfl | ⟨d, rfl⟩ <;> rfl⟩
     refine pure_go ?_
     have e0 : aj_ (dOp bP_ (ab_ 7) (dC (.str "-"))) (fR z ws v2 .no .no .no .no (.own (.dat (.str w))) [.bor [1]]) = some (decide (w = cn_)) := rfl
     unfold dM_
     rw [e0]
     by_cases hd : w = cn_
     ·rw [decide_eq_true hd]
      unfold vN
      rw [hd, iR_]; rfl
     ·rw [decide_eq_false hd]
      obtain ⟨n, hn⟩ := (hw w mw).resolve_left hd
      unfold vN
      rw [hn]
      obtain ⟨rfl, h7⟩ := ei_ hn
      exact gJ_ (z := word n) rfl (gF_ h7) (Nat.le_trans (dq_ h7) (by decide)))
 unfold LC7
 rw [this, List.filter_eq_self.mpr (fun _ _ => rfl)]
 rcases q with rfl | ⟨d, rfl⟩ <;> rfl
theorem o2_ (t : Tx z) (hws : Txt.split z spS = ws) :
  (∀ p, rdB ws = some p -> K20.g_read [.dat (.str z)] = some (.ex (1000 + p), [.dat (.str z)])) ∧
  ∀ e : Ed, rdB ws = none -> ws.length = 14 -> (∀ w ∈ ws, w = cn_ ∨ ∃ n, num w = some n) -> e.own.length = 12 -> (∀ i ∈ e.own, 0 <= i /\ i <= 19) -> ws.map vN = .int e.num :: DQ.oI e.make :: e.own.map .int →
   K20.g_read [.dat (.str z)] = some (if edB e = true then .rt (.dat e.d) else .ex 17, [.dat (.str z)]) := by
 have tw : ∀ w ∈ ws, Tx w := fun w m => d4_ t co_ (by decide) (by rw [hws]; exact m)
 have s1 : ap_ 1 (a7_ (ab_ 0) (dC (.str " "))) (entry 8 [.dat (.str z)]) = some (.nx (fR z ws .no .no .no .no .no .no [])) := by
  have sp : a7_ (ab_ 0) (dC (.str " ")) (entry 8 [.dat (.str z)]) = some (.val (dL PyData.str ws)) := by rw [<- hws]; exact cC_ (y := spS) co_ rfl t.len
  unfold ap_
  rw [sp]; rfl
 obtain ⟨L1, L2⟩ := kH_ (z := z) tw
 unfold rdB
 cases hf : aK_ (hK_ ws) 14 0 with
 | some p =>
  refine ⟨fun p' h => ?_, fun e h => nomatch h⟩
  cases h
  obtain ⟨v2, h⟩ := L2 p hf
  exact eE_ (ad_ s1 (gL_ h)) (by rfl)
 | none =>
  obtain ⟨v2, hlp, q, h14⟩ := L1 hf
  have t3 : ao_ (aj_ (dOp fGt (bp_ (ab_ 1)) (dC (.int 14)))) (fR z ws v2 .no .no .no .no .no []) = some (decide (14 < ws.length), fR z ws v2 .no .no .no .no .no []) := by
   refine pureT_go (as_ ?_)
   rw [bs_ (b := .val (.dat (.int 14))) (y := .int 14) (f5_ rfl) rfl rfl rfl rfl]
   congr 4
   rw [Bool.eq_iff_iff, decide_eq_true_eq, decide_eq_true_eq]; omega
  by_cases hg : 14 < ws.length
  ·dsimp only
   rw [if_pos hg]
   refine ⟨fun p h => ?_, fun e h => nomatch h⟩
   cases h
   rw [decide_eq_true hg] at t3
   exact eE_ (ad_ s1 (ad_ hlp (gL_ (cu_ t3 (fy_ rfl (by decide)))))) (by rfl)
  ·dsimp only
   rw [if_neg hg]
   refine ⟨fun p h => (nomatch h), fun e _ hl hw ho hr hv => ?_⟩
   rw [decide_eq_false hg] at t3
   have s4 := lc7 (z := z) (ws := ws) (by omega) hw q
   let E3 : En := fR z ws v2 (.own (.dat (.int e.num))) (.own (.dat (DQ.oI e.make))) (.own (.dat (.list (e.own.map PyData.int)))) .no .no []
   have s5 : eN_ 2 (aX_ (au_ 3) (aX_ (au_ 4) (aX_ (au_ 5) e6_))) LC7 (fR z ws v2 .no .no .no .no .no []) = some (.nx E3) := by
    unfold eN_
    have hd : bc_ (ws.map fun w => S.dat (vN w)) = some (.int e.num :: DQ.oI e.make :: e.own.map PyData.int) := by
     have : (ws.map fun w => S.dat (vN w)) = (ws.map vN).map S.dat := by simp
     rw [this, hv, b8_]
    simp only [s4, hd]
    rw [if_pos (by simp)]
    rcases q with rfl | ⟨d, rfl⟩ <;> rfl
   let E4 : En := fR z ws v2 (.own (.dat (.int e.num))) (.own (.dat (DQ.oI e.make))) (.own (.dat (.list (e.own.map PyData.int)))) (.own (.dat e.d)) .no []
   have s6 : ap_ 6 (aS_ (aa_ (ab_ 3) (aa_ (ab_ 4) (aa_ (dCS fTuple (aa_ (ab_ 5) ai_)) ai_)))) E3 = some (.nx E4) := by
    rcases q with rfl | ⟨d, rfl⟩ <;> rfl
   have c7 := gN_ (dr := aa_ (ab_ 6) ai_) (E := E4) (rs := [.val (.dat e.d)]) rfl rfl rfl (ql_ ho hr)
   cases hb : edB e with
   | true =>
    rw [hb] at c7
    rw [if_pos rfl] at c7 ⊢
    have s7 : fl_ (eW_ K20.g_check_edition (aa_ (ab_ 6) ai_)) E4 = some (.nx E4) := by unfold fl_; rw [c7]; rfl
    have s8 : aY_ (c6_ 6) E4 = some (.rt (.dat e.d) (fR z ws v2 (.own (.dat (.int e.num))) (.own (.dat (DQ.oI e.make))) (.own (.dat (.list (e.own.map PyData.int)))) .no .no [])) := by
     rcases q with rfl | ⟨d, rfl⟩ <;> rfl
    exact h8_ (ad_ s1 (ad_ hlp (ad_ (bF_ t3 rfl) (ad_ s5 (ad_ s6 (ad_ s7 s8)))))) (by rfl)
   | false =>
    rw [hb] at c7
    rw [if_neg Bool.false_ne_true] at c7 ⊢
    have s7 : fl_ (eW_ K20.g_check_edition (aa_ (ab_ 6) ai_)) E4 = some (.ex 17 E4) := by unfold fl_; rw [c7]; rfl
    exact eE_ (ad_ s1 (ad_ hlp (ad_ (bF_ t3 rfl) (ad_ s5 (ad_ s6 (gL_ s7)))))) (by rfl)
end
open PySem.NumText (AllDigits digitsVal)
open DQ17 (as_ ay_)
open DQ (c3_ c2_)
open Gn hiding g__law_take g__law_begun d__law_take d__law_begun
theorem jn_ {a b : En -> Option Bool} {E : En} (h : a E = some false) : dOr a b E = b E := by unfold dOr; rw [h]
theorem jo_ {a b : En -> Option Bool} {E : En} (h : a E = some true) : dOr a b E = some true := by unfold dOr; rw [h]
theorem hC_ {a b : En -> Option Bool} {E : En} (h : a E = some false) : hH_ a b E = some false := by unfold hH_; rw [h]
theorem hD_ {a b : En -> Option Bool} {E : En} (h : a E = some true) : hH_ a b E = b E := by unfold hH_; rw [h]
def fL (z : Str) (ws : List Str) (v2 v3 v4 v5 : Sl) (G : En) : En := [.own (.dat (.str z)), .own (dL PyData.str ws), v2, v3, v4, v5, .own (.dat (.str z))] ++ G
def bt (p : Nat) : PyData := .tuple [.str "BadText", .int ((p : Nat) : Int)]
theorem kI_ (p : Nat) : jy_ (1000 + p) = bt p := by
 unfold jy_ bt
 rw [if_neg (by omega), show 1000 + p - 1000 = p by omega]
def gW_ (ws : List Str) (i : Nat) : Bool := decide (13 < i) || hK_ ws i
def pV_ : En -> Option Bool := dOr (aj_ (dOp fGt (ab_ 2) (dC (.int 13)))) (dOr (hH_ (aj_ (dOp fS_ (ab_ 3) (dC .none))) (dOr (aj_ (dOp dD_ (ab_ 2) (dC (.int 1)))) (aj_ (dOp dD_ (aC_ (ab_ 1) (dC (.int 1))) (dC (.str "-")))))) (hH_ (aj_ (dOp fGt (ab_ 2) (dC (.int 1)))) (aj_ (dOp fGt (ab_ 3) (dC (.int 19))))))
def kJ_ : En -> Option Out := aE_ (cd_ 3 (ag_ K20.g__law_number (aa_ (aC_ (ab_ 1) (ab_ 2)) ai_))) (dIf (ao_ pV_) (aY_ (ae_ (aS_ (aa_ (dC (.str "BadText")) (aa_ (ab_ 2) ai_))))) aH_)
section
variable {z : Str} {ws : List Str}
theorem o3_ {i : Nat} {w : Str} (hw : ws[i]? = some w) : pV_ (fL z ws (.own (.dat (.int (i : Nat)))) (.own (.dat (vN w))) .no .no []) = some (gW_ ws i) := by
 let E := fL z ws (.own (.dat (.int (i : Nat)))) (.own (.dat (vN w))) .no .no []
 have hb : hK_ ws i = !okW i w := by unfold hK_; rw [hw]
 unfold gW_ pV_
 rw [hb]
 have a : aj_ (dOp fGt (ab_ 2) (dC (.int 13))) E = some (decide (13 < i)) := by
  refine (as_ (b := decide ((13 : Int) < ((i : Nat) : Int))) (ay_ (a := .int (i : Nat)) (b := .int 13) rfl rfl rfl)).trans ?_
  congr 1
  rw [Bool.eq_iff_iff, decide_eq_true_eq, decide_eq_true_eq]; omega
 by_cases h13 : 13 < i
 ·rw [decide_eq_true h13] at a ⊢
  exact jo_ a
 ·rw [decide_eq_false h13] at a ⊢
  rw [Bool.false_or]
  refine (jn_ a).trans ?_
  have f : aj_ (dOp fGt (ab_ 2) (dC (.int 1))) E = some (decide (1 < i)) := by
   refine (as_ (b := decide ((1 : Int) < ((i : Nat) : Int))) (ay_ (a := .int (i : Nat)) (b := .int 1) rfl rfl rfl)).trans ?_
   congr 1
   rw [Bool.eq_iff_iff, decide_eq_true_eq, decide_eq_true_eq]; omega
  have c : aj_ (dOp dD_ (ab_ 2) (dC (.int 1))) E = some (decide (i ≠ 1)) := by
   refine (as_ (b := !decide (((i : Nat) : Int) = (1 : Int))) (ay_ (a := .int (i : Nat)) (b := .int 1) rfl rfl rfl)).trans ?_
   congr 1
   rw [Bool.eq_iff_iff]; simp; omega
  cases hn : num w with
  | none =>
   have b : aj_ (dOp fS_ (ab_ 3) (dC .none)) E = some true := by
    refine as_ (ay_ (a := vN w) (b := .none) rfl rfl ?_)
    unfold vN; rw [hn]; rfl
   by_cases h1 : i = 1
   ·have d : aj_ (dOp dD_ (aC_ (ab_ 1) (dC (.int 1))) (dC (.str "-"))) E = some (decide (w ≠ cn_)) := by
     have ix := kG_ (E := E) (ws := ws) (w := w) (i := 1) (di := dC (.int 1)) rfl rfl (by rw [<- h1]; exact hw)
     refine (as_ (b := !decide (w = cn_)) (ay_ (a := .str w) (b := .str "-") ix rfl rfl)).trans ?_
     congr 1
     simp
    have hd : hH_ (aj_ (dOp fS_ (ab_ 3) (dC .none))) (dOr (aj_ (dOp dD_ (ab_ 2) (dC (.int 1)))) (aj_ (dOp dD_ (aC_ (ab_ 1) (dC (.int 1))) (dC (.str "-"))))) E = some (decide (w ≠ cn_)) := by
     rw [hD_ b, jn_ (by rw [c]; simp [h1]), d]
    by_cases hw2 : w = cn_
    ·have : okW i w = true := by unfold okW; rw [if_pos hw2]; exact decide_eq_true h1
     rw [this]
     refine (jn_ (by rw [hd]; simp [hw2])).trans ?_
     rw [hC_ (by rw [f]; simp [h1])]; rfl
    ·have : okW i w = false := by unfold okW; rw [if_neg hw2, hn]
     rw [this]
     exact jo_ (by rw [hd]; simp [hw2])
   ·have : okW i w = false := by
     unfold okW
     by_cases hw2 : w = cn_
     ·rw [if_pos hw2]; exact decide_eq_false h1
     ·rw [if_neg hw2, hn]
    rw [this]
    refine jo_ ?_
    rw [hD_ b, jo_ (by rw [c]; simp [h1])]
  | some n =>
   have hw2 : w ≠ cn_ := fun e => by rw [e, iR_] at hn; cases hn
   have b : aj_ (dOp fS_ (ab_ 3) (dC .none)) E = some false := by
    refine as_ (ay_ (a := vN w) (b := .none) rfl rfl ?_)
    unfold vN; rw [hn]; rfl
   have g : aj_ (dOp fGt (ab_ 3) (dC (.int 19))) E = some (decide (19 < n)) := by
    refine (as_ (b := decide ((19 : Int) < ((n : Nat) : Int))) (ay_ (a := vN w) (b := .int 19) rfl rfl ?_)).trans ?_
    ·unfold vN; rw [hn]; rfl
    ·congr 1
     rw [Bool.eq_iff_iff, decide_eq_true_eq, decide_eq_true_eq]; omega
   refine (jn_ (hC_ b)).trans ?_
   have hok : okW i w = (decide (i < 2) || decide (n <= 19)) := by unfold okW; rw [if_neg hw2, hn]
   rw [hok]
   by_cases h1 : 1 < i
   ·rw [hD_ (by rw [f, decide_eq_true h1]), g]
    congr 1
    rw [decide_eq_false (by omega : ¬ i < 2), Bool.false_or, Bool.eq_iff_iff]; simp
   ·rw [hC_ (by rw [f, decide_eq_false h1]), decide_eq_true (by omega : i < 2)]; rfl
theorem qn_ {i : Nat} {w : Str} (hw : ws[i]? = some w) (tw : Tx w) {v3 : Sl} (q3 : Qd v3) : (gW_ ws i = true -> kJ_ (fL z ws (.own (.dat (.int (i : Nat)))) v3 .no .no []) = some (.rt (.dat (bt i)) (fL z ws (.own (.dat (.int (i : Nat)))) (.own (.dat (vN w))) .no .no []))) ∧
  (gW_ ws i = false -> kJ_ (fL z ws (.own (.dat (.int (i : Nat)))) v3 .no .no []) = some (.nx (fL z ws (.own (.dat (.int (i : Nat)))) (.own (.dat (vN w))) .no .no []))) := by
 let E1 := fL z ws (.own (.dat (.int (i : Nat)))) v3 .no .no []
 let E2 := fL z ws (.own (.dat (.int (i : Nat)))) (.own (.dat (vN w))) .no .no []
 have c1 : ag_ K20.g__law_number (aa_ (aC_ (ab_ 1) (ab_ 2)) ai_) E1 = some (.dat (vN w), E1) :=
  eCall_go (rs := [.val (.dat (.str w))]) (am_ (kG_ rfl rfl hw) rfl) rfl rfl (gK_ tw.asc (by have := tw.len; omega))
 have s1 : cd_ 3 (ag_ K20.g__law_number (aa_ (aC_ (ab_ 1) (ab_ 2)) ai_)) E1 = some (.nx E2) := by
  unfold cd_
  rw [c1]
  rcases q3 with rfl | ⟨d, rfl⟩ <;> rfl
 have tt : ao_ pV_ E2 = some (gW_ ws i, E2) := pureT_go (o3_ hw)
 refine ⟨fun hb => ?_, fun hb => ?_⟩
 ·rw [hb] at tt
  exact ad_ s1 (cu_ tt (aQ_ (show ae_ _ E2 = some (.dat (bt i), E2) from rfl)))
 ·rw [hb] at tt
  exact ad_ s1 (bF_ tt rfl)
theorem lL_ (hws : ∀ w ∈ ws, Tx w) (hl : ws.length < 100000) :
  (aK_ (gW_ ws) ws.length 0 = none -> ∃ v2 v3, d8_ (by_ (bp_ (ab_ 1))) (au_ 2) kJ_ (fL z ws .no .no .no .no []) = some (.nx (fL z ws v2 v3 .no .no [])) /\ Qd v2 /\ Qd v3) ∧
  ∀ p, aK_ (gW_ ws) ws.length 0 = some p -> ∃ v2 v3, d8_ (by_ (bp_ (ab_ 1))) (au_ 2) kJ_ (fL z ws .no .no .no .no []) = some (.rt (.dat (bt p)) (fL z ws v2 v3 .no .no [])) := by
 have hsrc := cg_ (E := fL z ws .no .no .no .no []) (d := bp_ (ab_ 1)) (j := (ws.length : Nat)) (f5_ rfl) (by omega) (by omega)
 rw [Int.toNat_natCast] at hsrc
 have L := eD_ (rd := fun _ i => some (if i < ws.length then some (.val (.dat (.int (i : Nat)))) else none)) (bd := au_ 2) (db := kJ_)
  (fun i E => ∃ v2 v3, E = fL z ws v2 v3 .no .no [] /\ Qd v2 /\ Qd v3) (fun i o => ∃ v2 v3, o = .rt (.dat (bt i)) (fL z ws v2 v3 .no .no [])) (gW_ ws) ws.length
  (fun i E hi hJ => by
   obtain ⟨v2, v3, rfl, q, q3⟩ := hJ
   have hw : ws[i]? = some ws[i] := List.getElem?_eq_getElem hi
   generalize ws[i] = w at hw
   have tw := hws w (List.mem_of_getElem? hw)
   obtain ⟨T1, T2⟩ := qn_ (z := z) hw tw q3
   refine ⟨_, fL z ws (.own (.dat (.int (i : Nat)))) v3 .no .no [], iC_ (E := []) hi, ?_, fun hb => ?_, fun hb => ?_⟩
   ·show some (ak_ _ 2 _) = _
    rcases q with rfl | ⟨d, rfl⟩ <;> rcases q3 with rfl | ⟨d, rfl⟩ <;> rfl
   ·exact ⟨_, T1 hb, ⟨_, _, rfl⟩, .inl ⟨_, _, rfl⟩⟩
   ·exact ⟨_, T2 hb, _, _, rfl, .inr ⟨_, rfl⟩, .inr ⟨_, rfl⟩⟩)
  (fun E _ => gq_ (E := [])) ws.length 0 ws.length (fL z ws .no .no .no .no []) (by omega) (Nat.le_refl _) ⟨.no, .no, rfl, .inl rfl, .inl rfl⟩
 refine ⟨fun h => ?_, fun p h => ?_⟩
 ·obtain ⟨E', hE, v2, v3, rfl, q, q3⟩ := L.1 h
  exact ⟨v2, v3, cE_ hsrc (by rw [List.append_nil]; exact hE), q, q3⟩
 ·obtain ⟨o, ho, ⟨v2, v3, rfl⟩, _⟩ := L.2 p h
  exact ⟨v2, v3, km_ hsrc (by rw [List.append_nil]; exact ho)⟩
theorem o4_ : rdB ws = match aK_ (gW_ ws) ws.length 0 with | some p => some p | none => if ws.length < 14 then some ws.length else none := by
 unfold rdB
 have out : ∀ p, ws.length <= p -> hK_ ws p = true := fun p h => by unfold hK_; rw [List.getElem?_eq_none_iff.mpr h]
 have bl : ∀ p, p <= 13 -> gW_ ws p = hK_ ws p := fun p h => by unfold gW_; rw [decide_eq_false (by omega)]; rfl
 have bh : ∀ p, 13 < p -> gW_ ws p = true := fun p h => by unfold gW_; rw [decide_eq_true h]; rfl
 cases h1 : aK_ (hK_ ws) 14 0 with
 | some p =>
  obtain ⟨⟨_, a⟩, b, c⟩ := fb_some.mp h1
  by_cases hp : p < ws.length
  ·rw [(fb_some (b := gW_ ws) (m := ws.length) (i := 0) (p := p)).mpr ⟨⟨Nat.zero_le _, by omega⟩, by rw [bl p (by omega)]; exact b, fun q h1 h2 => by rw [bl q (by omega)]; exact c q h1 h2⟩]
  ·have : p = ws.length := by
    by_cases e : p = ws.length
    ·exact e
    ·have := c ws.length (Nat.zero_le _) (by omega)
     rw [out _ (Nat.le_refl _)] at this; cases this
   rw [(fb_none (b := gW_ ws) (m := ws.length) (i := 0)).mpr fun q h1 h2 => by rw [bl q (by omega)]; exact c q h1 (by omega)]
   simp only
   rw [if_pos (by omega), this]
 | none =>
  have c := fb_none.mp h1
  have h14 : 14 <= ws.length := by
   by_cases e : 14 <= ws.length
   ·exact e
   ·have := c ws.length (Nat.zero_le _) (by omega)
    rw [out _ (Nat.le_refl _)] at this; cases this
  by_cases h : 14 < ws.length
  ·rw [(fb_some (b := gW_ ws) (m := ws.length) (i := 0) (p := 14)).mpr ⟨⟨Nat.zero_le 14, by omega⟩, bh 14 (by decide), fun q h1 h2 => by rw [bl q (by omega)]; exact c q h1 (by omega)⟩]
   simp only
   rw [if_pos h]
  ·rw [(fb_none (b := gW_ ws) (m := ws.length) (i := 0)).mpr fun q h1 h2 => by rw [bl q (by omega)]; exact c q h1 (by omega)]
   simp only
   rw [if_neg h, if_neg (by omega)]
end
end D20
set_option maxHeartbeats 4000000
namespace K19c
open PySem PySem.Spec PyProof.Rows L2 Mv NX CLX
end K19c
namespace K19
open PySem PySem.Spec PyProof.Rows L2 Mv NX
end K19
namespace K19c
open PySem PySem.Spec PyProof.Rows L2 Mv NX CLX K19
end K19c
set_option maxHeartbeats 1000000
namespace DT
open PySem PySem.Spec PyProof.Rows L2 Mv TL
open Gn hiding g__law_take g__law_begun d__law_take d__law_begun
def Wd.r : Wd -> PyData | .num n => .int (n : Int) | .dash => .str DT.dash
def eWr (e : Ed) (v4 v5 : Sl) (G : En) : En := [.own (.dat e.d), .own (.dat (.int e.num)), .own (.dat (DQ.oI e.make)), .own (.dat (DQ.tD e.own)), v4, v5, .own (.dat e.d)] ++ G
theorem iT_ : ∀ (ws : List Wd), gr_ (ws.map fun w => S.dat (.str w.s)) = some (ws.map Wd.s)
 | [] => rfl
 | w :: ws => by
  show (gr_ (ws.map fun w => S.dat (.str w.s))).map (w.s :: ·) = _
  rw [iT_ ws]; rfl
theorem kK_ {k : Nat} : ∀ (ls : List Nat), (∀ l ∈ ls, l <= k) -> ls.sum <= ls.length * k
 | [], _ => Nat.zero_le _
 | l :: ls, h => by
  have := kK_ ls fun x m => h x (List.mem_cons_of_mem _ m)
  have := h l List.mem_cons_self
  simp only [List.sum_cons, List.length_cons, Nat.succ_mul]
  omega
theorem kL_ {e : Ed} (ok : EdOk e) : K19.g_written [.dat e.d] = some (.dat (.str (txt e)), [.dat e.d]) := by
 have n1 := ok.num
 let E0 : En := entry 6 [.dat e.d]
 let E1 : En := eWr e .no .no []
 have s1 : cr_ (ag_ K19.g_check_edition (aa_ (ab_ 0) ai_)) E0 = some (.nx E0) := gp_ (eCall_go (rs := [.val (.dat e.d)]) rfl rfl rfl (lH_ ok))
 have s2 : hU_ (fJ_ 3 (aX_ (au_ 1) (aX_ (au_ 2) (aX_ (au_ 3) e6_)))) (ae_ (ab_ 0)) E0 = some (.nx E1) := rfl
 have hr : .int e.num :: (match e.make with | none => PyData.str "-" | some k => .int k) :: e.own.map PyData.int = (edW e).map Wd.r := by
  show _ = PyData.int ((e.num.toNat : Nat) : Int) :: (mkW e.make).r :: (e.own.map fun o => Wd.num o.toNat).map Wd.r
  rw [Int.toNat_of_nonneg (by omega)]
  congr 2
  ·cases hm : e.make with
   | none => rfl
   | some k =>
    have := ok.make k hm
    show PyData.int k = .int ((k.toNat : Nat) : Int)
    rw [Int.toNat_of_nonneg this.1]
  ·rw [List.map_map]
   refine List.map_congr_left fun o ho => ?_
   have := ok.ok o ho
   show PyData.int o = .int ((o.toNat : Nat) : Int)
   rw [Int.toNat_of_nonneg this.1]
 let E2 : En := eWr e (.own (dL Wd.r (edW e))) .no []
 have s3 : ap_ 4 (ba_ (aa_ (ab_ 1) (aa_ (dM_ (aj_ (dOp fS_ (ab_ 2) (dC .none))) (dC (.str "-")) (ab_ 2)) (di_ (ab_ 3) ai_)))) E1 = some (.nx E2) := by
  have a1 : dM_ (aj_ (dOp fS_ (ab_ 2) (dC .none))) (dC (.str "-")) (ab_ 2) E1 = some (.val (.dat (match e.make with | none => PyData.str "-" | some k => .int k))) := by
   show dM_ _ _ _ (eWr e .no .no []) = _
   unfold eWr
   cases e.make <;> rfl
  have a2 : di_ (ab_ 3) ai_ E1 = some ((e.own.map PyData.int).map fun d => Rs.val (.dat d)) := by
   show some ((e.own.map PyData.int).map (fun d => Rs.val (.dat d)) ++ []) = _
   rw [List.append_nil]
  have a3 : aa_ (ab_ 1) (aa_ (dM_ (aj_ (dOp fS_ (ab_ 2) (dC .none))) (dC (.str "-")) (ab_ 2)) (di_ (ab_ 3) ai_)) E1 = some (((edW e).map Wd.r).map fun d => Rs.val (.dat d)) := by
   rw [<- hr]
   exact am_ rfl (am_ a1 a2)
  unfold ap_ ba_
  rw [a3]
  have ll : (((edW e).map Wd.r).map fun d => Rs.val (.dat d)).length < 1000 := by rw [List.length_map, List.length_map, eA_ ok]; decide
  have ls : ∀ ds : List PyData, lstS (ds.map fun d => Rs.val (.dat d)) = some (ds.map S.dat) := by
   intro ds
   induction ds with
   | nil => rfl
   | cons d ds ih =>
    show (lstS (ds.map fun d => Rs.val (.dat d))).map (S.dat d :: ·) = _
    rw [ih]; rfl
  simp only [if_pos ll, ls, Option.map_some]
  have : S.lst (((edW e).map Wd.r).map S.dat) = dL Wd.r (edW e) := by simp [dL]
  rw [this]
  rfl
 have s4 : eLc (c5_ (ab_ 4)) 5 cs_ (ae_ (dCB hZ_ (aa_ (ab_ 5) ai_))) E2 = some (.lst ((edW e).map fun w => S.dat (.str w.s)), E2) := by
  have hl : (edW e).length < 100000 := by rw [eA_ ok]; decide
  have := lcP (xs := edW e) (f := Wd.r) (p := fun _ => true) (g := fun w => S.dat (.str w.s)) (q := [4]) (j := 5) (src := c5_ (ab_ 4)) (dt := cs_) (de := ae_ (dCB hZ_ (aa_ (ab_ 5) ai_))) (E := E2) (E0 := E2 ++ [.bor [4]]) hl (by
    show some (Src.mk E2 [.bor [4]] rdP ((edW e).map fun d => S.dat d.r).length) = _
    rw [List.length_map]) rfl rfl rfl (fun w hw => by
     refine ⟨eWr e (.own (dL Wd.r (edW e))) (.own (.dat w.r)) [.bor [4]], rfl, rfl, fun _ => ?_, rfl⟩
     refine pure_go ?_
     cases w with
     | dash => rfl
     | num n =>
      obtain ⟨p, hp⟩ := List.mem_iff_getElem?.mp hw
      have h7 := (mA_ ok hp).1
      show ((if ((n : Nat) : Int).natAbs.log2 < 1920 then some (PyData.str (toString ((n : Nat) : Int))) else none).map fun c => Rs.val (.dat c)) = _
      rw [if_pos (by
       rw [Int.natAbs_natCast]
       rcases Nat.eq_zero_or_pos n with rfl | hn
       ·decide
       ·exact (Nat.log2_lt (by omega)).mpr (Nat.lt_of_lt_of_le h7 (Nat.le_trans (by decide : (10 : Nat) ^ 7 <= 2 ^ 24) (Nat.pow_le_pow_right (by decide) (by decide)))))]
      rfl)
  rw [this, List.filter_eq_self.mpr (fun _ _ => rfl)]
  rfl
 have s5 : cv_ (dC (.str " ")) (eLc (c5_ (ab_ 4)) 5 cs_ (ae_ (dCB hZ_ (aa_ (ab_ 5) ai_)))) E2 = some (.dat (.str (txt e)), E2) := by
  have d0 : dC (.str " ") E2 = some (.val (.dat (.str (Str.ofString " ")))) := rfl
  unfold cv_
  simp only [d0, s4, iT_]
  rw [if_pos]
  ·rfl
  ·have h1 := kK_ (k := 7) (((edW e).map Wd.s).map (·.length)) (fun l hl => by
    obtain ⟨x, hx, rfl⟩ := List.mem_map.mp hl
    obtain ⟨w, hw, rfl⟩ := List.mem_map.mp hx
    exact kA_ ok hw)
   rw [List.length_map, List.length_map, eA_ ok] at h1
   rw [List.length_map, eA_ ok]
   have : (Str.ofString " ").length = 1 := by decide +kernel
   show _ + 14 * (Str.ofString " ").length <= _
   rw [this]
   omega
 exact aU_ (E := E2) (ad_ s1 (ad_ s2 (ad_ s3 (aQ_ s5)))) rfl
open Gn hiding g__law_take g__law_begun d__law_take d__law_begun
theorem nH_ {e : Ed} (ok : EdOk e) : (txt e).length <= 200 := by
 show (Txt.join (Str.ofString " ") ((edW e).map Wd.s)).length <= _
 rw [join_eq]
 have h0 := StrLaws.join_length_le (Str.ofString " ") ((edW e).map Wd.s)
 have h1 := kK_ (k := 7) (((edW e).map Wd.s).map (·.length)) (fun l hl => by
  obtain ⟨x, hx, rfl⟩ := List.mem_map.mp hl
  obtain ⟨w, hw, rfl⟩ := List.mem_map.mp hx
  exact kA_ ok hw)
 rw [List.length_map, List.length_map, eA_ ok] at h1
 rw [List.length_map, eA_ ok] at h0
 have : (Str.ofString " ").length = 1 := by decide +kernel
 rw [this] at h0
 omega
end DT
set_option maxHeartbeats 4000000
namespace DQ17
open PySem PySem.Spec PyProof.Rows L2 Mv Gn
end DQ17
set_option maxHeartbeats 400000
namespace DQ17
open PySem PySem.Spec PyProof.Rows L2 Mv Gn
variable {E E1 : En} {da db : En -> Option Rs}
theorem ixD {α : Type} {f : α -> PyData} {l : List α} {p : Nat} {x : α} (h1 : da E = some (.val (.dat (.list (l.map f))))) (h3 : db E = some (.val (.dat (.int (p : Nat))))) (hx : l[p]? = some x) : aC_ da db E = some (.val (.dat (f x))) := by
 have hp := (List.getElem?_eq_some_iff.mp hx).1
 unfold aC_
 rw [h1, h3]
 simp only [Rs.at, List.length_map, fU_ hp, List.getElem?_map, hx, Option.map_some]
variable {rows : List (List De)} {t t' : Ty} {bg : List Nat} {W : List (Nat × De)} {k k0 : Nat} {e e0 : De}
variable {mk : Int}
end DQ17
namespace DQ17
open PySem PySem.Spec PyProof.Rows L2 Mv Gn NX
end DQ17
set_option maxHeartbeats 4000000
namespace Gn
open PySem PySem.Spec PyProof.Rows L2 Mv
end Gn
set_option maxHeartbeats 1000000
namespace DQ17
open PySem PySem.Spec PyProof.Rows L2 Mv Gn NX
section
variable {E E1 E2 E' : En} {da db d1 d2 : En -> Option Rs}
theorem o5_ {ds : List PyData} {k : Int} {x : PyData} (h1 : da E = some (.val (.dat (.tuple ds)))) (h2 : db E = some (.val (.dat (.int k)))) (h0 : 0 <= k) (hx : ds[k.toNat]? = some x) : oj_ da db E = some (.val (.dat x)) := by
 unfold oj_
 rw [h1, h2]
 have hk := (List.getElem?_eq_some_iff.mp hx).1
 have e1 : ixN ds.length k = some k.toNat := by
  unfold ixN
  rw [if_pos h0, if_pos (by omega)]
 simp only [Rs.at, e1, hx, Option.map_some]
end
variable {rows : List (List De)} {t : Ty} {bg : List Nat} {k : Nat} {e : De} {A : List (Nat × De)}
def I (n : Int) : Sl := .own (.dat (.int n))
variable {a : Addr}
variable {z : List NK}
variable {v5 v6 : Sl}
theorem kM_ {da : En -> Option Rs} {dr : En -> Option (List Rs)} {E : En} {r : Rs} {rs : List Rs} (h1 : da E = some r) (h2 : dr E = some rs) : aa_ da dr E = some (r :: rs) := by
 unfold aa_
 rw [h1, h2]
def EA (x : Sl) (s : S) (d : PyData) (v2 : Sl) : En := [x, .own (.dat d), v2, .own s, .own (.dat d)]
theorem o6_ {da db : En -> Option Rs} {E : En} {r : Rs} (h : aC_ da db E = some r) : eL_ da db E = some r := by unfold eL_; rw [h]
theorem o7_ {da db : En -> Option Rs} {E : En} {r : Rs} (h : aC_ da db E = none) (h2 : oj_ da db E = some r) : eL_ da db E = some r := by unfold eL_; rw [h]; exact h2
abbrev alB (g : List S -> Option (S × List S)) : En -> Option Out := dIf (dG_ (bb_ (ag_ g (aa_ (eL_ (ab_ 0) (ab_ 2)) (aa_ (eL_ (ab_ 1) (ab_ 2)) ai_))))) (aY_ (ae_ (dC (.bool false)))) aH_
def al2 : Nat -> Sl
 | 0 => .no
 | i + 1 => I i
theorem kN_ {g : List S -> Option (S × List S)} {x : Sl} {s : S} {D d : PyData} {i : Nat} (h0 : eL_ (ab_ 0) (ab_ 2) (EA x s D (I i)) = some (.val (.dat d))) (h1 : eL_ (ab_ 1) (ab_ 2) (EA x s D (I i)) = some (.val (.dat d)))
  (hx : x = .bor [3] ∨ ∃ a, x = .own a) (hg : g [.dat d, .dat d] = some (.dat (.bool true), [.dat d, .dat d])) : alB g (EA x s D (I i)) = some (.nx (EA x s D (I i))) := by
 have c : ag_ g (aa_ (eL_ (ab_ 0) (ab_ 2)) (aa_ (eL_ (ab_ 1) (ab_ 2)) ai_)) (EA x s D (I i)) = some (.dat (.bool true), EA x s D (I i)) := by
  have c := eCall_go (E := EA x s D (I i)) (dr := aa_ (eL_ (ab_ 0) (ab_ 2)) (aa_ (eL_ (ab_ 1) (ab_ 2)) ai_)) (rs := [.val (.dat d), .val (.dat d)]) (kM_ h0 (kM_ h1 rfl)) rfl rfl hg
  refine c.trans ?_
  rcases hx with rfl | ⟨_, rfl⟩ <;> rfl
 have c2 : dG_ (bb_ (ag_ g (aa_ (eL_ (ab_ 0) (ab_ 2)) (aa_ (eL_ (ab_ 1) (ab_ 2)) ai_)))) (EA x s D (I i)) = some (false, EA x s D (I i)) := by
  unfold dG_
  rw [bQ_ c]
  rfl
 exact bF_ c2 rfl
theorem nI_ {g : List S -> Option (S × List S)} {x : Sl} {s : S} {D : PyData} {ds : List PyData} (hl : ds.length < 900) (hx : x = .bor [3] ∨ ∃ a, x = .own a)
  (hlen : bp_ (ab_ 1) (EA x s D .no) = some (.val (.dat (.int (ds.length : Nat)))))
  (h : ∀ (i : Nat) (d : PyData), ds[i]? = some d -> eL_ (ab_ 0) (ab_ 2) (EA x s D (I i)) = some (.val (.dat d)) /\ eL_ (ab_ 1) (ab_ 2) (EA x s D (I i)) = some (.val (.dat d)) /\ g [.dat d, .dat d] = some (.dat (.bool true), [.dat d, .dat d])) :
  d8_ (by_ (bp_ (ab_ 1))) (au_ 2) (alB g) (EA x s D .no) = some (.nx (EA x s D (al2 ds.length))) := by
 have src : by_ (bp_ (ab_ 1)) (EA x s D .no) = some ⟨EA x s D .no, [], fun _ i => some (if i < ((ds.length : Nat) : Int).toNat then some (.val (.dat (.int (i : Nat)))) else none), ((ds.length : Nat) : Int).toNat⟩ := cg_ hlen (by omega) (by omega)
 have lp := j4_ (rd := fun _ i => some (if i < ((ds.length : Nat) : Int).toNat then some (.val (.dat (.int (i : Nat)))) else none)) (bd := au_ 2) (db := alB g) (fun i => EA x s D (al2 i)) ds.length (fun i hi => by
  obtain ⟨q1, q2, q3⟩ := h i _ (List.getElem?_eq_getElem hi)
  refine ⟨.val (.dat (.int (i : Nat))), EA x s D (I i), ?_, ?_, kN_ q1 q2 hx q3⟩
  ·rw [Int.toNat_natCast, if_pos hi]
  ·cases i <;> rcases hx with rfl | ⟨_, rfl⟩ <;> rfl) (by rw [Int.toNat_natCast, if_neg (Nat.lt_irrefl _)]) ds.length 0 ds.length (by omega) (Nat.le_refl _)
 have := cE_ (bd := au_ 2) (db := alB g) (E1 := EA x s D (al2 ds.length)) src (by
  rw [Int.toNat_natCast] at lp ⊢
  exact lp)
 exact this
theorem gO_ (n : Nat) : dD_ (.int (n : Nat)) (.int (n : Nat)) = some (.bool false) := by
 show some (PyData.bool (!decide (((n : Nat) : Int) = ((n : Nat) : Int)))) = _
 rw [decide_eq_true rfl]
 rfl
theorem al_tup {j : Nat} {ds : List PyData} (hl : ds.length < 900) (hs : ∀ (i : Nat) (d : PyData), ds[i]? = some d -> K17.g__law_alike j [.dat d, .dat d] = some (.dat (.bool true), [.dat d, .dat d])) :
  K17.g__law_alike (j + 1) [.dat (.tuple ds), .dat (.tuple ds)] = some (.dat (.bool true), [.dat (.tuple ds), .dat (.tuple ds)]) := by
 let D : PyData := .tuple ds
 let E0 : En := EA (.own (.dat D)) (.dat D) D .no
 have hlen : ∀ i, (i = 0 ∨ i = 1) -> bp_ (ab_ i) E0 = some (.val (.dat (.int (ds.length : Nat)))) := fun i hi => by rcases hi with rfl | rfl <;> rfl
 have ix : ∀ i k d, (i = 0 ∨ i = 1) -> ds[k]? = some d -> eL_ (ab_ i) (ab_ 2) (EA (.own (.dat D)) (.dat D) D (I (k : Nat))) = some (.val (.dat d)) := fun i k d hi hk => by
  rcases hi with rfl | rfl <;> exact o7_ rfl (o5_ (ds := ds) rfl rfl (by omega) (by simpa using hk))
 have lp := nI_ (g := K17.g__law_alike j) (x := .own (.dat D)) (s := .dat D) (D := D) hl (.inr ⟨_, rfl⟩) (hlen 1 (.inr rfl)) (fun i d hd => ⟨ix 0 i d (.inl rfl) hd, ix 1 i d (.inr rfl) hd, hs i d hd⟩)
 have c6 : dIf (ao_ (aj_ (dOp dD_ (bp_ (ab_ 0)) (bp_ (ab_ 1))))) (aY_ (ae_ (dC (.bool false)))) aH_ E0 = some (.nx E0) :=
  bF_ (E1 := E0) (pureT_go (as_ (ay_ (hlen 0 (.inl rfl)) (hlen 1 (.inr rfl)) (gO_ _)))) rfl
 exact aU_ (E := EA (.own (.dat D)) (.dat D) D (al2 ds.length)) (ad_ (E1 := E0) rfl (ad_ (E1 := E0) rfl (ad_ (E1 := E0) rfl (ad_ (E1 := E0) rfl (ad_ (E1 := E0) rfl (ad_ c6 (ad_ lp rfl))))))) rfl
theorem al_int {j : Nat} (i : Int) : K17.g__law_alike (j + 1) [.dat (.int i), .dat (.int i)] = some (.dat (.bool true), [.dat (.int i), .dat (.int i)]) := by
 let E0 : En := EA (.own (.dat (.int i))) (.dat (.int i)) (.int i) .no
 have eq : e5_ (.int i) (.int i) = some (.bool true) := by
  show some (PyData.bool (i == i)) = _
  rw [beq_self_eq_true]
 have c3 : dIf (ao_ (aj_ (cp_ .int (ab_ 1)))) (aY_ (ae_ (b4_ (cp_ .int (ab_ 0)) (b4_ (fe_ (cp_ .bool (ab_ 0))) (dOp e5_ (ab_ 0) (ab_ 1)))))) aH_ E0 = some (.rt (.dat (.bool true)) E0) := by
  refine cu_ (E1 := E0) rfl (aQ_ (pure_go (mC_ rfl (mC_ rfl ?_))))
  exact ay_ rfl rfl eq
 exact aU_ (E := E0) (ad_ (E1 := E0) rfl (ad_ (E1 := E0) rfl (bu_ c3))) rfl
theorem al_none {j : Nat} : K17.g__law_alike (j + 1) [.dat .none, .dat .none] = some (.dat (.bool true), [.dat .none, .dat .none]) := rfl
end DQ17
namespace DT
open PySem PySem.Spec PyProof.Rows L2 Mv TL K19c
open Gn hiding g__law_take g__law_begun d__law_take d__law_begun
theorem kO_ {j : Nat} {a : Str} (ok : PyData.strOk a = true) : K17.g__law_alike (j + 1) [.dat (.str a), .dat (.str a)] = some (.dat (.bool true), [.dat (.str a), .dat (.str a)]) := by
 let E0 : En := DQ17.EA (.own (.dat (.str a))) (.dat (.str a)) (.str a) .no
 have eq : e5_ (.str a) (.str a) = some (.bool true) := by
  have sh : SeqAt.shaped (.str a) = true := by simp [SeqAt.shaped, PyData.canLay0, PyData.depth, ok]
  unfold e5_
  rw [if_pos ⟨sh, sh⟩, SeqAt.eqv_refl _ (by simp [PyData.canLay0, ok])]
 have c4 : dIf (ao_ (aj_ (cp_ .str (ab_ 1)))) (aY_ (ae_ (b4_ (cp_ .str (ab_ 0)) (dOp e5_ (ab_ 0) (ab_ 1))))) aH_ E0 = some (.rt (.dat (.bool true)) E0) := by
  refine cu_ (E1 := E0) rfl (aQ_ (pure_go ?_))
  have e1 : dOp e5_ (ab_ 0) (ab_ 1) E0 = some (.val (.dat (.bool true))) := bs_ rfl rfl rfl rfl eq
  unfold b4_
  rw [show cp_ .str (ab_ 0) E0 = some (.val (.dat (.bool true))) from rfl]
  exact e1
 exact aU_ (E := E0) (ad_ (E1 := E0) rfl (ad_ (E1 := E0) rfl (ad_ (E1 := E0) rfl (bu_ c4)))) rfl
end DT
namespace D20
open PySem PySem.Spec PyProof.Rows L2 Mv TL DT
open PySem.NumText (AllDigits digitsVal)
open DQ17 (as_ ay_)
open DQ (c3_ c2_)
open Gn hiding g__law_take g__law_begun d__law_take d__law_begun
section
variable {z : Str} {ws : List Str}
def LC5 : En -> Option (S × En) := eLc (c5_ (ab_ 1)) 5 cs_ (ag_ K20.g__law_number (aa_ (ab_ 5) ai_))
theorem lc5 (hl : ws.length < 100000) (hw : ∀ w ∈ ws, Tx w) {v2 v3 : Sl} (q : Qd v2) (q3 : Qd v3) : LC5 (fL z ws v2 v3 .no .no []) = some (dL vN ws, fL z ws v2 v3 .no .no []) := by
 have := lcP (xs := ws) (f := PyData.str) (p := fun _ => true) (g := fun w => S.dat (vN w)) (q := [1]) (j := 5) (src := c5_ (ab_ 1)) (dt := cs_) (de := ag_ K20.g__law_number (aa_ (ab_ 5) ai_)) (E := fL z ws v2 v3 .no .no []) (E0 := fL z ws v2 v3 .no .no [] ++ [.bor [1]]) hl (by
    show some (Src.mk _ [.bor [1]] rdP (ws.map fun d => S.dat (.str d)).length) = _
    rw [List.length_map]) (by rcases q with rfl | ⟨d, rfl⟩ <;> rcases q3 with rfl | ⟨d, rfl⟩ <;> rfl) (by rcases q with rfl | ⟨d, rfl⟩ <;> rcases q3 with rfl | ⟨d, rfl⟩ <;> rfl) (by rcases q with rfl | ⟨d, rfl⟩ <;> rcases q3 with rfl | ⟨d, rfl⟩ <;> exact S.get_nil _) (fun w mw => by
     refine ⟨fL z ws v2 v3 .no (.own (.dat (.str w))) [.bor [1]], by rcases q with rfl | ⟨d, rfl⟩ <;> rcases q3 with rfl | ⟨d, rfl⟩ <;> rfl, rfl, fun _ => ?_, by rcases q with rfl | ⟨d, rfl⟩ <;> rcases q3 with rfl | ⟨d, rfl⟩ <;> rfl⟩
     have tw := hw w mw
     exact eCall_go (rs := [.val (.dat (.str w))]) rfl rfl rfl (gK_ tw.asc (by have := tw.len; omega)))
 unfold LC5
 rw [this, List.filter_eq_self.mpr (fun _ _ => rfl)]
 rcases q with rfl | ⟨d, rfl⟩ <;> rcases q3 with rfl | ⟨d, rfl⟩ <;> rfl
theorem ix4 {v2 v3 v5 : Sl} {k : Nat} {d : PyData} (h : (ws.map vN)[k]? = some d) {dk : En -> Option Rs} (hk : dk (fL z ws v2 v3 (.own (dL vN ws)) v5 []) = some (.val (.dat (.int (k : Nat))))) : aC_ (ab_ 4) dk (fL z ws v2 v3 (.own (dL vN ws)) v5 []) = some (.val (.dat d)) := by
 rw [List.getElem?_map] at h
 obtain ⟨w, hw, rfl⟩ := Option.map_eq_some_iff.mp h
 exact eP_ (f := vN) (xs := ws) (k := k) (r := .pl [4]) rfl (show S.get _ [] = _ from S.get_nil _) hk hw
def qo_ : En -> Option Bool := dOr (hO_ (aj_ (cw_ fLe fLe (dC (.int 1)) (aC_ (ab_ 4) (dC (.int 0))) (dOp fZ_ (dC (.int 10)) (dC (.int 6)))))) (hH_ (aj_ (dOp fI_ (aC_ (ab_ 4) (dC (.int 1))) (dC .none))) (aj_ (dOp fGt (aC_ (ab_ 4) (dC (.int 1))) (dOp fZ_ (dC (.int 10)) (dC (.int 6))))))
theorem nJ_ {v2 v3 v5 : Sl} {e : Ed} (hv : ws.map vN = .int e.num :: DQ.oI e.make :: e.own.map .int) (hm : ∀ k, e.make = some k -> 0 <= k) : qo_ (fL z ws v2 v3 (.own (dL vN ws)) v5 []) = some (!edB e) := by
 let E := fL z ws v2 v3 (.own (dL vN ws)) v5 []
 have i0 : aC_ (ab_ 4) (dC (.int 0)) E = some (.val (.dat (.int e.num))) := ix4 (k := 0) (by rw [hv]; rfl) rfl
 have i1 : aC_ (ab_ 4) (dC (.int 1)) E = some (.val (.dat (DQ.oI e.make))) := ix4 (k := 1) (by rw [hv]; rfl) rfl
 have pw : dOp fZ_ (dC (.int 10)) (dC (.int 6)) E = some (.val (.dat (.int 1000000))) := rfl
 have a : aj_ (cw_ fLe fLe (dC (.int 1)) (aC_ (ab_ 4) (dC (.int 0))) (dOp fZ_ (dC (.int 10)) (dC (.int 6)))) E = some (decide (1 <= e.num) && decide (e.num <= 1000000)) := as_ (iQ_ rfl i0 pw rfl rfl)
 unfold qo_ edB
 cases hn : decide (1 <= e.num) && decide (e.num <= 1000000) with
 | false =>
  rw [hn] at a
  rw [Bool.and_false]
  exact jo_ (by unfold hO_; rw [a]; rfl)
 | true =>
  rw [hn] at a
  rw [Bool.and_true]
  refine (jn_ (by unfold hO_; rw [a]; rfl)).trans ?_
  have b : aj_ (dOp fI_ (aC_ (ab_ 4) (dC (.int 1))) (dC .none)) E = some e.make.isSome := by
   refine as_ (ay_ i1 rfl ?_)
   cases e.make <;> rfl
  cases hk : e.make with
  | none => rw [hk] at b; exact hC_ b
  | some k =>
   rw [hk] at b i1
   refine (hD_ b).trans ?_
   have h0 := hm k hk
   refine (as_ (ay_ i1 pw (show fGt (.int k) (.int 1000000) = some (.bool (decide (1000000 < k))) from rfl))).trans ?_
   congr 1
   show _ = !(decide (0 <= k) && decide (k <= 1000000))
   rw [decide_eq_true h0, Bool.true_and, Bool.eq_iff_iff]; simp
theorem jp_ (t : Tx z) (hws : Txt.split z spS = ws) :
  (∀ p, rdB ws = some p -> K20.g__law_edition [.dat (.str z)] = some (.dat (bt p), [.dat (.str z)])) ∧
  ∀ e : Ed, rdB ws = none -> ws.length = 14 -> e.own.length = 12 -> (∀ k, e.make = some k -> 0 <= k) -> ws.map vN = .int e.num :: DQ.oI e.make :: e.own.map .int →
   K20.g__law_edition [.dat (.str z)] = some (.dat (if edB e = true then e.d else jy_ 17), [.dat (.str z)]) := by
 have tw : ∀ w ∈ ws, Tx w := fun w m => d4_ t co_ (by decide) (by rw [hws]; exact m)
 have hlen : ws.length < 100000 := by have := ds_ t co_ (by decide); rw [hws] at this; omega
 have s1 : ap_ 1 (a7_ (ab_ 0) (dC (.str " "))) (entry 6 [.dat (.str z)]) = some (.nx (fL z ws .no .no .no .no [])) := by
  have sp : a7_ (ab_ 0) (dC (.str " ")) (entry 6 [.dat (.str z)]) = some (.val (dL PyData.str ws)) := by rw [<- hws]; exact cC_ (y := spS) co_ rfl t.len
  unfold ap_
  rw [sp]; rfl
 obtain ⟨L1, L2⟩ := lL_ (z := z) tw hlen
 rw [o4_]
 cases hf : aK_ (gW_ ws) ws.length 0 with
 | some p =>
  refine ⟨fun p' h => ?_, fun e h => (nomatch h)⟩
  cases h
  obtain ⟨v2, v3, h⟩ := L2 p hf
  exact aU_ (ad_ s1 (bu_ h)) (by rfl)
 | none =>
  obtain ⟨v2, v3, hlp, q, q3⟩ := L1 hf
  have t3 : ao_ (aj_ (dOp fLt (bp_ (ab_ 1)) (dC (.int 14)))) (fL z ws v2 v3 .no .no []) = some (decide (ws.length < 14), fL z ws v2 v3 .no .no []) := by
   have l : bp_ (ab_ 1) (fL z ws v2 v3 .no .no []) = some (.val (.dat (.int (ws.length : Nat)))) := f5_ rfl
   have o : dOp fLt (bp_ (ab_ 1)) (dC (.int 14)) (fL z ws v2 v3 .no .no []) = some (.val (.dat (.bool (decide (((ws.length : Nat) : Int) < (14 : Int)))))) := ay_ l rfl rfl
   have e : decide (((ws.length : Nat) : Int) < (14 : Int)) = decide (ws.length < 14) := by rw [Bool.eq_iff_iff, decide_eq_true_eq, decide_eq_true_eq]; omega
   rw [e] at o
   exact pureT_go (as_ o)
  by_cases hg : ws.length < 14
  ·dsimp only
   rw [if_pos hg]
   refine ⟨fun p h => ?_, fun e h => (nomatch h)⟩
   cases h
   rw [decide_eq_true hg] at t3
   have r : ae_ (aS_ (aa_ (dC (.str "BadText")) (aa_ (bp_ (ab_ 1)) ai_))) (fL z ws v2 v3 .no .no []) = some (.dat (bt ws.length), fL z ws v2 v3 .no .no []) :=
    pure_go (fq_ (rs := [.val (.dat (.str "BadText")), .val (.dat (.int (ws.length : Nat)))]) (am_ rfl (am_ (f5_ rfl) rfl)) (by show 2 < 1000; decide) rfl)
   exact aU_ (ad_ s1 (ad_ hlp (bu_ (cu_ t3 (aQ_ r))))) (by rfl)
  ·dsimp only
   rw [if_neg hg]
   refine ⟨fun p h => (nomatch h), fun e _ hl ho hm hv => ?_⟩
   rw [decide_eq_false hg] at t3
   have s4 : cd_ 4 LC5 (fL z ws v2 v3 .no .no []) = some (.nx (fL z ws v2 v3 (.own (dL vN ws)) .no [])) := by
    unfold cd_
    rw [lc5 hlen tw q q3]
    rcases q with rfl | ⟨d, rfl⟩ <;> rcases q3 with rfl | ⟨d, rfl⟩ <;> rfl
   have t5 : ao_ qo_ (fL z ws v2 v3 (.own (dL vN ws)) .no []) = some (!edB e, fL z ws v2 v3 (.own (dL vN ws)) .no []) := pureT_go (nJ_ hv hm)
   cases hb : edB e with
   | false =>
    rw [hb] at t5
    rw [if_neg Bool.false_ne_true]
    exact aU_ (ad_ s1 (ad_ hlp (ad_ (bF_ t3 rfl) (ad_ s4 (bu_ (cu_ t5 (aQ_ (show ae_ _ (fL z ws v2 v3 (.own (dL vN ws)) .no []) = some (.dat (jy_ 17), fL z ws v2 v3 (.own (dL vN ws)) .no []) from rfl)))))))) (by rfl)
   | true =>
    rw [hb] at t5
    rw [if_pos rfl]
    have i0 : aC_ (ab_ 4) (dC (.int 0)) (fL z ws v2 v3 (.own (dL vN ws)) .no []) = some (.val (.dat (.int e.num))) := ix4 (k := 0) (by rw [hv]; rfl) rfl
    have i1 : aC_ (ab_ 4) (dC (.int 1)) (fL z ws v2 v3 (.own (dL vN ws)) .no []) = some (.val (.dat (DQ.oI e.make))) := ix4 (k := 1) (by rw [hv]; rfl) rfl
    have i2 : dCS fTuple (aa_ (dSl c8_ (ab_ 4) (aV_ (dC (.int 2))) ax_) ai_) (fL z ws v2 v3 (.own (dL vN ws)) .no []) = some (.val (.dat (DQ.tD e.own))) := by
     have sl : dSl c8_ (ab_ 4) (aV_ (dC (.int 2))) ax_ (fL z ws v2 v3 (.own (dL vN ws)) .no []) = some (.val (dL vN (ws.drop 2))) := h4_ (f := vN) (xs := ws) (k := 2) (r := .pl [4]) rfl (show S.get _ [] = _ from S.get_nil _) rfl
     unfold dCS aa_
     rw [sl]
     show ((fTuple [dL vN (ws.drop 2)]).map Rs.val) = _
     unfold fTuple
     have : (dL vN (ws.drop 2)).seqL = some (e.own.map PyData.int) := by
      rw [bG_, List.map_drop, hv]; rfl
     simp only [this]
     rfl
    exact aU_ (ad_ s1 (ad_ hlp (ad_ (bF_ t3 rfl) (ad_ s4 (ad_ (bF_ t5 rfl) (aQ_ (pure_go (fq_ (rs := [.val (.dat (.int e.num)), .val (.dat (DQ.oI e.make)), .val (.dat (DQ.tD e.own))]) (am_ i0 (am_ i1 (am_ i2 rfl))) (by show 3 < 1000; decide) rfl)))))))) (by rfl)
end
def alk (d : PyData) : Prop := K17.g__law_alike 9 [.dat d, .dat d] = some (.dat (.bool true), [.dat d, .dat d])
open PySem.NumText (AllDigits digitsVal)
open DQ17 (as_ ay_)
open DQ (c3_ c2_)
open Gn hiding g__law_take g__law_begun d__law_take d__law_begun
theorem ia_ (z : Str) (k : Nat) : tl (Txt.slice z (some (k : Int)) none) = (tl z).drop k := by
 rw [<- C8.cutS_slice]
 show ((tl z).drop (HT.sIx z.length 0 (some (k : Int)))).take (HT.sIx z.length z.length none - HT.sIx z.length 0 (some (k : Int))) = _
 rw [HT.sIx_nat, HT.sIx_none, len_tl z]
 by_cases h : k <= (tl z).length
 ·rw [Nat.min_eq_left h, List.take_of_length_le (by rw [List.length_drop]; omega)]
 ·rw [Nat.min_eq_right (by omega), List.drop_eq_nil_of_le (Nat.le_refl _), List.drop_eq_nil_of_le (by omega : (tl z).length <= k), List.take_nil]
theorem nK_ (z : Str) (k : Nat) : tl (Txt.slice z none (some (k : Int))) = (tl z).take k := by
 rw [<- C8.cutS_slice]
 show ((tl z).drop (HT.sIx z.length 0 none)).take (HT.sIx z.length z.length (some (k : Int)) - HT.sIx z.length 0 none) = _
 rw [HT.sIx_nat, HT.sIx_none, len_tl z, List.drop_zero, Nat.sub_zero]
 by_cases h : k <= (tl z).length
 ·rw [Nat.min_eq_left h]
 ·rw [Nat.min_eq_right (by omega), List.take_of_length_le (Nat.le_refl _), List.take_of_length_le (by omega : (tl z).length <= k)]
theorem ib_ {E : En} {d dk : En -> Option Rs} {z : Str} {k : Nat} (h : d E = some (.val (.dat (.str z)))) (hk : dk E = some (.val (.dat (.int (k : Nat))))) (hl : z.length <= sizeLine) : dSl eZ_ d (aV_ dk) ax_ E = some (.val (.dat (.str (Txt.slice z (some (k : Int)) none)))) := by
 unfold dSl
 rw [h, eu_ hk]
 show ((if z.length <= sizeLine then some (S.dat (.str (Txt.slice z (some (k : Int)) none))) else none).map Rs.val) = _
 rw [if_pos hl]; rfl
theorem o8_ {E : En} {d dk : En -> Option Rs} {z : Str} {k : Nat} (h : d E = some (.val (.dat (.str z)))) (hk : dk E = some (.val (.dat (.int (k : Nat))))) (hl : z.length <= sizeLine) : dSl eZ_ d ax_ (aV_ dk) E = some (.val (.dat (.str (Txt.slice z none (some (k : Int)))))) := by
 unfold dSl
 rw [h, eu_ hk]
 show ((if z.length <= sizeLine then some (S.dat (.str (Txt.slice z none (some (k : Int))))) else none).map Rs.val) = _
 rw [if_pos hl]; rfl
def neg (z : Str) : Bool := decide ((tl z).head? = some 45)
def rest (z : Str) : Str := Txt.slice z (some ((1 : Nat) : Int)) none
theorem fz_ (z : Str) : tl (rest z) = (tl z).drop 1 := ia_ z 1
theorem iU_ {z : Str} (h : Asc (tl z)) : Asc (tl (rest z)) := fun c m => h c (List.mem_of_mem_drop (by rw [fz_] at m; exact m))
theorem iV_ (z : Str) : (rest z).length <= z.length := by rw [len_tl, len_tl, fz_, List.length_drop]; omega
theorem jq_ (z : Str) : Txt.startswith z cn_ = neg z := f3_ kF_
theorem qp_ {z : Str} : decide (Txt.slice z none (some ((1 : Nat) : Int)) = cn_) = neg z := by
 unfold neg
 rw [Bool.eq_iff_iff, decide_eq_true_eq, decide_eq_true_eq, ez, nK_, kF_]
 cases tl z with
 | nil => simp
 | cons a r => simp
def eR_ (z : Str) : Option Int := if neg z = true then (match num (rest z) with | some n => if n = 0 then none else some (0 - (n : Int)) | none => none) else (num z).map fun n => ((n : Nat) : Int)
theorem f6_ (z : Str) : (num z).isSome = dr_ (tl z) := by unfold num; cases dr_ (tl z) <;> rfl
theorem kP_ {z : Str} {n : Nat} (h : num z = some n) : n = 0 ↔ tl z = [48] := by
 obtain ⟨e, _⟩ := ei_ h
 rw [e, show tl (word n) = numL n from cI_ n]
 constructor
 ·rintro rfl; exact numL_lt (by decide)
 ·intro q
  have : numL n = numL 0 := by rw [q]; exact (numL_lt (n := 0) (by decide)).symm
  exact numL_inj this
theorem lM_ {z : Str} (t : Tx z) : K20.g_is_signed [.dat (.str z)] = some (.dat (.bool (eR_ z).isSome), [.dat (.str z)]) := by
 let E : En := entry 1 [.dat (.str z)]
 have hs : z.length <= sizeLine := by have := t.len; rw [sizeLine_eq]; omega
 have a : ao_ (aj_ (dM1 fm_ (ab_ 0) (dC (.str "-")))) E = some (neg z, E) := by
  refine pureT_go (as_ ?_)
  rw [<- jq_]; rfl
 unfold eR_
 cases hn : neg z with
 | false =>
  rw [hn] at a
  rw [if_neg Bool.false_ne_true]
  have c1 : ag_ K20.g_is_plain (aa_ (ab_ 0) ai_) E = some (.dat (.bool (dr_ (tl z))), E) := eCall_go (rs := [.val (.dat (.str z))]) rfl rfl rfl (h7_ t.asc hs)
  rw [Option.isSome_map, f6_]
  exact aU_ (ad_ (bF_ a rfl) (aQ_ c1)) rfl
 | true =>
  rw [hn] at a
  rw [if_pos rfl]
  have hd : tl z = 45 :: tl (rest z) := by
   rw [fz_]
   have := of_decide_eq_true hn
   cases h : tl z with
   | nil => rw [h] at this; cases this
   | cons a r => rw [h] at this; cases this; rfl
  have sl := ib_ (E := E) (d := ab_ 0) (dk := dC (.int 1)) (z := z) (k := 1) rfl rfl hs
  have c1 : ag_ K20.g_is_plain (aa_ (dSl eZ_ (ab_ 0) (aV_ (dC (.int 1))) ax_) ai_) E = some (.dat (.bool (dr_ (tl (rest z)))), E) :=
   eCall_go (rs := [.val (.dat (.str (rest z)))]) (am_ sl rfl) rfl rfl (h7_ (iU_ t.asc) (Nat.le_trans (iV_ z) hs))
  have c0 : ae_ (dOp dD_ (ab_ 0) (dC (.str "-0"))) E = some (.dat (.bool (!decide (z = ("-0" : Str)))), E) := rfl
  have r : cf_ (ae_ (dOp dD_ (ab_ 0) (dC (.str "-0")))) (ag_ K20.g_is_plain (aa_ (dSl eZ_ (ab_ 0) (aV_ (dC (.int 1))) ax_) ai_)) E = some (.dat (.bool (match num (rest z) with | some n => if n = 0 then none else some (0 - (n : Int)) | none => (none : Option Int)).isSome), E) := by
   unfold cf_
   rw [c0]
   have t0 : tl ("-0" : Str) = [45, 48] := by decide +kernel
   by_cases h0 : z = ("-0" : Str)
   ·rw [decide_eq_true h0]
    have hr : tl (rest z) = [48] := by rw [h0, t0] at hd; rw [h0]; exact (List.cons.inj hd).2.symm
    have : num (rest z) = some 0 := by unfold num; rw [hr]; rfl
    rw [this]; rfl
   ·rw [decide_eq_false h0]
    show ag_ _ _ E = _
    rw [c1, <- f6_]
    cases hm : num (rest z) with
    | none => rfl
    | some n =>
     have : n ≠ 0 := fun q => h0 (ez.mpr (by rw [hd, (kP_ hm).mp q, t0]))
     simp only [if_neg this]; rfl
  exact aU_ (bu_ (cu_ a (aQ_ r))) rfl
theorem lN_ {z : Str} (h : neg z = true) : tl z = 45 :: tl (rest z) := by
 rw [fz_]
 have := of_decide_eq_true h
 cases h2 : tl z with
 | nil => rw [h2] at this; cases this
 | cons a r => rw [h2] at this; cases this; rfl
theorem lO_ {z : Str} {i : Int} (h : eR_ z = some i) : PySem.intText? z = some i /\ z.length <= 8 := by
 unfold eR_ at h
 split at h
 ·next hn =>
  cases hm : num (rest z) with
  | none => rw [hm] at h; cases h
  | some n =>
   rw [hm] at h
   dsimp only at h
   split at h
   ·cases h
   ·cases h
    have hd := lN_ hn
    obtain ⟨e, h7⟩ := ei_ hm
    have ed : tl (rest z) = numL n := by rw [e]; exact cI_ n
    have hl : z.length <= 8 := by
     rw [len_tl, hd, List.length_cons, ed]
     have := numL_len (k := 7) (by decide) h7
     omega
    have := PySem.intText_neg (x := z) (cs := tl (rest z)) hd (by rw [ed]; exact numL_digits n) (by rw [ed]; exact numL_ne n) (by omega)
    rw [this, ed, numL_val]
    exact ⟨by congr 1; omega, hl⟩
 ·obtain ⟨n, hm, rfl⟩ := Option.map_eq_some_iff.mp h
  obtain ⟨rfl, h7⟩ := ei_ hm
  exact ⟨gF_ h7, Nat.le_trans (dq_ h7) (by decide)⟩
open PySem.NumText (AllDigits digitsVal)
open DQ17 (as_ ay_)
open DQ (c3_ c2_)
open Gn hiding g__law_take g__law_begun d__law_take d__law_begun
open K20 (numF jz_)
def vI (x : Str) : PyData := .int ((eR_ x).getD 0)
def dK_ (w : Str) (ns : List Str) : Bool := decide (numF w = some (ns.length : Int)) && ns.all fun x => (eR_ x).isSome
def fA_ (w : Str) (ns : List Str) : PyData := .tuple (.str w :: ns.map vI)
theorem lcD {α : Type} {xs : List α} {f : α -> PyData} {g : α -> S} {j : Nat} {src : En -> Option Src} {de : En -> Option (S × En)} {E E0 : En} (hn : xs.length < 100000) (hsrc : src E = some ⟨E, [], rdD (xs.map f), xs.length⟩)
  (h0 : ak_ E j .no = E0) (hs : ∀ a ∈ xs, ∃ E1, au_ j (.val (.dat (f a))) E0 = some E1 /\ de E1 = some (g a, E1) /\ ak_ E1 j .no = E0) : eLc src j cs_ de E = some (.lst (xs.map g), E0) := by
 refine iB_ hsrc ?_
 show dLcLoop (rdD (xs.map f)) j cs_ de xs.length 0 [] (ak_ (E ++ []) j .no) = _
 rw [List.append_nil, h0, lcF (f := f) (p := fun _ => true) (g := g) hn (fun i a h => mw_ h) (mx_ (Nat.le_refl _)) (fun a m => by
  obtain ⟨E1, h1, h2, h3⟩ := hs a m
  exact ⟨E1, h1, rfl, fun _ => h2, h3⟩) xs.length 0 xs.length [] (by omega) (Nat.le_refl _) (Nat.le_refl _)]
 rw [List.drop_zero, List.filter_eq_self.mpr (fun _ _ => rfl)]; rfl
def fS (p : Nat) (row : Str) (v2 v3 v4 v5 : Sl) (G : En) : En := [.own (.dat (.int (p : Nat))), .own (.dat (.str row)), v2, v3, v4, v5, .own (.dat (.int (p : Nat))), .own (.dat (.str row))] ++ G
def O (d : PyData) : Sl := .own (.dat d)
section
variable {p : Nat} {row w : Str} {ns : List Str}
theorem nL_ {E : En} (h : E[2]? = some (O (.str w))) : jz_ (ab_ 2) E = some (.val (.dat (match numF w with | some i => .int i | none => .none))) := by
 have : ab_ 2 E = some (.val (.dat (.str w))) := by unfold ab_; rw [h]; rfl
 unfold jz_
 rw [this] <;> rfl
theorem o9_ (k : Nat) : k9_ (match numF w with | some i => .int i | none => .none) (.int (k : Nat)) = some (.bool (!decide (numF w = some (k : Int)))) := by
 cases h : numF w with
 | none => rfl
 | some i =>
  show (if SeqAt.shaped (.int i) = true /\ SeqAt.shaped (.int (k : Nat)) = true then some (PyData.bool (!PyData.eqv (.int i) (.int (k : Nat)))) else none) = _
  rw [if_pos ⟨rfl, rfl⟩]
  have : PyData.eqv (.int i) (.int (k : Nat)) = decide (some i = some ((k : Nat) : Int)) := by
   show (i == ((k : Nat) : Int)) = _
   rw [Bool.eq_iff_iff, beq_iff_eq, decide_eq_true_eq]; simp
  rw [this]
theorem f7_ : ∀ (xs : List Str) (f : Str -> Bool), bq_ (xs.map fun x => PyData.bool (f x)) = some (xs.map f)
 | [], _ => rfl
 | a :: r, f => by
  show (bq_ (r.map fun x => PyData.bool (f x))).map (f a :: ·) = _
  rw [f7_ r f]; rfl
def LCs : En -> Option (S × En) := jv_ jP_ (eLc (c5_ (ab_ 3)) 5 cs_ (ag_ K20.g_is_signed (aa_ (ab_ 5) ai_)))
theorem pa_ (hl : ns.length < 100000) (hw : ∀ x ∈ ns, Tx x) : LCs (fS p row (O (.str w)) (O (.list (ns.map .str))) .no .no []) = some (.dat (.bool (ns.all fun x => (eR_ x).isSome)), fS p row (O (.str w)) (O (.list (ns.map .str))) .no .no []) := by
 have l := lcD (xs := ns) (f := PyData.str) (g := fun x => S.dat (.bool (eR_ x).isSome)) (j := 5) (src := c5_ (ab_ 3)) (de := ag_ K20.g_is_signed (aa_ (ab_ 5) ai_)) (E := fS p row (O (.str w)) (O (.list (ns.map .str))) .no .no []) (E0 := fS p row (O (.str w)) (O (.list (ns.map .str))) .no .no []) hl (by
  show some (Src.mk _ [] (rdD (ns.map .str)) (ns.map PyData.str).length) = _
  rw [List.length_map]) rfl (fun x m => ⟨fS p row (O (.str w)) (O (.list (ns.map .str))) .no (O (.str x)) [], rfl, eCall_go (rs := [.val (.dat (.str x))]) rfl rfl rfl (lM_ (hw x m)), rfl⟩)
 refine m9_ l (a := .list (ns.map fun x => .bool (eR_ x).isSome)) (kn_ (f := fun x => PyData.bool (eR_ x).isSome) (xs := ns)) ?_
 show (bq_ (ns.map fun x => PyData.bool (eR_ x).isSome)).map (fun bs => PyData.bool (bs.all id)) = _
 rw [f7_, Option.map_some, List.all_map]; rfl
theorem fB_ {E : En} : ∀ (ds : List PyData), tupD E (ds.map fun d => Rs.val (.dat d)) = some ds
 | [] => rfl
 | d :: r => by
  rw [List.map_cons]
  unfold tupD
  rw [fB_ r]; rfl
theorem ic_ (t : Tx row) (hp : p < 1000000) (hws : Txt.split row spS = w :: ns) : K20.g_read_step [.dat (.int (p : Nat)), .dat (.str row)] = some (if dK_ w ns = true then .rt (.dat (fA_ w ns)) else .ex (1000 + p), [.dat (.int (p : Nat)), .dat (.str row)]) := by
 have tw : ∀ x ∈ w :: ns, Tx x := fun x m => d4_ t co_ (by decide) (by rw [hws]; exact m)
 have hlen : ns.length < 100000 := by have := ds_ t co_ (by decide); rw [hws, List.length_cons] at this; omega
 let E1 := fS p row (O (.str w)) (O (.list (ns.map .str))) .no .no []
 have s1 : eN_ 1 (aX_ (au_ 2) (aX_ (au_ 3) e6_)) (ae_ (a7_ (ab_ 1) (dC (.str " ")))) (entry 6 [.dat (.int (p : Nat)), .dat (.str row)]) = some (.nx E1) := by
  have sp : a7_ (ab_ 1) (dC (.str " ")) (entry 6 [.dat (.int (p : Nat)), .dat (.str row)]) = some (.val (dL PyData.str (w :: ns))) := by rw [<- hws]; exact cC_ (y := spS) co_ rfl t.len
  unfold eN_ ae_
  rw [sp]
  have hd : bc_ ((w :: ns).map fun x => S.dat (.str x)) = some ((w :: ns).map .str) := bG_ (f := PyData.str) (xs := w :: ns)
  show (match bc_ ((w :: ns).map fun x => S.dat (.str x)) with | some ds => _ | none => none) = _
  rw [hd]
  show (if 1 <= ((w :: ns).map PyData.str).length then _ else none) = _
  rw [if_pos (by simp)]
  rfl
 have a1 : ao_ (aj_ (dOp k9_ (jz_ (ab_ 2)) (bp_ (ab_ 3)))) E1 = some (!decide (numF w = some (ns.length : Int)), E1) := by
  refine pureT_go (as_ (ay_ (nL_ rfl) (len_dat (f := PyData.str) (xs := ns) rfl) (o9_ _)))
 have a2 : dG_ (bb_ LCs) E1 = some (!(ns.all fun x => (eR_ x).isSome), E1) := dg_ (bQ_ (pa_ hlen fun x m => tw x (List.mem_cons_of_mem _ m)))
 have tt : ∀ b, dK_ w ns = b -> eOr (ao_ (aj_ (dOp k9_ (jz_ (ab_ 2)) (bp_ (ab_ 3))))) (dG_ (bb_ LCs)) E1 = some (!b, E1) := fun b hb => by
  unfold dK_ at hb
  cases h1 : decide (numF w = some (ns.length : Int)) with
  | false => rw [h1] at a1 hb; rw [<- hb]; exact DQ17.eOr_t a1
  | true => rw [h1] at a1 hb; rw [<- hb]; exact j3_ a1 a2
 cases hb : dK_ w ns with
 | false =>
  rw [if_neg Bool.false_ne_true]
  have t1 := tt false hb
  rw [Bool.not_false] at t1
  exact eE_ (ad_ s1 (gL_ (cu_ t1 (fy_ rfl hp)))) (by rfl)
 | true =>
  rw [if_pos rfl]
  unfold dK_ at hb
  rw [Bool.and_eq_true, decide_eq_true_eq, List.all_eq_true] at hb
  obtain ⟨h1, h2⟩ := hb
  have l := lcD (xs := ns) (f := PyData.str) (g := fun x => S.dat (vI x)) (j := 5) (src := c5_ (ab_ 3)) (de := ae_ (dCB c7_ (aa_ (ab_ 5) ai_))) (E := E1) (E0 := E1) hlen (by
   show some (Src.mk _ [] (rdD (ns.map .str)) (ns.map PyData.str).length) = _
   rw [List.length_map]) rfl (fun x m => by
    refine ⟨fS p row (O (.str w)) (O (.list (ns.map .str))) .no (O (.str x)) [], rfl, ?_, rfl⟩
    obtain ⟨i, hi⟩ := Option.isSome_iff_exists.mp (h2 x m)
    obtain ⟨e1, e2⟩ := lO_ hi
    refine pure_go ?_
    unfold vI
    rw [hi]
    exact gJ_ (z := x) rfl e1 (by omega))
  have s4 : cd_ 4 (eLc (c5_ (ab_ 3)) 5 cs_ (ae_ (dCB c7_ (aa_ (ab_ 5) ai_)))) E1 = some (.nx (fS p row (O (.str w)) (O (.list (ns.map .str))) (.own (dL vI ns)) .no [])) := by
   unfold cd_
   rw [l]; rfl
  have hn3 : ns.length <= 3 := by
   have : ∀ (l : List (Str × Int)) (k : Int), (∀ q ∈ l, q.2 <= 3) -> l.lookup w = some k -> k <= 3 := by
    intro l
    induction l with
    | nil => intro k _ h; cases h
    | cons a r ih =>
     intro k h e
     obtain ⟨x, v⟩ := a
     rw [List.lookup] at e
     split at e
     ·cases e; exact h _ List.mem_cons_self
     ·exact ih k (fun q m => h q (List.mem_cons_of_mem _ m)) e
   have := this K20.numL ns.length (by decide) h1
   omega
  have r : aS_ (aa_ (ab_ 2) (di_ (ab_ 4) ai_)) (fS p row (O (.str w)) (O (.list (ns.map .str))) (.own (dL vI ns)) .no []) = some (.val (.dat (fA_ w ns))) := by
   have st : di_ (ab_ 4) ai_ (fS p row (O (.str w)) (O (.list (ns.map .str))) (.own (dL vI ns)) .no []) = some ((ns.map vI).map fun d => Rs.val (.dat d)) := by
    unfold di_
    have e0 : ab_ 4 (fS p row (O (.str w)) (O (.list (ns.map .str))) (.own (dL vI ns)) .no []) = some (.pl [4]) := rfl
    have e1 : (Rs.pl [4]).at (fS p row (O (.str w)) (O (.list (ns.map .str))) (.own (dL vI ns)) .no []) = some (dL vI ns) := S.get_nil _
    rw [e0]
    simp only [ai_, e1, bG_]
    simp
   refine fq_ (rs := ((PyData.str w) :: ns.map vI).map fun d => Rs.val (.dat d)) (am_ rfl st) (by simp; omega) (fB_ _)
  have t1 := tt true (by unfold dK_; rw [h1, List.all_eq_true.mpr h2]; simp)
  rw [Bool.not_true] at t1
  exact h8_ (ad_ s1 (ad_ (bF_ t1 rfl) (ad_ s4 (aQ_ (pure_go r))))) (by rfl)
end
open PySem.NumText (AllDigits digitsVal)
open DQ17 (as_ ay_)
open DQ (c3_ c2_)
open Gn hiding g__law_take g__law_begun d__law_take d__law_begun
open K20 (numF jz_)
def kvN : List (Str × Int) -> List (Key × S) := List.map fun p => (.inr p.1, .dat (.int p.2))
theorem kQ_ (w : Str) : ∀ l : List (Str × Int), (match kix ((kvN l).map (fun p : Key × S => p.1)) (.inr w) with | some i => ((kvN l).map (fun p : Key × S => p.2))[i]? | none => none) = (l.lookup w).map (fun i : Int => S.dat (.int i))
 | [] => rfl
 | (x, v) :: r => by
  have ih := kQ_ w r
  show (match kix (Sum.inr x :: (kvN r).map (fun p : Key × S => p.1)) (.inr w) with | some i => (S.dat (.int v) :: (kvN r).map (fun p : Key × S => p.2))[i]? | none => none) = _
  unfold kix
  by_cases h : x = w
  ·rw [if_pos (by rw [h])]
   rw [List.lookup]
   simp [h]
  ·rw [if_neg (fun z => h (Sum.inr.inj z))]
   rw [List.lookup, show (w == x) = false from by simpa using fun z : w = x => h z.symm]
   simp only
   rw [<- ih]
   cases kix ((kvN r).map (·.1)) (.inr w) with
   | none => rfl
   | some i => simp
def fT (row : Str) (ws : List Str) (v2 v3 v4 v5 : Sl) (G : En) : En := [.own (.dat (.str row)), .own (dL PyData.str ws), v2, v3, v4, v5, .own (.dat (.str row))] ++ G
def cnt : S := .dct false (kvN K20.numL)
def pb_ : En -> Option (S × En) := (lu_ (cO_ (ae_ (dC (.str "come"))) (ae_ (dC (.int 1))) (cO_ (ae_ (dC (.str "farewell"))) (ae_ (dC (.int 1))) (cO_ (ae_ (dC (.str "turn"))) (ae_ (dC (.int 0))) (cO_ (ae_ (dC (.str "ask"))) (ae_ (dC (.int 3))) (cO_ (ae_ (dC (.str "send"))) (ae_ (dC (.int 0))) (cO_ (ae_ (dC (.str "carry"))) (ae_ (dC (.int 1))) (cO_ (ae_ (dC (.str "twice"))) (ae_ (dC (.int 1))) (cO_ (ae_ (dC (.str "lose"))) (ae_ (dC (.int 1))) (cO_ (ae_ (dC (.str "settle"))) (ae_ (dC (.int 1))) aJ_))))))))))
section
variable {row w x : Str} {ns : List Str} {ws : List Str} {v2 v3 v4 v5 : Sl}
theorem id_ : cd_ 2 pb_ (fT row ws .no .no .no .no []) = some (.nx (fT row ws (.own cnt) .no .no .no [])) := by
 unfold cd_
 have h : pb_ (fT row ws .no .no .no .no []) = some (cnt, fT row ws .no .no .no .no []) := by kernel_rfl
 rw [h]; rfl
theorem ix0 : aC_ (ab_ 1) (dC (.int 0)) (fT row (w :: ns) v2 v3 v4 v5 []) = some (.val (.dat (.str w))) := kG_ (i := 0) rfl rfl rfl
theorem pc_ : fW_ (ab_ 2) (aC_ (ab_ 1) (dC (.int 0))) (la_ (dC (.int 1))) (fT row (w :: ns) (.own cnt) v3 v4 v5 []) = some (.val (.dat (.int ((numF w).getD (-1))))) := by
 have k := kQ_ w K20.numL
 have e1 : (Rs.pl [2]).at (fT row (w :: ns) (.own cnt) v3 v4 v5 []) = some cnt := S.get_nil _
 have e0 : ab_ 2 (fT row (w :: ns) (.own cnt) v3 v4 v5 []) = some (.pl [2]) := rfl
 have e2 : (Rs.val (S.dat (.str w))).key = some (.inr w) := rfl
 have en : la_ (dC (.int 1)) (fT row (w :: ns) (.own cnt) v3 v4 v5 []) = some (.val (.dat (.int (-1)))) := rfl
 unfold fW_
 rw [e0, ix0, en]
 simp only [e1, e2]
 unfold cnt
 simp only
 show (match kix ((kvN K20.numL).map (·.1)) (.inr w) with | some i => (match ((kvN K20.numL).map (fun p : Key × S => p.2))[i]? with | some s => (Rs.pl [2]).kid i s | none => none) | none => some (.val (.dat (.int (-1))))) = _
 unfold numF
 cases hk : kix ((kvN K20.numL).map (·.1)) (.inr w) with
 | none =>
  rw [hk] at k
  cases hl : K20.numL.lookup w with
  | none => rfl
  | some i => rw [hl] at k; cases k
 | some i =>
  rw [hk] at k
  simp only at k ⊢
  rw [k]
  cases hl : K20.numL.lookup w with
  | none =>
   rw [hl] at k
   have : i < (kvN K20.numL).length := by
    have : ∀ (l : List Key) (k : Key) (i : Nat), kix l k = some i -> i < l.length := by
     intro l
     induction l with
     | nil => intro k i h; cases h
     | cons a r ih =>
      intro k i h
      unfold kix at h
      split at h
      ·cases h; simp
      ·obtain ⟨j, hj, rfl⟩ := Option.map_eq_some_iff.mp h
       have := ih k j hj
       simp; omega
    have := this _ _ _ hk
    simpa using this
   rw [List.getElem?_eq_getElem (by simpa using this)] at k
   cases k
  | some v => rfl
def qX_ : En -> Option (Bool × En) := ao_ (aj_ (dOp dD_ (fW_ (ab_ 2) (aC_ (ab_ 1) (dC (.int 0))) (la_ (dC (.int 1)))) (dOp e4_ (bp_ (ab_ 1)) (dC (.int 1)))))
theorem nM_ : qX_ (fT row (w :: ns) (.own cnt) v3 v4 v5 []) = some (!decide (numF w = some (ns.length : Int)), fT row (w :: ns) (.own cnt) v3 v4 v5 []) := by
 have l : bp_ (ab_ 1) (fT row (w :: ns) (.own cnt) v3 v4 v5 []) = some (.val (.dat (.int (((w :: ns).length : Nat) : Int)))) := f5_ rfl
 have s : dOp e4_ (bp_ (ab_ 1)) (dC (.int 1)) (fT row (w :: ns) (.own cnt) v3 v4 v5 []) = some (.val (.dat (.int (ns.length : Int)))) := by
  rw [ay_ (c := .int ((((w :: ns).length : Nat) : Int) - 1)) l rfl rfl, show (((w :: ns).length : Nat) : Int) - 1 = (ns.length : Int) by rw [List.length_cons]; omega]
 have e : decide ((numF w).getD (-1) = (ns.length : Int)) = decide (numF w = some (ns.length : Int)) := by
  rw [Bool.eq_iff_iff, decide_eq_true_eq, decide_eq_true_eq]
  cases numF w with
  | none => simp
  | some i => simp
 rw [<- e]
 exact pureT_go (as_ (ay_ pc_ s rfl))
def dx : En -> Option Rs := dSl eZ_ (ab_ 4) ax_ (aV_ (dC (.int 1)))
def eG_ : En -> Option Bool := aj_ (dOp bP_ dx (dC (.str "-")))
theorem iW_ (t : Tx x) : eG_ (fT row ws v2 v3 (O (.str x)) v5 []) = some (neg x) := by
 have hs : x.length <= sizeLine := by have := t.len; rw [sizeLine_eq]; omega
 have s := o8_ (E := fT row ws v2 v3 (O (.str x)) v5 []) (d := ab_ 4) (dk := dC (.int 1)) (z := x) (k := 1) rfl rfl hs
 rw [<- qp_]
 exact as_ (ay_ s rfl rfl)
def lP_ : En -> Option Out := (aE_ (cd_ 5 (ag_ K20.g__law_number (aa_ (dM_ eG_ (dSl eZ_ (ab_ 4) (aV_ (dC (.int 1))) ax_) (ab_ 4)) ai_)))
  (aE_ (dIf (ao_ (dOr (aj_ (dOp fS_ (ab_ 5) (dC .none))) (hH_ eG_ (aj_ (dOp bP_ (ab_ 5) (dC (.int 0))))))) (aY_ (ae_ (dC .none))) aH_)
  (ap_ 3 (cq_ i7_ (ab_ 3) (aS_ (aa_ (dM_ eG_ (dOp e4_ (dC (.int 0)) (ab_ 5)) (ab_ 5)) ai_))))))
theorem nN_ (t : Tx x) {ds : List PyData} (hd : ds.length < 99000) (hv : v2 = .own cnt) (q : Qd v5) :
  (eR_ x = none -> lP_ (fT row ws v2 (O (.tuple ds)) (O (.str x)) v5 []) = some (.rt (.dat .none) (fT row ws v2 (O (.tuple ds)) (O (.str x)) (O (vN (if neg x = true then rest x else x))) []))) ∧
  ∀ i, eR_ x = some i -> lP_ (fT row ws v2 (O (.tuple ds)) (O (.str x)) v5 []) = some (.nx (fT row ws v2 (O (.tuple (ds ++ [.int i]))) (O (.str x)) (O (vN (if neg x = true then rest x else x))) [])) := by
 subst hv
 let y := if neg x = true then rest x else x
 let E := fT row ws (.own cnt) (O (.tuple ds)) (O (.str x)) v5 []
 let E1 := fT row ws (.own cnt) (O (.tuple ds)) (O (.str x)) (O (vN y)) []
 have hs : x.length <= sizeLine := by have := t.len; rw [sizeLine_eq]; omega
 have ty : Asc (tl y) /\ y.length < 100000 := by
  have := t.len
  by_cases h : neg x = true
  ·have e : y = rest x := if_pos h
   rw [e]
   have := iV_ x
   exact ⟨iU_ t.asc, by omega⟩
  ·have e : y = x := if_neg h
   rw [e]
   exact ⟨t.asc, by omega⟩
 have i1 : dM_ eG_ (dSl eZ_ (ab_ 4) (aV_ (dC (.int 1))) ax_) (ab_ 4) E = some (.val (.dat (.str y))) := by
  unfold dM_
  rw [iW_ t]
  cases h : neg x with
  | true =>
   have e : y = rest x := if_pos h
   rw [e]
   exact ib_ (E := E) (d := ab_ 4) (dk := dC (.int 1)) (z := x) (k := 1) rfl rfl hs
  | false =>
   have e : y = x := if_neg (by rw [h]; exact Bool.false_ne_true)
   rw [e]; rfl
 have c1 : ag_ K20.g__law_number (aa_ (dM_ eG_ (dSl eZ_ (ab_ 4) (aV_ (dC (.int 1))) ax_) (ab_ 4)) ai_) E = some (.dat (vN y), E) :=
  eCall_go (rs := [.val (.dat (.str y))]) (am_ i1 rfl) rfl rfl (gK_ ty.1 ty.2)
 have s1 : cd_ 5 (ag_ K20.g__law_number (aa_ (dM_ eG_ (dSl eZ_ (ab_ 4) (aV_ (dC (.int 1))) ax_) (ab_ 4)) ai_)) E = some (.nx E1) := by
  unfold cd_
  rw [c1]
  rcases q with rfl | ⟨d, rfl⟩ <;> rfl
 have n1 : eG_ E1 = some (neg x) := iW_ t
 have b : aj_ (dOp fS_ (ab_ 5) (dC .none)) E1 = some (num y).isNone := by
  refine as_ (ay_ (a := vN y) (b := .none) rfl rfl ?_)
  unfold vN
  cases num y <;> rfl
 have tst : ∀ r, (eR_ x).isNone = r -> ao_ (dOr (aj_ (dOp fS_ (ab_ 5) (dC .none))) (hH_ eG_ (aj_ (dOp bP_ (ab_ 5) (dC (.int 0)))))) E1 = some (r, E1) := fun r hr => by
  refine pureT_go ?_
  unfold eR_ at hr
  cases hn : num y with
  | none =>
   rw [hn] at b
   rw [jo_ b, <- hr]
   congr 1
   by_cases h : neg x = true
   ·have e : y = rest x := if_pos h
    rw [if_pos h, <- e, hn]; rfl
   ·have e : y = x := if_neg h
    rw [if_neg h, <- e, hn]; rfl
  | some n =>
   rw [hn] at b
   rw [jn_ b]
   have z0 : aj_ (dOp bP_ (ab_ 5) (dC (.int 0))) E1 = some (decide (n = 0)) := by
    refine (as_ (b := decide (((n : Nat) : Int) = (0 : Int))) (ay_ (a := vN y) (b := .int 0) rfl rfl ?_)).trans ?_
    ·unfold vN; rw [hn]; rfl
    ·congr 1
     rw [Bool.eq_iff_iff, decide_eq_true_eq, decide_eq_true_eq]; omega
   by_cases h : neg x = true
   ·have e : y = rest x := if_pos h
    rw [h] at n1
    rw [hD_ n1, z0, <- hr, if_pos h, <- e, hn]
    by_cases h0 : n = 0
    ·simp [h0]
    ·simp [h0]
   ·have e : y = x := if_neg h
    have h2 := Bool.eq_false_iff.mpr h
    rw [h2] at n1
    rw [hC_ n1, <- hr, if_neg h, <- e, hn]; rfl
 refine ⟨fun h => ?_, fun i h => ?_⟩
 ·have t1 := tst true (by rw [h]; rfl)
  exact ad_ s1 (bu_ (cu_ t1 (aQ_ rfl)))
 ·have t1 := tst false (by rw [h]; rfl)
  have vi : dM_ eG_ (dOp e4_ (dC (.int 0)) (ab_ 5)) (ab_ 5) E1 = some (.val (.dat (.int i))) := by
   unfold dM_
   rw [n1]
   unfold eR_ at h
   by_cases hg : neg x = true
   ·have e : y = rest x := if_pos hg
    rw [if_pos hg, <- e] at h
    rw [hg]
    cases hn : num y with
    | none => rw [hn] at h; cases h
    | some n =>
     rw [hn] at h
     dsimp only at h
     split at h
     ·cases h
     ·cases h
      refine ay_ (a := .int 0) (b := vN y) rfl rfl ?_
      unfold vN; rw [hn]; rfl
   ·have e : y = x := if_neg hg
    rw [if_neg hg, <- e] at h
    have h2 := Bool.eq_false_iff.mpr hg
    rw [h2]
    obtain ⟨n, hn, rfl⟩ := Option.map_eq_some_iff.mp h
    show some (Rs.val (.dat (vN y))) = _
    unfold vN; rw [hn]; rfl
  have s3 : ap_ 3 (cq_ i7_ (ab_ 3) (aS_ (aa_ (dM_ eG_ (dOp e4_ (dC (.int 0)) (ab_ 5)) (ab_ 5)) ai_))) E1 = some (.nx (fT row ws (.own cnt) (O (.tuple (ds ++ [.int i]))) (O (.str x)) (O (vN y)) [])) := by
   have r := fq_ (E := E1) (dr := aa_ (dM_ eG_ (dOp e4_ (dC (.int 0)) (ab_ 5)) (ab_ 5)) ai_) (rs := [.val (.dat (.int i))]) (ds := [.int i]) (am_ vi rfl) (by show 1 < 1000; decide) rfl
   have o : cq_ i7_ (ab_ 3) (aS_ (aa_ (dM_ eG_ (dOp e4_ (dC (.int 0)) (ab_ 5)) (ab_ 5)) ai_)) E1 = some (.val (.dat (.tuple (ds ++ [.int i])))) :=
    fp_ (a := .val (.dat (.tuple ds))) (b := .val (.dat (.tuple [.int i]))) (s := .dat (.tuple ds)) (t := .dat (.tuple [.int i])) rfl r rfl rfl (by
     show (if ds.length + 1 < 100000 then some (S.dat (.tuple (ds ++ [.int i]))) else none) = _
     rw [if_pos (by omega)])
   unfold ap_
   rw [o]; rfl
  exact ad_ s1 (ad_ (bF_ t1 rfl) s3)
end
open PySem.NumText (AllDigits digitsVal)
open DQ17 (as_ ay_)
open DQ (c3_ c2_)
open Gn hiding g__law_take g__law_begun d__law_take d__law_begun
open K20 (numF jz_)
section
variable {row w x : Str} {ns : List Str}
def lf_ (ns : List Str) (i : Nat) : Bool := match ns[i]? with | some x => (eR_ x).isNone | none => false
theorem lQ_ : (ns.all fun x => (eR_ x).isSome) = (aK_ (lf_ ns) ns.length 0).isNone := by
 cases h : aK_ (lf_ ns) ns.length 0 with
 | none =>
  have := fb_none.mp h
  rw [Option.isNone_none, List.all_eq_true]
  intro x m
  obtain ⟨i, hi, e⟩ := List.getElem_of_mem m
  have b := this i (Nat.zero_le _) (by omega)
  unfold lf_ at b
  rw [List.getElem?_eq_getElem hi, e] at b
  cases hs : eR_ x with
  | none => simp only [hs] at b; cases b
  | some i => rfl
 | some p =>
  obtain ⟨⟨_, hp⟩, b, _⟩ := fb_some.mp h
  rw [Option.isNone_some]
  apply Bool.eq_false_iff.mpr
  intro z
  rw [List.all_eq_true] at z
  have hp : p < ns.length := by omega
  unfold lf_ at b
  rw [List.getElem?_eq_getElem hp] at b
  have := z ns[p] (List.getElem_mem _)
  cases hs : eR_ ns[p] with
  | none => rw [hs] at this; cases this
  | some i => simp only [hs] at b; cases b
def nO_ : En -> Option Out := d8_ (c5_ (dSl c8_ (ab_ 1) (aV_ (dC (.int 1))) ax_)) (au_ 4) lP_
theorem lR_ (hw : ∀ x ∈ ns, Tx x) (hl : ns.length < 98000) :
  (aK_ (lf_ ns) ns.length 0 = none -> ∃ v4 v5, nO_ (fT row (w :: ns) (.own cnt) (O (.tuple [.str w])) .no .no []) = some (.nx (fT row (w :: ns) (.own cnt) (O (fA_ w ns)) v4 v5 [])) /\ Qd v4 /\ Qd v5) ∧
  ∀ p, aK_ (lf_ ns) ns.length 0 = some p -> ∃ v3 v4 v5, nO_ (fT row (w :: ns) (.own cnt) (O (.tuple [.str w])) .no .no []) = some (.rt (.dat .none) (fT row (w :: ns) (.own cnt) v3 v4 v5 [])) := by
 have hsl : dSl c8_ (ab_ 1) (aV_ (dC (.int 1))) ax_ (fT row (w :: ns) (.own cnt) (O (.tuple [.str w])) .no .no []) = some (.val (dL PyData.str ns)) := h4_ (f := PyData.str) (xs := w :: ns) (k := 1) (r := .pl [1]) rfl (show S.get _ [] = _ from S.get_nil _) rfl
 have hsrc : c5_ (dSl c8_ (ab_ 1) (aV_ (dC (.int 1))) ax_) (fT row (w :: ns) (.own cnt) (O (.tuple [.str w])) .no .no []) = some ⟨fT row (w :: ns) (.own cnt) (O (.tuple [.str w])) .no .no [], [], rdD (ns.map .str), ns.length⟩ := by
  unfold c5_
  rw [hsl]
  show (bc_ (ns.map fun d => S.dat (.str d))).map _ = _
  rw [show bc_ (ns.map fun d => S.dat (.str d)) = some (ns.map .str) from bG_ (f := PyData.str) (xs := ns), Option.map_some, List.length_map]
 have L := eD_ (rd := rdD (ns.map .str)) (bd := au_ 4) (db := lP_)
  (fun i E => ∃ v4 v5, E = fT row (w :: ns) (.own cnt) (O (.tuple (.str w :: (ns.take i).map vI))) v4 v5 [] /\ Qd v4 /\ Qd v5) (fun i o => ∃ v3 v4 v5, o = .rt (.dat .none) (fT row (w :: ns) (.own cnt) v3 v4 v5 [])) (lf_ ns) ns.length
  (fun i E hi hJ => by
   obtain ⟨v4, v5, rfl, q4, q5⟩ := hJ
   have hx : ns[i]? = some ns[i] := List.getElem?_eq_getElem hi
   have htk : ns.take (i + 1) = ns.take i ++ [ns[i]] := (List.take_append_getElem hi).symm
   generalize ns[i] = x at hx htk
   have tx := hw x (List.mem_of_getElem? hx)
   obtain ⟨b1, b2⟩ := nN_ (row := row) (ws := w :: ns) (v2 := .own cnt) (v5 := v5) tx (ds := .str w :: (ns.take i).map vI) (by simp; omega) rfl q5
   refine ⟨_, fT row (w :: ns) (.own cnt) (O (.tuple (.str w :: (ns.take i).map vI))) (O (.str x)) v5 [], mw_ hx, ?_, fun hb => ?_, fun hb => ?_⟩
   ·show some (ak_ _ 4 _) = _
    rcases q4 with rfl | ⟨d, rfl⟩ <;> rcases q5 with rfl | ⟨d, rfl⟩ <;> rfl
   ·unfold lf_ at hb
    rw [hx] at hb
    cases hs : eR_ x with
    | none => exact ⟨_, b1 hs, ⟨_, _, _, rfl⟩, .inl ⟨_, _, rfl⟩⟩
    | some i => simp only [hs] at hb; cases hb
   ·unfold lf_ at hb
    rw [hx] at hb
    cases hs : eR_ x with
    | none => simp only [hs] at hb; cases hb
    | some k =>
     refine ⟨_, b2 k hs, O (.str x), O (vN (if neg x = true then rest x else x)), ?_, .inr ⟨_, rfl⟩, .inr ⟨_, rfl⟩⟩
     rw [htk, List.map_append]
     have : vI x = .int k := by unfold vI; rw [hs]; rfl
     rw [List.map_cons, List.map_nil, this]; rfl)
  (fun E _ => mx_ (f := PyData.str) (Nat.le_refl _)) ns.length 0 ns.length (fT row (w :: ns) (.own cnt) (O (.tuple [.str w])) .no .no []) (by omega) (Nat.le_refl _) ⟨.no, .no, by rw [List.take_zero]; rfl, .inl rfl, .inl rfl⟩
 unfold nO_
 refine ⟨fun h => ?_, fun p h => ?_⟩
 ·obtain ⟨E', hE, v4, v5, rfl, q4, q5⟩ := L.1 h
  rw [List.take_length] at hE
  have := cE_ (E1 := fT row (w :: ns) (.own cnt) (O (fA_ w ns)) v4 v5 []) hsrc (by rw [List.append_nil]; exact hE)
  exact ⟨v4, v5, this, q4, q5⟩
 ·obtain ⟨o, ho, ⟨v3, v4, v5, rfl⟩, _⟩ := L.2 p h
  exact ⟨v3, v4, v5, km_ hsrc (by rw [List.append_nil]; exact ho)⟩
theorem jr_ (t : Tx row) (hws : Txt.split row spS = w :: ns) : K20.g__law_step [.dat (.str row)] = some (.dat (if dK_ w ns = true then fA_ w ns else .none), [.dat (.str row)]) := by
 have tw : ∀ x ∈ w :: ns, Tx x := fun x m => d4_ t co_ (by decide) (by rw [hws]; exact m)
 have hlen : ns.length < 98000 := by have := ds_ t co_ (by decide); rw [hws, List.length_cons] at this; omega
 have s1 : ap_ 1 (a7_ (ab_ 0) (dC (.str " "))) (entry 6 [.dat (.str row)]) = some (.nx (fT row (w :: ns) .no .no .no .no [])) := by
  have sp : a7_ (ab_ 0) (dC (.str " ")) (entry 6 [.dat (.str row)]) = some (.val (dL PyData.str (w :: ns))) := by rw [<- hws]; exact cC_ (y := spS) co_ rfl t.len
  unfold ap_
  rw [sp]; rfl
 have t3 := nM_ (row := row) (w := w) (ns := ns) (v3 := .no) (v4 := .no) (v5 := .no)
 obtain ⟨L1, L2⟩ := lR_ (row := row) (w := w) (fun x m => tw x (List.mem_cons_of_mem _ m)) hlen
 unfold dK_
 rw [lQ_]
 cases h1 : decide (numF w = some (ns.length : Int)) with
 | false =>
  rw [h1] at t3
  exact aU_ (ad_ s1 (ad_ id_ (bu_ (cu_ t3 (aQ_ rfl))))) (by rfl)
 | true =>
  rw [h1] at t3
  rw [Bool.true_and]
  have s4 : ap_ 3 (aS_ (aa_ (aC_ (ab_ 1) (dC (.int 0))) ai_)) (fT row (w :: ns) (.own cnt) .no .no .no []) = some (.nx (fT row (w :: ns) (.own cnt) (O (.tuple [.str w])) .no .no [])) := by
   have r := fq_ (E := fT row (w :: ns) (.own cnt) .no .no .no []) (dr := aa_ (aC_ (ab_ 1) (dC (.int 0))) ai_) (rs := [.val (.dat (.str w))]) (ds := [.str w]) (am_ ix0 rfl) (by show 1 < 1000; decide) rfl
   unfold ap_
   rw [r]; rfl
  cases hf : aK_ (lf_ ns) ns.length 0 with
  | some p =>
   obtain ⟨v3, v4, v5, h⟩ := L2 p hf
   exact aU_ (ad_ s1 (ad_ id_ (ad_ (bF_ t3 rfl) (ad_ s4 (bu_ h))))) (by rfl)
  | none =>
   obtain ⟨v4, v5, h, q4, q5⟩ := L1 hf
   have s6 : aY_ (c6_ 3) (fT row (w :: ns) (.own cnt) (O (fA_ w ns)) v4 v5 []) = some (.rt (.dat (fA_ w ns)) (fT row (w :: ns) (.own cnt) .no v4 v5 [])) := by
    rcases q4 with rfl | ⟨d, rfl⟩ <;> rcases q5 with rfl | ⟨d, rfl⟩ <;> rfl
   exact aU_ (ad_ s1 (ad_ id_ (ad_ (bF_ t3 rfl) (ad_ s4 (ad_ h s6))))) (by rfl)
end
open PySem.NumText (AllDigits digitsVal)
open DQ17 (as_ ay_)
open DQ (c3_ c2_)
open Gn hiding g__law_take g__law_begun d__law_take d__law_begun
open K20 (numF jz_)
def dF_ (r : Str) : Bool := match Txt.split r spS with | w :: ns => dK_ w ns | [] => false
def eS_ (r : Str) : PyData := match Txt.split r spS with | w :: ns => fA_ w ns | [] => .none
def el_ (r : Str) : PyData := if dF_ r = true then eS_ r else .none
theorem fC_ {r : Str} (t : Tx r) : ∃ w ns, Txt.split r spS = w :: ns := by
 obtain ⟨h1, _⟩ := kE_ (z := r) co_ (by decide) t.asc
 cases h : Txt.split r spS with
 | nil => exact absurd h h1
 | cons w ns => exact ⟨w, ns, rfl⟩
theorem nP_ {r : Str} {p : Nat} (t : Tx r) (hp : p < 1000000) : K20.g_read_step [.dat (.int (p : Nat)), .dat (.str r)] = some (if dF_ r = true then .rt (.dat (eS_ r)) else .ex (1000 + p), [.dat (.int (p : Nat)), .dat (.str r)]) := by
 obtain ⟨w, ns, h⟩ := fC_ t
 unfold dF_ eS_
 rw [h]
 exact ic_ t hp h
theorem nQ_ {r : Str} (t : Tx r) : K20.g__law_step [.dat (.str r)] = some (.dat (el_ r), [.dat (.str r)]) := by
 obtain ⟨w, ns, h⟩ := fC_ t
 unfold el_ dF_ eS_
 rw [h]
 exact jr_ t h
def e9_ (rows : List Str) (i : Nat) : Bool := match rows[i]? with | some r => !dF_ r | none => false
def fQ (z : Str) (rows : List Str) (v2 v3 : Sl) (G : En) : En := [.own (.dat (.str z)), .own (dL PyData.str rows), v2, v3, .own (.dat (.str z))] ++ G
section
variable {z : Str} {rows : List Str}
def dxR : En -> Option (Rx × En) := eW_ K20.g_read_step (aa_ (ab_ 2) (aa_ (ab_ 3) ai_))
def bdR : Rs -> En -> Option En := fJ_ 2 (aX_ (au_ 2) (aX_ (au_ 3) e6_))
def Eb (z : Str) (rows : List Str) : En := fQ z rows .no .no [.bor [1]]
def cR (z : Str) (rows : List Str) : Src := ⟨fQ z rows .no .no [], [.bor [1]], rdP, rows.length⟩
theorem lS_ : c5_ (ab_ 1) (fQ z rows .no .no []) = some (cR z rows) := by
 show some (Src.mk _ [.bor [1]] rdP (rows.map fun d => S.dat (.str d)).length) = _
 rw [List.length_map]; rfl
theorem qq_ {i : Nat} {r : Str} (h : rows[i]? = some r) : jx_ rdP (Eb z rows) i = some (some (.val (.dat (.tuple [.int (i : Nat), .str r])))) := by
 unfold jx_
 rw [mu_ (E := Eb z rows) (f := PyData.str) (l := rows) (p := [1]) (x := r) rfl (show S.get (dL PyData.str rows) [] = _ from S.get_nil _) h]
 rfl
theorem qr_ {i : Nat} (h : rows.length <= i) : jx_ rdP (Eb z rows) i = some none := by
 unfold jx_
 rw [mv_ (E := Eb z rows) (f := PyData.str) (l := rows) (p := [1]) rfl (show S.get (dL PyData.str rows) [] = _ from S.get_nil _) h]
theorem qs_ (hw : ∀ r ∈ rows, Tx r) (hl : rows.length < 99999) : ∀ (m i fuel : Nat) (acc : List S), i + m = rows.length -> m <= fuel -> acc.length <= i →
  dLcGX (jx_ rdP) [2, 3] bdR cs_ dxR fuel i acc (Eb z rows) = some (match aK_ (e9_ rows) m i with | some p => .inr (1000 + p) | none => .inl (acc ++ (rows.drop i).map fun r => S.dat (eS_ r)), Eb z rows) := by
 intro m
 induction m with
 | zero =>
  intro i fuel acc hi _ _
  have : i = rows.length := by omega
  subst this
  rw [dLcGX.eq_def]
  simp only [qr_ (z := z) (Nat.le_refl rows.length)]
  unfold aK_
  simp
 | succ m ih =>
  intro i fuel acc hi hf ha
  cases fuel with
  | zero => omega
  | succ fuel =>
   have hil : i < rows.length := by omega
   have hx : rows[i]? = some rows[i] := List.getElem?_eq_getElem hil
   rw [List.drop_eq_getElem_cons hil]
   generalize rows[i] = r at hx
   have tr := hw r (List.mem_of_getElem? hx)
   have hb : bdR (.val (.dat (.tuple [.int (i : Nat), .str r]))) (Eb z rows) = some (fQ z rows (O (.int (i : Nat))) (O (.str r)) [.bor [1]]) := rfl
   have hd : dxR (fQ z rows (O (.int (i : Nat))) (O (.str r)) [.bor [1]]) = some (if dF_ r = true then .rt (.dat (eS_ r)) else .ex (1000 + i), fQ z rows (O (.int (i : Nat))) (O (.str r)) [.bor [1]]) :=
    gN_ (rs := [.val (.dat (.int (i : Nat))), .val (.dat (.str r))]) rfl rfl rfl (nP_ tr (by omega))
   have hwp : dh_ (fQ z rows (O (.int (i : Nat))) (O (.str r)) [.bor [1]]) [2, 3] = Eb z rows := rfl
   rw [dLcGX.eq_def]
   simp only [qq_ (z := z) hx, hb, show cs_ (fQ z rows (O (.int (i : Nat))) (O (.str r)) [.bor [1]]) = some (true, fQ z rows (O (.int (i : Nat))) (O (.str r)) [.bor [1]]) from rfl, hd]
   unfold aK_
   have hbr : e9_ rows i = !dF_ r := by unfold e9_; rw [hx]
   rw [hbr]
   cases hok : dF_ r with
   | true =>
    simp only [if_true, Bool.not_true, Bool.false_eq_true, if_false, hwp]
    rw [if_pos (by omega), ih (i + 1) fuel (acc ++ [S.dat (eS_ r)]) (by omega) (by omega) (by simp; omega)]
    congr 2
    cases aK_ (e9_ rows) m (i + 1) with
    | some p => rfl
    | none => simp
   | false =>
    simp only [Bool.false_eq_true, if_false, Bool.not_false, if_true, hwp]
theorem qt_ (hw : ∀ r ∈ rows, Tx r) (hl : rows.length < 99999) : od_ (hl_ (ab_ 1)) [2, 3] bdR cs_ dxR (fQ z rows .no .no []) = some (match aK_ (e9_ rows) rows.length 0 with | some p => .ex (1000 + p) | none => .rt (dL eS_ rows), fQ z rows .no .no []) := by
 unfold od_ hl_
 rw [lS_]
 have h := qs_ (z := z) hw hl rows.length 0 rows.length [] (by omega) (Nat.le_refl _) (Nat.le_refl _)
 have e0 : dh_ (fQ z rows .no .no [] ++ [.bor [1]]) [2, 3] = Eb z rows := rfl
 simp only [Option.map_some]
 show (match dLcGX (jx_ rdP) [2, 3] bdR cs_ dxR rows.length 0 [] (dh_ (fQ z rows .no .no [] ++ [.bor [1]]) [2, 3]) with | some (res, E') => some (oT_ res, cz_ (cR z rows) E') | none => none) = _
 rw [e0, h]
 have e1 : cz_ (cR z rows) (Eb z rows) = fQ z rows .no .no [] := rfl
 simp only [e1]
 congr 2
 cases aK_ (e9_ rows) rows.length 0 with
 | some p => rfl
 | none => simp only [List.nil_append, List.drop_zero]; rfl
end
def az_ (z : Str) : List Str := if z.length = 0 then [] else Txt.split z nlS
theorem ie_ {z : Str} (t : Tx z) : (∀ r ∈ az_ z, Tx r) /\ (az_ z).length < 99000 := by
 unfold az_
 by_cases h : z.length = 0
 ·rw [if_pos h]; exact ⟨fun r m => (nomatch m), by simp⟩
 ·rw [if_neg h]
  exact ⟨fun r m => d4_ t eF_ (by decide) m, by have := ds_ t eF_ (by decide); omega⟩
theorem eT_ {z : Str} (t : Tx z) : K20.g_read_steps [.dat (.str z)] = some (match aK_ (e9_ (az_ z)) (az_ z).length 0 with | some p => .ex (1000 + p) | none => .rt (dL eS_ (az_ z)), [.dat (.str z)]) := by
 obtain ⟨hw, hl⟩ := ie_ t
 have hs : z.length <= sizeLine := by have := t.len; rw [sizeLine_eq]; omega
 have s1 : ap_ 1 (dM_ (kt_ (ab_ 0)) (a7_ (ab_ 0) (dC (.str "\n"))) (ba_ ai_)) (entry 4 [.dat (.str z)]) = some (.nx (fQ z (az_ z) .no .no [])) := by
  have tr : kt_ (ab_ 0) (entry 4 [.dat (.str z)]) = some ((z.length : Int) != 0) := by
   show (if z.length <= sizeLine then some ((z.length : Int) != 0) else none) = _
   rw [if_pos hs]
  unfold ap_ dM_ az_
  rw [tr]
  by_cases h : z.length = 0
  ·rw [if_pos h, h]; rfl
  ·rw [if_neg h]
   have : ((z.length : Int) != 0) = true := by simp; omega
   rw [this]
   have sp : a7_ (ab_ 0) (dC (.str "\n")) (entry 4 [.dat (.str z)]) = some (.val (dL PyData.str (Txt.split z nlS))) := cC_ (y := nlS) eF_ rfl t.len
   simp only [sp]; rfl
 have r := qt_ (z := z) hw (by omega)
 have s2 : j5_ (od_ (hl_ (ab_ 1)) [2, 3] bdR cs_ dxR) (fQ z (az_ z) .no .no []) = some (match aK_ (e9_ (az_ z)) (az_ z).length 0 with | some p => .ex (1000 + p) (fQ z (az_ z) .no .no []) | none => .rt (dL eS_ (az_ z)) (fQ z (az_ z) .no .no [])) := by
  unfold j5_
  rw [r]
  cases aK_ (e9_ (az_ z)) (az_ z).length 0 <;> rfl
 cases hf : aK_ (e9_ (az_ z)) (az_ z).length 0 with
 | some p =>
  rw [hf] at s2
  exact eE_ (ad_ s1 s2) (by rfl)
 | none =>
  rw [hf] at s2
  exact h8_ (ad_ s1 s2) (by rfl)
end D20
namespace DQ17
open PySem PySem.Spec PyProof.Rows L2 Mv Gn NX
theorem iX_ {g : List S -> Option (S × List S)} {x : Sl} {s : S} {D : PyData} {ds : List PyData} (hl : ds.length < 900000) (hx : x = .bor [3] ∨ ∃ a, x = .own a)
  (hlen : bp_ (ab_ 1) (EA x s D .no) = some (.val (.dat (.int (ds.length : Nat)))))
  (h : ∀ (i : Nat) (d : PyData), ds[i]? = some d -> eL_ (ab_ 0) (ab_ 2) (EA x s D (I i)) = some (.val (.dat d)) /\ eL_ (ab_ 1) (ab_ 2) (EA x s D (I i)) = some (.val (.dat d)) /\ g [.dat d, .dat d] = some (.dat (.bool true), [.dat d, .dat d])) :
  d8_ (by_ (bp_ (ab_ 1))) (au_ 2) (alB g) (EA x s D .no) = some (.nx (EA x s D (al2 ds.length))) := by
 have src : by_ (bp_ (ab_ 1)) (EA x s D .no) = some ⟨EA x s D .no, [], fun _ i => some (if i < ((ds.length : Nat) : Int).toNat then some (.val (.dat (.int (i : Nat)))) else none), ((ds.length : Nat) : Int).toNat⟩ := cg_ hlen (by omega) (by omega)
 have lp := j4_ (rd := fun _ i => some (if i < ((ds.length : Nat) : Int).toNat then some (.val (.dat (.int (i : Nat)))) else none)) (bd := au_ 2) (db := alB g) (fun i => EA x s D (al2 i)) ds.length (fun i hi => by
  obtain ⟨q1, q2, q3⟩ := h i _ (List.getElem?_eq_getElem hi)
  refine ⟨.val (.dat (.int (i : Nat))), EA x s D (I i), ?_, ?_, kN_ q1 q2 hx q3⟩
  ·rw [Int.toNat_natCast, if_pos hi]
  ·cases i <;> rcases hx with rfl | ⟨_, rfl⟩ <;> rfl) (by rw [Int.toNat_natCast, if_neg (Nat.lt_irrefl _)]) ds.length 0 ds.length (by omega) (Nat.le_refl _)
 have := cE_ (bd := au_ 2) (db := alB g) (E1 := EA x s D (al2 ds.length)) src (by
  rw [Int.toNat_natCast] at lp ⊢
  exact lp)
 exact this
theorem al_tupB {j : Nat} {ds : List PyData} (hl : ds.length < 900000) (hs : ∀ (i : Nat) (d : PyData), ds[i]? = some d -> K17.g__law_alike j [.dat d, .dat d] = some (.dat (.bool true), [.dat d, .dat d])) :
  K17.g__law_alike (j + 1) [.dat (.tuple ds), .dat (.tuple ds)] = some (.dat (.bool true), [.dat (.tuple ds), .dat (.tuple ds)]) := by
 let D : PyData := .tuple ds
 let E0 : En := EA (.own (.dat D)) (.dat D) D .no
 have hlen : ∀ i, (i = 0 ∨ i = 1) -> bp_ (ab_ i) E0 = some (.val (.dat (.int (ds.length : Nat)))) := fun i hi => by rcases hi with rfl | rfl <;> rfl
 have ix : ∀ i k d, (i = 0 ∨ i = 1) -> ds[k]? = some d -> eL_ (ab_ i) (ab_ 2) (EA (.own (.dat D)) (.dat D) D (I (k : Nat))) = some (.val (.dat d)) := fun i k d hi hk => by
  rcases hi with rfl | rfl <;> exact o7_ rfl (o5_ (ds := ds) rfl rfl (by omega) (by simpa using hk))
 have lp := iX_ (g := K17.g__law_alike j) (x := .own (.dat D)) (s := .dat D) (D := D) hl (.inr ⟨_, rfl⟩) (hlen 1 (.inr rfl)) (fun i d hd => ⟨ix 0 i d (.inl rfl) hd, ix 1 i d (.inr rfl) hd, hs i d hd⟩)
 have c6 : dIf (ao_ (aj_ (dOp dD_ (bp_ (ab_ 0)) (bp_ (ab_ 1))))) (aY_ (ae_ (dC (.bool false)))) aH_ E0 = some (.nx E0) :=
  bF_ (E1 := E0) (pureT_go (as_ (ay_ (hlen 0 (.inl rfl)) (hlen 1 (.inr rfl)) (gO_ _)))) rfl
 exact aU_ (E := EA (.own (.dat D)) (.dat D) D (al2 ds.length)) (ad_ (E1 := E0) rfl (ad_ (E1 := E0) rfl (ad_ (E1 := E0) rfl (ad_ (E1 := E0) rfl (ad_ (E1 := E0) rfl (ad_ c6 (ad_ lp rfl))))))) rfl
theorem al_lstB {j : Nat} {α : Type} {f : α -> PyData} {xs : List α} (hl : xs.length < 900000) (hs : ∀ a ∈ xs, K17.g__law_alike j [.dat (f a), .dat (f a)] = some (.dat (.bool true), [.dat (f a), .dat (f a)])) :
  K17.g__law_alike (j + 1) [.dat (.list (xs.map f)), .dat (.list (xs.map f))] = some (.dat (.bool true), [.dat (.list (xs.map f)), .dat (.list (xs.map f))]) := by
 let D : PyData := .list (xs.map f)
 let E0 : En := EA (.own (.dat D)) (.dat D) D .no
 have h0 : bp_ (ab_ 0) E0 = some (.val (.dat (.int (xs.length : Nat)))) := Gn.len_dat (f := f) rfl
 have h1 : bp_ (ab_ 1) E0 = some (.val (.dat (.int (xs.length : Nat)))) := Gn.len_dat (f := f) rfl
 have lp := iX_ (g := K17.g__law_alike j) (x := .own (.dat D)) (s := .dat D) (D := D) (ds := xs.map f) (by rw [List.length_map]; exact hl) (.inr ⟨_, rfl⟩) (by rw [List.length_map]; exact h1) (fun i d hd => by
  obtain ⟨a, ha, rfl⟩ : ∃ a, xs[i]? = some a /\ f a = d := by
   rw [List.getElem?_map] at hd
   exact Option.map_eq_some_iff.mp hd
  exact ⟨o6_ (ixD (f := f) rfl rfl ha), o6_ (ixD (f := f) rfl rfl ha), hs a (List.mem_of_getElem? ha)⟩)
 have c6 : dIf (ao_ (aj_ (dOp dD_ (bp_ (ab_ 0)) (bp_ (ab_ 1))))) (aY_ (ae_ (dC (.bool false)))) aH_ E0 = some (.nx E0) :=
  bF_ (E1 := E0) (pureT_go (as_ (ay_ h0 h1 (gO_ _)))) rfl
 exact aU_ (E := EA (.own (.dat D)) (.dat D) D (al2 (xs.map f).length)) (ad_ (E1 := E0) rfl (ad_ (E1 := E0) rfl (ad_ (E1 := E0) rfl (ad_ (E1 := E0) rfl (ad_ (E1 := E0) rfl (ad_ c6 (ad_ lp rfl))))))) rfl
end DQ17
namespace D20
open PySem PySem.Spec PyProof.Rows L2 Mv TL DT
open PySem.NumText (AllDigits digitsVal)
open DQ17 (as_ ay_)
open DQ (c3_ c2_)
open Gn hiding g__law_take g__law_begun d__law_take d__law_begun
open K20 (numF jz_)
theorem pd_ {w : Str} {j : Nat} {i : Int} (h : PyData.strOk w = true) : K17.g__law_alike (j + 2) [.dat (.tuple [.str w, .int i]), .dat (.tuple [.str w, .int i])] = some (.dat (.bool true), [.dat (.tuple [.str w, .int i]), .dat (.tuple [.str w, .int i])]) := by
 refine DQ17.al_tup (ds := [.str w, .int i]) (j := j + 1) (show 2 < 900 by decide) fun m x hx => ?_
 match m, hx with
 | 0, hx => cases hx; exact kO_ h
 | 1, hx => cases hx; exact DQ17.al_int i
 | _ + 2, hx => cases hx
theorem mD_ (p : Nat) : alk (bt p) := pd_ (j := 7) (by decide +kernel)
theorem pe_ : alk (jy_ 17) := pd_ (w := "BadEdition") (i := 0) (j := 7) (by decide +kernel)
theorem pf_ {e : Ed} (h : e.own.length = 12) : alk e.d := by
 refine DQ17.al_tup (ds := [.int e.num, DQ.oI e.make, DQ.tD e.own]) (j := 8) (show 3 < 900 by decide) fun i d hd => ?_
 match i, hd with
 | 0, hd => cases hd; exact DQ17.al_int _
 | 1, hd => cases hd; cases e.make with
  | none => exact DQ17.al_none
  | some k => exact DQ17.al_int k
 | 2, hd =>
  cases hd
  refine DQ17.al_tup (ds := e.own.map .int) (j := 7) (by rw [List.length_map]; omega) fun i d hd => ?_
  obtain ⟨o, _, rfl⟩ := List.mem_map.mp (List.mem_of_getElem? hd)
  exact DQ17.al_int o
 | _ + 3, hd => cases hd
theorem kR_ {z : Str} (t : Asc (tl z)) : PyData.strOk z = true := by
 unfold PyData.strOk
 rw [<- Array.all_toList, List.all_eq_true]
 intro c m
 have := t c m
 simp; omega
theorem gP_ {r : Str} (t : Tx r) : ∃ w ns, Tx w /\ ns.length < 99000 /\ eS_ r = fA_ w ns := by
 obtain ⟨w, ns, h⟩ := fC_ t
 refine ⟨w, ns, d4_ t co_ (by decide) (by rw [h]; simp), ?_, by unfold eS_; rw [h]⟩
 have := ds_ t co_ (by decide)
 rw [h, List.length_cons] at this
 omega
theorem pg_ {r : Str} (t : Tx r) {j : Nat} : K17.g__law_alike (j + 2) [.dat (eS_ r), .dat (eS_ r)] = some (.dat (.bool true), [.dat (eS_ r), .dat (eS_ r)]) := by
 obtain ⟨w, ns, tw, hn, e⟩ := gP_ t
 rw [e]
 refine DQ17.al_tupB (ds := .str w :: ns.map vI) (j := j + 1) (by simp; omega) fun i d hd => ?_
 rcases List.mem_cons.mp (List.mem_of_getElem? hd) with rfl | m
 ·exact kO_ (kR_ tw.asc)
 ·obtain ⟨x, _, rfl⟩ := List.mem_map.mp m
  exact DQ17.al_int _
theorem lT_ {rows : List Str} (hw : ∀ r ∈ rows, Tx r) (hl : rows.length < 99000) : alk (.list (rows.map eS_)) := DQ17.al_lstB (f := eS_) (j := 8) (by omega) fun r m => pg_ (hw r m)
theorem js_ {r : Str} (t : Tx r) : (el_ r).canLay0 = true /\ (el_ r).depth <= 3 := by
 unfold el_
 by_cases h : dF_ r = true
 ·rw [if_pos h]
  obtain ⟨w, ns, tw, hn, e⟩ := gP_ t
  rw [e]
  have c : ∀ ns : List Str, PyData.canLayAll0 (ns.map vI) = true /\ PyData.depthAll (ns.map vI) = 0 := by
   intro ns
   induction ns with
   | nil => exact ⟨rfl, rfl⟩
   | cons a r ih => exact ⟨by rw [List.map_cons, PyData.canLayAll0, ih.1]; rfl, by rw [List.map_cons, PyData.depthAll, ih.2]; rfl⟩
  unfold fA_
  refine ⟨?_, ?_⟩
  ·rw [PyData.canLay0, PyData.canLayAll0, (c ns).1, PyData.canLay0, kR_ tw.asc]; rfl
  ·rw [PyData.depth, PyData.depthAll, (c ns).2, PyData.depth]; decide
 ·rw [if_neg h]; exact ⟨rfl, Nat.zero_le _⟩
theorem gQ_ {r : Str} (t : Tx r) : PyData.eqv (el_ r) .none = !dF_ r := by
 unfold el_
 cases h : dF_ r with
 | true =>
  obtain ⟨w, ns, tw, hn, e⟩ := gP_ t
  rw [if_pos rfl, e]; rfl
 | false => rw [if_neg Bool.false_ne_true]; rfl
def fK (z : Str) (v1 v2 : Sl) (G : En) : En := [.own (.dat (.str z)), v1, v2, .own (.dat (.str z))] ++ G
section
variable {z : Str} {rows : List Str}
theorem nR_ (hw : ∀ r ∈ rows, Tx r) : ((rows.map el_).any fun d => PyData.eqv d .none) = (aK_ (e9_ rows) rows.length 0).isSome := by
 cases h : aK_ (e9_ rows) rows.length 0 with
 | none =>
  have hn := fb_none.mp h
  rw [Option.isSome_none]
  apply Bool.eq_false_iff.mpr
  intro q
  rw [List.any_eq_true] at q
  obtain ⟨d, m, e⟩ := q
  obtain ⟨r, mr, rfl⟩ := List.mem_map.mp m
  obtain ⟨i, hi, er⟩ := List.getElem_of_mem mr
  have := hn i (Nat.zero_le _) (by omega)
  unfold e9_ at this
  rw [List.getElem?_eq_getElem hi, er] at this
  rw [gQ_ (hw r mr)] at e
  have this : (!dF_ r) = false := this
  rw [e] at this; cases this
 | some p =>
  obtain ⟨⟨_, hp⟩, b, _⟩ := fb_some.mp h
  have hp : p < rows.length := by omega
  rw [Option.isSome_some, List.any_eq_true]
  refine ⟨el_ rows[p], List.mem_map.mpr ⟨_, List.getElem_mem _, rfl⟩, ?_⟩
  rw [gQ_ (hw _ (List.getElem_mem _))]
  unfold e9_ at b
  rw [List.getElem?_eq_getElem hp] at b
  exact b
theorem lU_ (hw : ∀ r ∈ rows, Tx r) {p : Nat} (h : aK_ (e9_ rows) rows.length 0 = some p) : (rows.map el_).findIdx? (fun d => PyData.eqv d .none) = some p := by
 obtain ⟨⟨_, hp⟩, b, c⟩ := fb_some.mp h
 have hp : p < rows.length := by omega
 rw [List.findIdx?_eq_some_iff_getElem]
 refine ⟨by rw [List.length_map]; exact hp, ?_, fun j hj => ?_⟩
 ·rw [List.getElem_map, gQ_ (hw _ (List.getElem_mem _))]
  unfold e9_ at b
  rw [List.getElem?_eq_getElem hp] at b
  exact b
 ·rw [List.getElem_map, gQ_ (hw _ (List.getElem_mem _))]
  have := c j (Nat.zero_le _) hj
  unfold e9_ at this
  rw [List.getElem?_eq_getElem (by omega : j < rows.length)] at this
  have this : (!dF_ rows[j]) = false := this
  rw [this]; exact Bool.false_ne_true
theorem kS_ (hw : ∀ r ∈ rows, Tx r) : SeqAt.shaped (.list (rows.map el_)) = true := f4_ fun d m => by
 obtain ⟨r, mr, rfl⟩ := List.mem_map.mp m
 exact js_ (hw r mr)
theorem if_ (t : Tx z) : K20.g__law_steps [.dat (.str z)] = some (match aK_ (e9_ (az_ z)) (az_ z).length 0 with | some p => .dat (bt p) | none => dL el_ (az_ z), [.dat (.str z)]) := by
 obtain ⟨hw, hl⟩ := ie_ t
 let E1 := fK z (.own (dL el_ (az_ z))) .no []
 have s1 : cd_ 1 (hg_ (ao_ (aj_ (dOp dD_ (ab_ 0) (dC (.str ""))))) (eLc (c5_ (a7_ (ab_ 0) (dC (.str "\n")))) 2 cs_ (ag_ K20.g__law_step (aa_ (ab_ 2) ai_))) (ae_ (ba_ ai_))) (entry 3 [.dat (.str z)]) = some (.nx E1) := by
  have tt : ao_ (aj_ (dOp dD_ (ab_ 0) (dC (.str "")))) (entry 3 [.dat (.str z)]) = some (!decide (z.length = 0), entry 3 [.dat (.str z)]) := by
   refine pureT_go ((as_ (b := !decide (z = ("" : Str))) (ay_ (a := .str z) (b := .str "") rfl rfl rfl)).trans ?_)
   congr 2
   rw [Bool.eq_iff_iff, decide_eq_true_eq, decide_eq_true_eq, ez, len_tl, show tl ("" : Str) = [] from by decide +kernel, List.length_eq_zero_iff]
  have r : hg_ (ao_ (aj_ (dOp dD_ (ab_ 0) (dC (.str ""))))) (eLc (c5_ (a7_ (ab_ 0) (dC (.str "\n")))) 2 cs_ (ag_ K20.g__law_step (aa_ (ab_ 2) ai_))) (ae_ (ba_ ai_)) (entry 3 [.dat (.str z)]) = some (dL el_ (az_ z), entry 3 [.dat (.str z)]) := by
   unfold hg_
   rw [tt]
   by_cases h : z.length = 0
   ·rw [decide_eq_true h]
    unfold az_
    rw [if_pos h]; rfl
   ·rw [decide_eq_false h]
    have e : az_ z = Txt.split z nlS := by unfold az_; rw [if_neg h]
    have sp : a7_ (ab_ 0) (dC (.str "\n")) (entry 3 [.dat (.str z)]) = some (.val (dL PyData.str (az_ z))) := by rw [e]; exact cC_ (y := nlS) eF_ rfl t.len
    have hsrc : c5_ (a7_ (ab_ 0) (dC (.str "\n"))) (entry 3 [.dat (.str z)]) = some ⟨entry 3 [.dat (.str z)], [], rdD ((az_ z).map .str), (az_ z).length⟩ := by
     unfold c5_
     rw [sp]
     show (bc_ ((az_ z).map fun d => S.dat (.str d))).map _ = _
     rw [show bc_ ((az_ z).map fun d => S.dat (.str d)) = some ((az_ z).map .str) from bG_ (f := PyData.str), Option.map_some, List.length_map]
    exact lcD (xs := az_ z) (f := PyData.str) (g := fun r => S.dat (el_ r)) (by omega) hsrc (E0 := entry 3 [.dat (.str z)]) rfl fun r m => ⟨fK z .no (O (.str r)) [], rfl, eCall_go (rs := [.val (.dat (.str r))]) rfl rfl rfl (nQ_ (hw r m)), rfl⟩
  unfold cd_
  rw [r]; rfl
 have tin : ao_ (aj_ (cq_ (ne_ false) (dC .none) (ab_ 1))) E1 = some ((aK_ (e9_ (az_ z)) (az_ z).length 0).isSome, E1) := by
  refine pureT_go (as_ ?_)
  rw [<- nR_ hw]
  refine fp_ (a := .val (.dat .none)) (b := .pl [1]) (s := .dat .none) (t := dL el_ (az_ z)) rfl rfl rfl (show S.get (dL el_ (az_ z)) [] = _ from S.get_nil _) ?_
  unfold ne_
  simp only [bG_]
  rw [if_pos ⟨rfl, kS_ hw⟩]
  cases ((az_ z).map el_).any fun d => PyData.eqv d .none <;> rfl
 cases hf : aK_ (e9_ (az_ z)) (az_ z).length 0 with
 | none =>
  rw [hf] at tin
  have r : hg_ (ao_ (aj_ (cq_ (ne_ false) (dC .none) (ab_ 1)))) (bh_ (an_ (dC (.str "BadText")) (af_ (dH_ cF_ (ab_ 1) (dC .none)) aJ_)) fun k => ae_ (aS_ (ct_ k))) (c6_ 1) E1 = some (dL el_ (az_ z), fK z .no .no []) := by
   unfold hg_
   rw [tin]; rfl
  exact aU_ (ad_ s1 (aQ_ r)) (by rfl)
 | some p =>
  rw [hf] at tin
  have hx : dH_ cF_ (ab_ 1) (dC .none) (E1 ++ [O (.str "BadText")]) = some (.dat (.int (p : Nat)), E1 ++ [O (.str "BadText")]) := by
   have e0 : ab_ 1 (E1 ++ [O (.str "BadText")]) = some (.pl [1]) := rfl
   have e1 : aZ_ (E1 ++ [O (.str "BadText")]) [1] = some (dL el_ (az_ z)) := S.get_nil _
   have e2 : cF_ (dL el_ (az_ z)) (.dat .none) = some (dL el_ (az_ z), .dat (.int (p : Nat))) := by
    unfold cF_ dL
    have := kn_ (f := el_) (xs := az_ z)
    unfold dL at this
    simp only [this]
    rw [if_pos ⟨kS_ hw, rfl⟩, lU_ hw hf]
   unfold dH_
   rw [e0]
   simp only [e1]
   show g8_ cF_ (ab_ 1) (dC .none) (E1 ++ [O (.str "BadText")]) = _
   unfold g8_
   rw [e0]
   simp only [show dC PyData.none (E1 ++ [O (.str "BadText")]) = some (.val (.dat .none)) from rfl, e1, e2]
   have e3 : bA_ (E1 ++ [O (.str "BadText")]) [1] (dL el_ (az_ z)) = E1 ++ [O (.str "BadText")] := by
    show (E1 ++ [O (.str "BadText")]).set 1 (.own (S.put (dL el_ (az_ z)) [] (dL el_ (az_ z)))) = _
    rw [S.put_nil]; rfl
   rw [e3]; rfl
  have l : an_ (dC (.str "BadText")) (af_ (dH_ cF_ (ab_ 1) (dC .none)) aJ_) E1 = some (2, E1 ++ [O (.str "BadText"), O (.int (p : Nat))]) := lP_own rfl (lE_go hx rfl)
  have r : hg_ (ao_ (aj_ (cq_ (ne_ false) (dC .none) (ab_ 1)))) (bh_ (an_ (dC (.str "BadText")) (af_ (dH_ cF_ (ab_ 1) (dC .none)) aJ_)) fun k => ae_ (aS_ (ct_ k))) (c6_ 1) E1 = some (.dat (bt p), E1) := by
   unfold hg_
   rw [tin]
   exact eff_go (A := E1) (B := E1) (G := [O (.str "BadText"), O (.int (p : Nat))]) (G2 := [O (.str "BadText"), O (.int (p : Nat))]) (dc := fun k => ae_ (aS_ (ct_ k))) l rfl rfl rfl
  exact aU_ (ad_ s1 (aQ_ r)) (by rfl)
end
end D20
set_option maxHeartbeats 4000000
set_option maxHeartbeats 1000000
namespace DT
open PySem PySem.Spec PyProof.Rows L2 Mv TL
open Gn hiding g__law_take g__law_begun d__law_take d__law_begun v_begun eBg
theorem ph_ {i j : Int} (h : 0 < j) (h2 : j < 18446744073709551616) : eX_ (.int i) (.int j) = some (.int (i / j)) := if_pos ⟨h, h2⟩
theorem v_take {ns : List Int} {st many : Int} (h0 : 0 < many) (h1 : many < 18446744073709551616) (hl : ns.length < 1000) : ∃ r ns' st', 0 <= r /\ r < many /\ ns'.length <= ns.length /\ K19.g__law_take [bx ns st, .dat (.int many)] = some (.dat (.int r), [bx ns' st', .dat (.int many)]) := by
 cases ns with
 | nil =>
  let E0 : En := [.bor [3], .own (.dat (.int many)), .no, .own (bx [] st), .own (.dat (.int many))]
  have hc : ao_ (aj_ (dOp e5_ (aC_ (ab_ 0) (dC (.int 0))) (ba_ ai_))) E0 = some (true, E0) := by
   have a1 : dOp e5_ (aC_ (ab_ 0) (dC (.int 0))) (ba_ ai_) E0 = some (.val (.dat (.bool true))) := bs_ (a := .pl [3, 0]) (b := .val (.lst [])) (x := .list []) (y := .list []) rfl rfl rfl rfl (lA_ [])
   unfold ao_ aj_
   rw [a1]; rfl
  have a0 : aC_ (ab_ 0) (dC (.int 1)) E0 = some (.val (.dat (.int st))) := rfl
  have a1 : dOp fG_ (dOp fh_ (aC_ (ab_ 0) (dC (.int 1))) (dC (.int 48271))) (dC (.int 2147483647)) E0 = some (.val (.dat (.int (st * 48271 % 2147483647)))) :=
   bs_ (bs_ a0 rfl rfl rfl (pQ_ (by omega))) rfl rfl rfl (pR_ (by omega))
  generalize hst : st * 48271 % 2147483647 = st' at a1
  have a2 : eV_ (ab_ 0) (dC (.int 1)) (ae_ (dOp fG_ (dOp fh_ (aC_ (ab_ 0) (dC (.int 1))) (dC (.int 48271))) (dC (.int 2147483647)))) E0 = some (.nx [.bor [3], .own (.dat (.int many)), .no, .own (bx [] st'), .own (.dat (.int many))]) := by
   have e1 : ae_ (dOp fG_ (dOp fh_ (aC_ (ab_ 0) (dC (.int 1))) (dC (.int 48271))) (dC (.int 2147483647))) E0 = some (.dat (.int st'), E0) := by unfold ae_; rw [a1]
   unfold eV_
   rw [e1]; rfl
  let E1 : En := [.bor [3], .own (.dat (.int many)), .no, .own (bx [] st'), .own (.dat (.int many))]
  have a3 : dOp fG_ (dOp eX_ (aC_ (ab_ 0) (dC (.int 1))) (dC (.int 7))) (ab_ 1) E1 = some (.val (.dat (.int (st' / 7 % many)))) :=
   bs_ (bs_ (x := .int st') rfl rfl rfl rfl (ph_ (by omega) (by omega))) rfl rfl rfl (pR_ h0)
  have a4 : aY_ (ae_ (dOp fG_ (dOp eX_ (aC_ (ab_ 0) (dC (.int 1))) (dC (.int 7))) (ab_ 1))) E1 = some (.rt (.dat (.int (st' / 7 % many))) E1) := by
   unfold aY_ ae_
   rw [a3]
  exact ⟨st' / 7 % many, [], st', Int.emod_nonneg _ (by omega), Int.emod_lt_of_pos _ h0, Nat.le_refl _, aU_ (bu_ (cu_ hc (ad_ a2 a4))) rfl⟩
 | cons a t =>
  let E0 : En := [.bor [3], .own (.dat (.int many)), .no, .own (bx (a :: t) st), .own (.dat (.int many))]
  have hc : ao_ (aj_ (dOp e5_ (aC_ (ab_ 0) (dC (.int 0))) (ba_ ai_))) E0 = some (false, E0) := by
   have a1 : dOp e5_ (aC_ (ab_ 0) (dC (.int 0))) (ba_ ai_) E0 = some (.val (.dat (.bool false))) := by
    refine bs_ (a := .pl [3, 0]) (b := .val (.lst [])) (x := .list ((a :: t).map .int)) (y := .list []) rfl rfl (oO_ (a :: t)) rfl ?_
    unfold e5_
    rw [if_pos ⟨cU_ (a :: t), cU_ []⟩]; rfl
   unfold ao_ aj_
   rw [a1]; rfl
  let E1 : En := [.bor [3], .own (.dat (.int many)), .own (.dat (.int a)), .own (bx (a :: t) st), .own (.dat (.int many))]
  have hix : ∀ (b : Int) (E : En), ab_ 0 E = some (.pl [3]) -> aZ_ E [3] = some (bx (b :: t) st) -> aZ_ E [3, 0] = some (lI (b :: t)) -> aC_ (aC_ (ab_ 0) (dC (.int 0))) (dC (.int 0)) E = some (.val (.dat (.int b))) := fun b E e1 e2 e3 => by
   have i1 : aC_ (ab_ 0) (dC (.int 0)) E = some (.pl [3, 0]) := by
    unfold aC_
    rw [e1]
    show (match aZ_ E [3] with | some (.lst ss) => _ | some (.dat (.list ds)) => _ | _ => none) = _
    rw [e2]; rfl
   exact qe_ (k := 0) (ns := b :: t) i1 e3 rfl rfl
  have c1 : ap_ 2 (aC_ (aC_ (ab_ 0) (dC (.int 0))) (dC (.int 0))) E0 = some (.nx E1) := by
   unfold ap_
   rw [hix a E0 rfl rfl rfl]; rfl
  have a2 : dOp eX_ (ab_ 2) (ab_ 1) E1 = some (.val (.dat (.int (a / many)))) := bs_ rfl rfl rfl rfl (ph_ h0 (by omega))
  generalize hq : a / many = q at a2
  let E2 : En := [.bor [3], .own (.dat (.int many)), .own (.dat (.int a)), .own (bx (q :: t) st), .own (.dat (.int many))]
  have c2 : eV_ (aC_ (ab_ 0) (dC (.int 0))) (dC (.int 0)) (ae_ (dOp eX_ (ab_ 2) (ab_ 1))) E1 = some (.nx E2) := by
   have e1 : ae_ (dOp eX_ (ab_ 2) (ab_ 1)) E1 = some (.dat (.int q), E1) := by unfold ae_; rw [a2]
   have e2 : ja_ 0 (lI (a :: t)) (.dat (.int q)) = some (lI (q :: t), .dat .none) := by
    have : ixN ((a :: t).map fun i => S.dat (.int i)).length ((0 : Nat) : Int) = some 0 := fU_ (by simp)
    show (match ixN ((a :: t).map fun i => S.dat (.int i)).length ((0 : Nat) : Int) with | some j => some (S.lst (((a :: t).map fun i => S.dat (.int i)).set j (.dat (.int q))), S.dat PyData.none) | none => none) = _
    rw [this]; rfl
   unfold eV_
   rw [e1]
   show jT_ (ja_ 0) E1 [3, 0] (.dat (.int q)) = _
   show (match ja_ 0 (lI (a :: t)) (.dat (.int q)) with | some (t', _) => some (Out.nx (bV_ (bA_ E1 [3, 0] t') [3, 0])) | none => none) = _
   rw [e2]; rfl
  have hor : ao_ (dOr (aj_ (dOp bP_ (aC_ (aC_ (ab_ 0) (dC (.int 0))) (dC (.int 0))) (dC (.int 0)))) (aj_ (dOp bP_ (aC_ (aC_ (ab_ 0) (dC (.int 0))) (dC (.int 0))) (la_ (dC (.int 1)))))) E2 = some (decide (q = 0) || decide (q = -1), E2) := by
   unfold ao_ dOr aj_
   rw [bs_ (hix q E2 rfl rfl rfl) rfl rfl rfl rfl, bs_ (hix q E2 rfl rfl rfl) rfl rfl rfl rfl]
   by_cases z : q = 0
   ·simp [z]
   ·simp [z]
  have c4 : ∀ E : En, ab_ 2 E = some (.val (.dat (.int a))) -> ab_ 1 E = some (.val (.dat (.int many))) -> aY_ (ae_ (dOp fG_ (ab_ 2) (ab_ 1))) E = some (.rt (.dat (.int (a % many))) E) := fun E e1 e2 => by
   unfold aY_ ae_
   rw [bs_ e1 e2 rfl rfl (pR_ h0)]
  cases hb : (decide (q = 0) || decide (q = -1)) with
  | true =>
   rw [hb] at hor
   let E3 : En := [.bor [3], .own (.dat (.int many)), .own (.dat (.int a)), .own (bx t st), .own (.dat (.int many))]
   have c3 : cr_ (dH_ eJ_ (aC_ (ab_ 0) (dC (.int 0))) (dC (.int 0))) E2 = some (.nx E3) := by
    have e2 : eJ_ (lI (q :: t)) (.dat (.int 0)) = some (lI t, .dat (.int q)) := by
     have : ixN ((q :: t).map fun i => S.dat (.int i)).length ((0 : Nat) : Int) = some 0 := fU_ (by simp)
     show (match ixN ((q :: t).map fun i => S.dat (.int i)).length ((0 : Nat) : Int) with | some j => (match ((q :: t).map fun i => S.dat (.int i))[j]? with | some s => if ((q :: t).map fun i => S.dat (.int i)).length < 100000 then some (S.lst (((q :: t).map fun i => S.dat (.int i)).eraseIdx j), s) else none | none => none) | none => none) = _
     rw [this]
     show (if ((q :: t).map fun i => S.dat (.int i)).length < 100000 then some (lI t, S.dat (.int q)) else none) = _
     exact if_pos (by simp at hl ⊢; omega)
    refine gp_ (s := .dat (.int q)) ?_
    show (match eJ_ (lI (q :: t)) (.dat (.int 0)) with | some (t', c) => some (c, bV_ (bA_ E2 [3, 0] t') [3, 0]) | none => none) = _
    rw [e2]; rfl
   exact ⟨a % many, t, st, Int.emod_nonneg _ (by omega), Int.emod_lt_of_pos _ h0, by simp, aU_ (ad_ (bF_ hc rfl) (ad_ c1 (ad_ c2 (ad_ (cu_ hor c3) (c4 E3 rfl rfl))))) rfl⟩
  | false =>
   rw [hb] at hor
   exact ⟨a % many, q :: t, st, Int.emod_nonneg _ (by omega), Int.emod_lt_of_pos _ h0, by simp, aU_ (ad_ (bF_ hc rfl) (ad_ c1 (ad_ c2 (ad_ (bF_ hor rfl) (c4 E2 rfl rfl))))) rfl⟩
end DT
namespace LM
open PySem PySem.Spec PyProof.Rows L2 Mv
def Fr (e : Sl) : Prop := ∀ q, e ≠ .bor q
theorem aL_ : Fr .no := fun _ h => by cases h
theorem ah_ (s : S) : Fr (.own s) := fun _ h => by cases h
def Lk (A : List Nat) (E : En) : Prop := ∀ e ∈ E, ∀ q, e = .bor q -> ∃ j ∈ A, q = [j]
variable {A : List Nat} {E B G : En} {i : Nat} {s : S} {d : PyData}
theorem map_id {f : Sl -> Sl} (h : Lk A E) (h1 : ∀ e, Fr e -> f e = e) (h2 : ∀ j ∈ A, f (.bor [j]) = .bor [j]) : E.map f = E := by
 induction E with
 | nil => rfl
 | cons e E ih =>
  rw [List.map_cons, ih fun x m => h x (List.mem_cons_of_mem _ m)]
  congr 1
  cases e with
  | bor q =>
   obtain ⟨j, mj, rfl⟩ := h _ List.mem_cons_self q rfl
   exact h2 j mj
  | no => exact h1 _ aL_
  | own s => exact h1 _ (ah_ s)
theorem kh {e : Sl} (h : Fr e) : aW_ i e = e := by cases e with | bor q => exact absurd rfl (h q) | no => rfl | own s => rfl
theorem k1 {p : List Nat} {e : Sl} (h : Fr e) : hN_ p e = e := by cases e with | bor q => exact absurd rfl (h q) | no => rfl | own s => rfl
theorem kR {n m : Nat} {e : Sl} (h : Fr e) : Gn.killR n m e = e := by cases e with | bor q => exact absurd rfl (h q) | no => rfl | own s => rfl
theorem Lk.slot (h : Lk A E) (hi : i ∉ A) {x : Sl} : ak_ E i x = E.set i x := by
 unfold ak_
 rw [map_id h (fun e he => kh he) fun j mj => if_neg fun z => hi (by cases z; exact mj)]
theorem Lk.kill (h : Lk A E) {p : List Nat} (hp : p ≠ []) : bV_ E p = E := by
 refine map_id h (fun e he => k1 he) fun j mj => ?_
 match p, hp with
 | [a], _ =>
  show (if a3_ [a] [j] = true then Sl.no else .bor [j]) = _
  rw [if_neg (by simp [a3_])]
 | a :: b :: c, _ =>
  show (if a3_ (a :: b :: c) [j] = true then Sl.no else .bor [j]) = _
  rw [if_neg (by simp [a3_])]
theorem Lk.killR (h : Lk A E) {n m : Nat} (hn : ∀ j ∈ A, j < n) : E.map (Gn.killR n m) = E := map_id h (fun e he => kR he) fun j mj => by
 have := hn j mj
 exact if_neg fun z => by omega
theorem Lk.frs (h : Lk A E) {k : Nat} (hn : ∀ j ∈ A, j < k) : E.all (Gn.frs k) = true := List.all_eq_true.mpr fun e m => by
 cases e with
 | bor q =>
  obtain ⟨j, mj, rfl⟩ := h _ m q rfl
  exact decide_eq_true (hn j mj)
 | no => rfl
 | own s => rfl
theorem Lk.app (h : Lk A E) (h2 : Lk A G) : Lk A (E ++ G) := fun e m => (List.mem_append.mp m).elim (h e) (h2 e)
theorem pi_ (ss : List S) : Lk A (ss.map Sl.own) := fun e m q z => by obtain ⟨s, _, rfl⟩ := List.mem_map.mp m; cases z
theorem Lk.set (h : Lk A E) {x : Sl} (hx : Fr x) : Lk A (E.set i x) := fun e m q z => (List.mem_or_eq_of_mem_set m).elim (fun m => h e m q z) fun w => by rw [w] at z; exact absurd z (hx q)
theorem bz_ : Lk A [] := fun e m => nomatch m
theorem a0_ {e : Sl} (he : Fr e) (h : Lk A E) : Lk A (e :: E) := fun x m q z => (List.mem_cons.mp m).elim (fun w => by rw [w] at z; exact absurd z (he q)) fun m => h x m q z
theorem ej_ {j : Nat} (hj : j ∈ A) (h : Lk A E) : Lk A (.bor [j] :: E) := fun x m q z => (List.mem_cons.mp m).elim (fun w => by rw [w] at z; cases z; exact ⟨j, hj, rfl⟩) fun m => h x m q z
theorem bo_ (h : E[i]? = some (.own (.dat d))) : ab_ i E = some (.val (.dat d)) := by unfold ab_; rw [h]
theorem cJ_ (h : E[i]? = some (.own s)) : aZ_ E [i] = some s := by
 show (match E[i]? with | some (.own s) => s.get [] | _ => none) = _
 rw [h]; exact S.get_nil _
theorem ig_ {t : S} (h : E[i]? = some (.own s)) : bA_ E [i] t = E.set i (.own t) := by
 show (match E[i]? with | some (.own s) => E.set i (.own (s.put [] t)) | _ => E) = _
 rw [h]; simp only [S.put_nil]
theorem eH_ {dl : En -> Option (Nat × En)} {k : Nat} {G : List S} (h : Lk A B) (hn : ∀ j ∈ A, j < B.length) (h1 : dl E = some (k, B ++ G.map Sl.own)) (hk : G.length = k) (hl : k < 1000) : ek_ dl E = some (.lst G, B) := by
 unfold ek_
 rw [h1]
 simp only [if_pos hl, Gn.pop_go (m := k) (E1 := B) hk (h.killR hn)]
def qY_ : S -> Bool
 | .dat _ => false
 | .con _ => false
 | _ => true
theorem f8_ {i : Nat} {s : S} (h : E[i]? = some (.own s)) (hd : qY_ s = true) : ab_ i E = some (.pl [i]) := by
 unfold ab_
 rw [h]
 cases s with
 | dat d => cases hd
 | con v => cases hd
 | _ => rfl
end LM
namespace D20
open PySem PySem.Spec PyProof.Rows L2 Mv LM
open Gn hiding g__law_take g__law_begun d__law_take d__law_begun v_begun eBg
theorem qu_ {ns : List Int} {st many : Int} (h0 : 0 < many) (h1 : many < 18446744073709551616) (hl : ns.length < 1000) : ∃ r ns' st', 0 <= r /\ r < many /\ ns'.length <= ns.length /\ K20.g__law_take [bx ns st, .dat (.int many)] = some (.dat (.int r), [bx ns' st', .dat (.int many)]) := DT.v_take h0 h1 hl
theorem qv_ {ns : List Int} (hl : ns.length < 1000) : ∃ st, K20.g__law_begun [.dat (.list (ns.map .int))] = some (bx ns st, [.dat (.list (ns.map .int))]) := Gn.v_begun hl
def idD (d : PyData) : PyData := d
theorem cK_ {A : List Nat} {B X E : En} {s : S} {dl : En -> Option (Nat × En)} {dc : Nat -> En -> Option (S × En)} {k : Nat} (h : Lk A B) (hn : ∀ j ∈ A, j < B.length) (h1 : dl E = some (k, B ++ X)) (h2 : dc k (B ++ X) = some (s, B ++ X)) (hk : X.length = k) : bh_ dl dc E = some (s, B) :=
 Gn.eff_go h1 h2 (h.frs hn) hk
theorem pj_ {E : En} {ds : List PyData} {j : Nat} {d : PyData} (h : ds[j]? = some d) : dGh ds.length j (E ++ (ds.map S.dat).map Sl.own) = some (.val (.dat d)) := by
 have hj : j < ds.length := (List.getElem?_eq_some_iff.mp h).1
 unfold dGh
 rw [if_pos hj]
 have : (E ++ (ds.map S.dat).map Sl.own).length - ds.length + j = E.length + j := by simp
 rw [this]
 refine bo_ ?_
 rw [List.getElem?_append_right (by omega)]
 simp [h]
theorem mE_ {E : En} {ds : List PyData} : ∀ (m j : Nat), j + m = ds.length -> ghs ds.length (E ++ (ds.map S.dat).map Sl.own) j m = some ((ds.drop j).map fun d => Rs.val (.dat d))
 | 0, j, h => by rw [List.drop_eq_nil_of_le (by omega)]; rfl
 | m + 1, j, h => by
  have hj : j < ds.length := by omega
  have h1 := pj_ (E := E) (List.getElem?_eq_getElem hj)
  unfold dGh at h1
  rw [if_pos hj] at h1
  have h2 := mE_ (E := E) (ds := ds) m (j + 1) (by omega)
  simp only [ghs, h1, h2]
  rw [List.drop_eq_getElem_cons hj]
  rfl
theorem gR_ {E : En} (ds : List PyData) : ct_ ds.length (E ++ (ds.map S.dat).map Sl.own) = some (ds.map fun d => Rs.val (.dat d)) := (mE_ ds.length 0 (by omega)).trans rfl
theorem ih_ {A : List Nat} {E : En} {i : Nat} {s s' r : S} {d : PyData} {g : List S -> Option (S × List S)} {dr : En -> Option (List Rs)} (h : Lk A E) (h1 : dr E = some [.pl [i], .val (.dat d)]) (hp : E[i]? = some (.own s)) (hv : g [s, .dat d] = some (r, [s', .dat d])) :
  ag_ g dr E = some (r, E.set i (.own s')) := by
 rw [Mv.eCall_go (g := g) (rs := [.pl [i], .val (.dat d)]) (ss := [s, .dat d]) h1 rfl (by simp only [hQ_, Rs.at, cJ_ hp]) hv]
 show some (_, bV_ (bA_ E [i] s') [i]) = _
 rw [ig_ hp, (h.set (ah_ s')).kill (by simp)]
theorem kT_ {A : List Nat} {E E1 : En} {i : Nat} {s : S} {de : En -> Option (S × En)} (h : de E = some (s, E1)) (h1 : Lk A E1) (hi : i ∉ A) : cd_ i de E = some (.nx (E1.set i (.own s))) := by
 rw [m7_ h, h1.slot hi]
section
variable {A : List Nat} {E E1 E2 B X : En} {ns : List Int} {st m r z : Int} {p q i k : Nat} {s : S} {Y : Sl} {d x : PyData}
theorem gtk {dr : En -> Option (List Rs)} (h : Lk A E) (hd : dr E = some [.pl [p], .val (.dat (.int m))]) (hp : E[p]? = some (.own (bx ns st))) (hl : ns.length < 1000) (h0 : 0 < m) (h1 : m < 18446744073709551616) :
  ∃ r ns' st', 0 <= r /\ r < m /\ ns'.length < 1000 /\ ag_ K20.g__law_take dr E = some (.dat (.int r), E.set p (.own (bx ns' st'))) := by
 obtain ⟨r, n1, b1, p1, q1, l1, e1⟩ := qu_ (ns := ns) (st := st) h0 h1 hl
 exact ⟨r, n1, b1, p1, q1, by omega, ih_ h hd hp e1⟩
def qw_ (da : En -> Option Rs) (E : En) (Y : Sl) : Prop := ∀ (dl : En -> Option (Nat × En)) (k : Nat) (R : En), dl (E ++ [Y]) = some (k, R) -> an_ da dl E = some (k + 1, R)
theorem lV_ {da : En -> Option Rs} (h : da E = some (.val s)) : qw_ da E (.own s) := fun _ _ _ e => Gn.lP_own h e
theorem lW_ {da : En -> Option Rs} {p : List Nat} (h : da E = some (.pl p)) : qw_ da E (.bor p) := fun _ _ _ e => Gn.lP_bor h e
theorem gix {dx : En -> Option Rs} {de : En -> Option (S × En)} (hA : Lk A E1) (hn : ∀ j ∈ A, j < E1.length) (hp : qw_ dx E Y) (he : de (E ++ [Y]) = some (.dat (.int r), E1 ++ [Y])) (hx : aC_ (dGh 2 0) (dGh 2 1) (E1 ++ [Y, .own (.dat (.int r))]) = some (.val (.dat x))) :
  bh_ (an_ dx (af_ de aJ_)) (fun k => aT_ k 2 (ae_ (aC_ (dGh k 0) (dGh k 1)))) E = some (.dat x, E1) := by
 have c : an_ dx (af_ de aJ_) E = some (2, E1 ++ [Y, .own (.dat (.int r))]) := hp _ _ _ (Gn.lE_go (k := 0) he (by simp [aJ_]))
 exact cK_ hA hn c (Gn.when_go (Gn.ePure_go hx)) rfl
theorem gh0 {a b : Sl} : dGh 2 0 (E ++ [a, b]) = ab_ E.length (E ++ [a, b]) := by
 unfold dGh; rw [if_pos (by decide)]; simp
theorem gh1 {a b : Sl} : dGh 2 1 (E ++ [a, b]) = ab_ (E.length + 1) (E ++ [a, b]) := by
 unfold dGh; rw [if_pos (by decide)]; simp
theorem hE_ {a : Sl} {G : En} : (E ++ a :: G)[E.length]? = some a := by simp
theorem gS_ {a b : Sl} {G : En} : (E ++ a :: b :: G)[E.length + 1]? = some b := by
 rw [List.getElem?_append_right (by omega)]; simp
theorem iY_ {xs : List PyData} {i : Nat} (hi : xs[i]? = some x) : aC_ (dGh 2 0) (dGh 2 1) (E ++ [.own (dL idD xs), .own (.dat (.int (i : Nat)))]) = some (.val (.dat x)) := by
 have g0 : dGh 2 0 (E ++ [.own (dL idD xs), .own (.dat (.int (i : Nat)))]) = some (.pl [E.length]) := by rw [gh0]; exact f8_ hE_ rfl
 have g1 : dGh 2 1 (E ++ [.own (dL idD xs), .own (.dat (.int (i : Nat)))]) = some (.val (.dat (.int (i : Nat)))) := by rw [gh1]; exact bo_ gS_
 exact (eP_ (f := idD) g0 (cJ_ hE_) g1 hi).trans rfl
theorem pk_ {xs : List PyData} {i q : Nat} (hq : E[q]? = some (.own (dL idD xs))) (hi : xs[i]? = some x) : aC_ (dGh 2 0) (dGh 2 1) (E ++ [.bor [q], .own (.dat (.int (i : Nat)))]) = some (.val (.dat x)) := by
 have g0 : dGh 2 0 (E ++ [.bor [q], .own (.dat (.int (i : Nat)))]) = some (.pl [q]) := by
  rw [gh0]; unfold ab_
  rw [hE_]
 have g1 : dGh 2 1 (E ++ [.bor [q], .own (.dat (.int (i : Nat)))]) = some (.val (.dat (.int (i : Nat)))) := by rw [gh1]; exact bo_ gS_
 have hq2 : (E ++ [.bor [q], .own (.dat (.int (i : Nat)))])[q]? = some (.own (dL idD xs)) := by
  rw [List.getElem?_append_left (List.getElem?_eq_some_iff.mp hq).1]; exact hq
 exact (eP_ (f := idD) g0 (cJ_ hq2) g1 hi).trans rfl
theorem nS_ {dx : En -> Option Rs} {dr : En -> Option (List Rs)} {xs : List PyData} (h : Lk A E) (hn : ∀ j ∈ A, j < E.length) (hx : dx E = some (.val (dL idD xs))) (hd : dr (E ++ [.own (dL idD xs)]) = some [.pl [p], .val (.dat (.int m))]) (hp : E[p]? = some (.own (bx ns st))) (hl : ns.length < 1000) (hm : m = xs.length) (h0 : 0 < xs.length) (h1 : xs.length < 1000) :
  ∃ x ∈ xs, ∃ ns' st', ns'.length < 1000 /\ bh_ (an_ dx (af_ (ag_ K20.g__law_take dr) aJ_)) (fun k => aT_ k 2 (ae_ (aC_ (dGh k 0) (dGh k 1)))) E = some (.dat x, E.set p (.own (bx ns' st'))) := by
 have hp2 : p < E.length := (List.getElem?_eq_some_iff.mp hp).1
 have h2 : Lk A (E ++ [.own (dL idD xs)]) := h.app (a0_ (ah_ _) bz_)
 obtain ⟨r, n1, b1, r0, r1, l1, c⟩ := gtk h2 hd (by rw [List.getElem?_append_left hp2]; exact hp) hl (by omega) (by omega)
 obtain ⟨i, rfl⟩ : ∃ i : Nat, r = i := ⟨r.toNat, by omega⟩
 have hi : i < xs.length := by omega
 rw [List.set_append_left _ _ hp2] at c
 refine ⟨xs[i], List.getElem_mem hi, n1, b1, l1, ?_⟩
 exact gix (A := A) (h.set (ah_ _)) (by rw [List.length_set]; exact hn) (lV_ hx) c (iY_ (List.getElem?_eq_getElem hi))
theorem kU_ {dx : En -> Option Rs} {dr : En -> Option (List Rs)} {xs : List PyData} {q : Nat} (h : Lk A E) (hn : ∀ j ∈ A, j < E.length) (hqA : q ∈ A) (hx : dx E = some (.pl [q])) (hq : E[q]? = some (.own (dL idD xs))) (hpq : p ≠ q) (hd : dr (E ++ [.bor [q]]) = some [.pl [p], .val (.dat (.int m))]) (hp : E[p]? = some (.own (bx ns st))) (hl : ns.length < 1000) (h0 : 0 < m) (hm : m <= xs.length) (h1 : m < 1000) :
  ∃ i : Nat, ∃ x, (i : Int) < m /\ xs[i]? = some x /\ ∃ ns' st', ns'.length < 1000 /\ bh_ (an_ dx (af_ (ag_ K20.g__law_take dr) aJ_)) (fun k => aT_ k 2 (ae_ (aC_ (dGh k 0) (dGh k 1)))) E = some (.dat x, E.set p (.own (bx ns' st'))) := by
 have hp2 : p < E.length := (List.getElem?_eq_some_iff.mp hp).1
 have h2 : Lk A (E ++ [.bor [q]]) := h.app (ej_ hqA bz_)
 obtain ⟨r, n1, b1, r0, r1, l1, c⟩ := gtk h2 hd (by rw [List.getElem?_append_left hp2]; exact hp) hl h0 (by omega)
 obtain ⟨i, rfl⟩ : ∃ i : Nat, r = i := ⟨r.toNat, by omega⟩
 have hi : i < xs.length := by omega
 rw [List.set_append_left _ _ hp2] at c
 refine ⟨i, xs[i], r1, List.getElem?_eq_getElem hi, n1, b1, l1, ?_⟩
 exact gix (A := A) (h.set (ah_ _)) (by rw [List.length_set]; exact hn) (lW_ hx) c (pk_ (by rw [List.getElem?_set_ne hpq]; exact hq) (List.getElem?_eq_getElem hi))
theorem mF_ {Z : En} {x : Sl} (h : E[i]? = some x) : (E ++ Z)[i]? = some x := by rw [List.getElem?_append_left (List.getElem?_eq_some_iff.mp h).1]; exact h
end
end D20
namespace D20
open PySem PySem.Spec PyProof.Rows L2 Mv TL DT LM
open DQ17 (as_ ay_)
open Gn hiding g__law_take g__law_begun d__law_take d__law_begun v_begun eBg
def tot (l : List Str) : Nat := (l.map Str.length).sum + l.length
theorem cL_ (a b : List Str) : tot (a ++ b) = tot a + tot b := by unfold tot; simp; omega
theorem fa_ (a : Str) (b : List Str) : tot (a :: b) = a.length + 1 + tot b := by unfold tot; simp; omega
theorem gT_ (l : List Str) (k : Nat) : tot (l.take k) + tot (l.drop (k + 1)) <= tot l := by
 have h : tot l = tot (l.take k) + tot (l.drop k) := by rw [<- cL_, List.take_append_drop]
 have h2 : tot (l.drop (k + 1)) <= tot (l.drop k) := by
  by_cases hk : k < l.length
  ·rw [List.drop_eq_getElem_cons hk, fa_]; omega
  ·rw [List.drop_eq_nil_of_le (by omega : l.length <= k), List.drop_eq_nil_of_le (by omega : l.length <= k + 1)]; exact Nat.le_refl _
 omega
theorem dA_ {y : Str} {l : List Str} (hy : y.length = 1) : (Txt.join y l).length <= tot l := by
 rw [join_eq]
 have : (Str.join y l).length <= (l.map Str.length).sum + l.length * y.length := StrLaws.join_length_le y l
 rw [hy] at this
 unfold tot; omega
theorem hF_ {S : List Nat} {c : Nat} : ∀ {l : List (List Nat)}, c ∈ joinL S l -> c ∈ S ∨ ∃ p ∈ l, c ∈ p := by
 intro l
 induction l with
 | nil => intro h; cases h
 | cons a r ih =>
  intro h
  cases r with
  | nil => exact .inr ⟨a, List.mem_cons_self, h⟩
  | cons b r =>
   have h : c ∈ a ++ (S ++ joinL S (b :: r)) := by simpa [joinL] using h
   rcases List.mem_append.mp h with h | h
   ·exact .inr ⟨a, List.mem_cons_self, h⟩
   ·rcases List.mem_append.mp h with h | h
    ·exact .inl h
    ·rcases ih h with h | ⟨p, m, h⟩
     ·exact .inl h
     ·exact .inr ⟨p, List.mem_cons_of_mem _ m, h⟩
theorem dB_ {y : Str} {l : List Str} (hy : Asc (tl y)) (hl : ∀ w ∈ l, Asc (tl w)) : Asc (tl (Txt.join y l)) := by
 intro c m
 rw [join_eq, tl_join] at m
 rcases hF_ m with h | ⟨p, mp, h⟩
 ·exact hy c h
 ·obtain ⟨w, mw, rfl⟩ := List.mem_map.mp mp
  exact hl w mw c h
theorem kV_ {a b : Str} (ha : Asc (tl a)) (hb : Asc (tl b)) : Asc (tl (a ++ b)) := fun c m => by
 rw [tl_append] at m
 exact (List.mem_append.mp m).elim (ha c) (hb c)
theorem lX_ {z : Str} (h : Asc (tl z)) (k : Nat) : Asc (tl (Txt.slice z (some (k : Int)) none)) := fun c m => by rw [ia_] at m; exact h c (List.mem_of_mem_drop m)
theorem pl_ {z : Str} (h : Asc (tl z)) (k : Nat) : Asc (tl (Txt.slice z none (some (k : Int)))) := fun c m => by rw [nK_] at m; exact h c (List.mem_of_mem_take m)
theorem lY_ (z : Str) (k : Nat) : (Txt.slice z (some (k : Int)) none).length <= z.length := by rw [len_tl, len_tl, ia_, List.length_drop]; omega
theorem pm_ (z : Str) (k : Nat) : (Txt.slice z none (some (k : Int))).length <= z.length := by rw [len_tl, len_tl, nK_, List.length_take]; omega
theorem kW_ {E : En} {da db : En -> Option Rs} {a b : Str} (ha : da E = some (.val (.dat (.str a)))) (hb : db E = some (.val (.dat (.str b)))) (h : a.length + b.length <= sizeLine) : dOp kc_ da db E = some (.val (.dat (.str (a ++ b)))) := ay_ ha hb (by
 show (if a.length + b.length <= sizeLine then some (PyData.str (a ++ b)) else none) = _
 rw [if_pos h])
theorem kX_ : ∀ l : List Str, gr_ (l.map fun x => S.dat (.str x)) = some l
 | [] => rfl
 | a :: r => by
  show (gr_ (r.map fun x => S.dat (.str x))).map (a :: ·) = _
  rw [kX_ r]; rfl
theorem fD_ {E E1 : En} {da : En -> Option Rs} {de : En -> Option (S × En)} {y : Str} {l : List Str} (ha : da E = some (.val (.dat (.str y)))) (he : de E = some (dL PyData.str l, E1)) (hy : y.length = 1) (hl : tot l <= 16777216) : cv_ da de E = some (.dat (.str (Txt.join y l)), E1) := by
 unfold cv_
 rw [ha]
 simp only
 rw [he]
 show (match gr_ (l.map fun x => S.dat (.str x)) with | some ys => if (ys.map Str.length).sum + ys.length * y.length <= 16777216 then some (S.dat (.str (Txt.join y ys)), E1) else none | none => none) = _
 rw [kX_]
 have : (l.map Str.length).sum + l.length * y.length <= 16777216 := by rw [hy, Nat.mul_one]; exact hl
 simp only
 rw [if_pos this]
def sgS : Str := ("0123456789 -\nascturnbdefghijklmopqvwxyz!#$&'()*+,./:;<=>?@ABCDEFGHIJKLMNOPQRSTUVWXYZ[]^_`{|}~" : Str)
theorem sg_facts : (tl sgS).all (fun c => decide (c < 128)) = true /\ 20 <= (tl sgS).length /\ (tl sgS).length < 1000 := by decide +kernel
theorem mG_ {r : Int} (h0 : 0 <= r) (h1 : r < (tl sgS).length) : ∃ c, c < 128 /\ le_ (.str sgS) (.int r) = some (ch c) := by
 obtain ⟨k, rfl⟩ : ∃ k : Nat, r = k := ⟨r.toNat, by omega⟩
 have hk : k < (tl sgS).length := by omega
 refine ⟨(tl sgS)[k], of_decide_eq_true (List.all_eq_true.mp sg_facts.1 _ (List.getElem_mem _)), ?_⟩
 show (if sgS.length <= sizeLine then (atI (tl sgS) (k : Int)).map fun c => PyData.str ⟨#[c]⟩ else none) = _
 rw [if_pos (by rw [len_tl, sizeLine_eq]; have := sg_facts.2.2; omega)]
 have : atI (tl sgS) (k : Int) = some (tl sgS)[k] := by
  unfold atI
  rw [fU_ hk]
  exact List.getElem?_eq_getElem hk
 rw [this]; rfl
open DQ17 (as_ ay_)
open Gn hiding g__law_take g__law_begun d__law_take d__law_begun v_begun eBg
def PF (ns : List Int) (st : Int) (z : Str) (v2 v3 v4 v5 v6 v7 v8 v9 v10 : Sl) : En := [.bor [11], O (.str z), v2, v3, v4, v5, v6, v7, v8, v9, v10, .own (bx ns st), O (.str z)]
section
variable {ns : List Int} {st : Int} {z : Str} {v2 v3 v4 v5 v6 v7 v8 v9 v10 : Sl} {A : List Nat}
theorem ii_ (hA : 11 ∈ A) (h2 : Fr v2) (h3 : Fr v3) (h4 : Fr v4) (h5 : Fr v5) (h6 : Fr v6) (h7 : Fr v7) (h8 : Fr v8) (h9 : Fr v9) (h10 : Fr v10) : Lk A (PF ns st z v2 v3 v4 v5 v6 v7 v8 v9 v10) :=
 ej_ hA (a0_ (ah_ _) (a0_ h2 (a0_ h3 (a0_ h4 (a0_ h5 (a0_ h6 (a0_ h7 (a0_ h8 (a0_ h9 (a0_ h10 (a0_ (ah_ _) (a0_ (ah_ _) bz_))))))))))))
theorem tkP {G : En} {dm : En -> Option Rs} {m : Int} (h : Lk A (PF ns st z v2 v3 v4 v5 v6 v7 v8 v9 v10 ++ G)) (hm : dm (PF ns st z v2 v3 v4 v5 v6 v7 v8 v9 v10 ++ G) = some (.val (.dat (.int m)))) (hl : ns.length < 1000) (h0 : 0 < m) (h1 : m < 18446744073709551616) :
  ∃ r ns' st', 0 <= r /\ r < m /\ ns'.length < 1000 /\ ag_ K20.g__law_take (aa_ (ab_ 0) (aa_ dm ai_)) (PF ns st z v2 v3 v4 v5 v6 v7 v8 v9 v10 ++ G) = some (.dat (.int r), PF ns' st' z v2 v3 v4 v5 v6 v7 v8 v9 v10 ++ G) := by
 obtain ⟨r, n1, b1, r0, r1, l1, c⟩ := gtk (p := 11) (m := m) (dr := aa_ (ab_ 0) (aa_ dm ai_)) h (am_ rfl (am_ hm rfl)) rfl hl h0 h1
 exact ⟨r, n1, b1, r0, r1, l1, c⟩
theorem pW_ {dm : En -> Option Rs} {m : Int} (h : Lk A (PF ns st z v2 v3 v4 v5 v6 v7 v8 v9 v10)) (hm : dm (PF ns st z v2 v3 v4 v5 v6 v7 v8 v9 v10) = some (.val (.dat (.int m)))) (hl : ns.length < 1000) (h0 : 0 < m) (h1 : m < 18446744073709551616) :
  ∃ r ns' st', 0 <= r /\ r < m /\ ns'.length < 1000 /\ ag_ K20.g__law_take (aa_ (ab_ 0) (aa_ dm ai_)) (PF ns st z v2 v3 v4 v5 v6 v7 v8 v9 v10) = some (.dat (.int r), PF ns' st' z v2 v3 v4 v5 v6 v7 v8 v9 v10) := by
 obtain ⟨r, n1, b1, r0, r1, l1, c⟩ := gtk (p := 11) (m := m) (dr := aa_ (ab_ 0) (aa_ dm ai_)) h (am_ rfl (am_ hm rfl)) rfl hl h0 h1
 exact ⟨r, n1, b1, r0, r1, l1, c⟩
abbrev ixg : Nat -> En -> Option (S × En) := fun k => aT_ k 2 (ae_ (aC_ (dGh k 0) (dGh k 1)))
def sgE : En -> Option (S × En) := (eOp le_ (ae_ (ab_ 4)) (bh_ (an_ (ab_ 0) (af_ (bh_ (an_ (ba_ (aa_ (dC (.int 20)) (aa_ (dCB dk_ (aa_ (ab_ 4) ai_)) ai_))) (af_ (ag_ K20.g__law_take (aa_ (ab_ 0) (aa_ (dC (.int 2)) ai_))) aJ_)) ixg) aJ_)) fun k => aT_ k 2 (ag_ K20.g__law_take (ct_ k))))
theorem qx_ (h2 : Fr v2) (h3 : Fr v3) (hl : ns.length < 1000) : ∃ c ns' st', c < 128 /\ ns'.length < 1000 /\ sgE (PF ns st z v2 v3 (O (.str sgS)) .no .no .no .no .no .no) = some (.dat (ch c), PF ns' st' z v2 v3 (O (.str sgS)) .no .no .no .no .no .no) := by
 have lk : ∀ {ns st}, Lk [11] (PF ns st z v2 v3 (O (.str sgS)) .no .no .no .no .no .no) := fun {ns st} => ii_ (by simp) h2 h3 (ah_ _) aL_ aL_ aL_ aL_ aL_ aL_
 have hn : ∀ {ns st}, ∀ j ∈ [11], j < (PF ns st z v2 v3 (O (.str sgS)) .no .no .no .no .no .no).length := fun {ns st} j m => by rw [List.mem_singleton.mp m]; show 11 < 13; decide
 obtain ⟨_, s20, s1000⟩ := sg_facts
 have elen : (tl sgS).length = sgS.length := (len_tl sgS).symm
 have hsl : sgS.length <= sizeLine := by rw [sizeLine_eq]; omega
 have hx : ba_ (aa_ (dC (.int 20)) (aa_ (dCB dk_ (aa_ (ab_ 4) ai_)) ai_)) (PF ns st z v2 v3 (O (.str sgS)) .no .no .no .no .no .no ++ [.bor [11]]) = some (.val (dL idD [.int 20, .int (sgS.length : Nat)])) := by
  unfold ba_
  rw [am_ rfl (am_ (gI_ (d := ab_ 4) (z := sgS) rfl hsl) rfl)]
  rfl
 obtain ⟨x, mx, n1, b1, l1, c1⟩ := nS_ (A := [11]) (p := 11) (m := 2) (ns := ns) (st := st) (E := PF ns st z v2 v3 (O (.str sgS)) .no .no .no .no .no .no ++ [.bor [11]]) (dr := aa_ (ab_ 0) (aa_ (dC (.int 2)) ai_)) (lk.app (ej_ (by simp) bz_)) (fun j m => by rw [List.mem_singleton.mp m]; show 11 < 14; decide) hx rfl rfl hl rfl (by decide) (by decide)
 have ex : ∃ k : Int, x = .int k /\ 0 < k /\ k <= (tl sgS).length := by
  rcases List.mem_cons.mp mx with rfl | mx
  ·exact ⟨20, rfl, by decide, by omega⟩
  ·rw [List.mem_singleton.mp mx]; exact ⟨_, rfl, by omega, by omega⟩
 obtain ⟨k, rfl, k0, k1⟩ := ex
 have c2 : an_ (ab_ 0) (af_ (bh_ (an_ (ba_ (aa_ (dC (.int 20)) (aa_ (dCB dk_ (aa_ (ab_ 4) ai_)) ai_))) (af_ (ag_ K20.g__law_take (aa_ (ab_ 0) (aa_ (dC (.int 2)) ai_))) aJ_)) ixg) aJ_) (PF ns st z v2 v3 (O (.str sgS)) .no .no .no .no .no .no) = some (2, PF n1 b1 z v2 v3 (O (.str sgS)) .no .no .no .no .no .no ++ [.bor [11], O (.int k)]) :=
  lP_bor rfl (lE_go c1 rfl)
 obtain ⟨r, n2, b2, r0, r1, l2, c3⟩ := gtk (A := [11]) (p := 11) (m := k) (ns := n1) (st := b1) (E := PF n1 b1 z v2 v3 (O (.str sgS)) .no .no .no .no .no .no ++ [.bor [11], O (.int k)]) (dr := ct_ 2) (lk.app (ej_ (by simp) (a0_ (ah_ _) bz_))) rfl rfl l1 k0 (by omega)
 have c4 : bh_ (an_ (ab_ 0) (af_ (bh_ (an_ (ba_ (aa_ (dC (.int 20)) (aa_ (dCB dk_ (aa_ (ab_ 4) ai_)) ai_))) (af_ (ag_ K20.g__law_take (aa_ (ab_ 0) (aa_ (dC (.int 2)) ai_))) aJ_)) ixg) aJ_)) (fun k => aT_ k 2 (ag_ K20.g__law_take (ct_ k))) (PF ns st z v2 v3 (O (.str sgS)) .no .no .no .no .no .no) = some (.dat (.int r), PF n2 b2 z v2 v3 (O (.str sgS)) .no .no .no .no .no .no) :=
  eff_go (A := PF n1 b1 z v2 v3 (O (.str sgS)) .no .no .no .no .no .no) (B := PF n2 b2 z v2 v3 (O (.str sgS)) .no .no .no .no .no .no) (G := [.bor [11], O (.int k)]) (G2 := [.bor [11], O (.int k)]) (dc := fun k => aT_ k 2 (ag_ K20.g__law_take (ct_ k))) c2 (when_go c3) (lk.frs hn) rfl
 obtain ⟨c, hc, e⟩ := mG_ r0 (by omega)
 exact ⟨c, n2, b2, hc, l2, hp_ (E1 := PF ns st z v2 v3 (O (.str sgS)) .no .no .no .no .no .no) rfl c4 e⟩
def inE : En -> Option (S × En) := (bh_ (af_ (ek_ (an_ (ab_ 5) (an_ (dC (.str "")) (af_ (eOp le_ (ae_ (ab_ 4)) (ag_ K20.g__law_take (aa_ (ab_ 0) (aa_ (dC (.int 13)) ai_)))) aJ_)))) (an_ (dCB hT_ (aa_ (ab_ 2) (aa_ (dC (.int 2)) ai_))) aJ_)) ixg)
theorem qy_ {r : Int} {c : Nat} (r0 : 0 <= r) (hc : c < 128) (h3 : Fr v3) (hl : ns.length < 1000) : ∃ y ns' st', Asc (tl y) /\ y.length <= 1 /\ ns'.length < 1000 /\ inE (PF ns st z (O (.int r)) v3 (O (.str sgS)) (O (ch c)) .no .no .no .no .no) = some (.dat (.str y), PF ns' st' z (O (.int r)) v3 (O (.str sgS)) (O (ch c)) .no .no .no .no .no) := by
 have lk : ∀ {ns st}, Lk [11] (PF ns st z (O (.int r)) v3 (O (.str sgS)) (O (ch c)) .no .no .no .no .no) := fun {ns st} => ii_ (by simp) (ah_ _) h3 (ah_ _) (ah_ _) aL_ aL_ aL_ aL_ aL_
 have hn : ∀ {ns st}, ∀ j ∈ [11], j < (PF ns st z (O (.int r)) v3 (O (.str sgS)) (O (ch c)) .no .no .no .no .no).length := fun {ns st} j m => by rw [List.mem_singleton.mp m]; show 11 < 13; decide
 obtain ⟨_, s20, _⟩ := sg_facts
 obtain ⟨k, n1, b1, k0, k1, l1, c1⟩ := tkP (A := [11]) (G := [O (ch c), O (.str "")]) (dm := dC (.int 13)) (m := 13) (z := z) (v2 := O (.int r)) (v3 := v3) (v4 := O (.str sgS)) (v5 := O (ch c)) (v6 := .no) (v7 := .no) (v8 := .no) (v9 := .no) (v10 := .no) (ns := ns) (st := st) (lk.app (a0_ (ah_ _) (a0_ (ah_ _) bz_))) rfl hl (by decide) (by decide)
 obtain ⟨c2, hc2, e⟩ := mG_ k0 (by omega)
 have a := hp_ (f := le_) (da := ae_ (ab_ 4)) (E := PF ns st z (O (.int r)) v3 (O (.str sgS)) (O (ch c)) .no .no .no .no .no ++ [O (ch c), O (.str "")]) (E1 := PF ns st z (O (.int r)) v3 (O (.str sgS)) (O (ch c)) .no .no .no .no .no ++ [O (ch c), O (.str "")]) rfl c1 e
 have ls : ek_ (an_ (ab_ 5) (an_ (dC (.str "")) (af_ (eOp le_ (ae_ (ab_ 4)) (ag_ K20.g__law_take (aa_ (ab_ 0) (aa_ (dC (.int 13)) ai_)))) aJ_))) (PF ns st z (O (.int r)) v3 (O (.str sgS)) (O (ch c)) .no .no .no .no .no) = some (.lst [.dat (ch c), .dat (.str ""), .dat (ch c2)], PF n1 b1 z (O (.int r)) v3 (O (.str sgS)) (O (ch c)) .no .no .no .no .no) :=
  eH_ lk hn (k := 3) (G := [.dat (ch c), .dat (.str ""), .dat (ch c2)]) (lP_own rfl (lP_own rfl (lE_go a rfl))) rfl (by decide)
 have mn : ∃ i : Nat, i < 3 /\ dCB hT_ (aa_ (ab_ 2) (aa_ (dC (.int 2)) ai_)) (PF n1 b1 z (O (.int r)) v3 (O (.str sgS)) (O (ch c)) .no .no .no .no .no ++ [.own (dL idD [ch c, .str "", ch c2])]) = some (.val (.dat (.int (i : Nat)))) := by
  have : dCB hT_ (aa_ (ab_ 2) (aa_ (dC (.int 2)) ai_)) (PF n1 b1 z (O (.int r)) v3 (O (.str sgS)) (O (ch c)) .no .no .no .no .no ++ [.own (dL idD [ch c, .str "", ch c2])]) = some (.val (.dat (.int (if 2 < r then 2 else r)))) := rfl
  rw [this]
  by_cases h : 2 < r
  ·rw [if_pos h]; exact ⟨2, by decide, rfl⟩
  ·rw [if_neg h]; exact ⟨r.toNat, by omega, by rw [Int.toNat_of_nonneg r0]⟩
 obtain ⟨i, hi, em⟩ := mn
 have l2 : af_ (ek_ (an_ (ab_ 5) (an_ (dC (.str "")) (af_ (eOp le_ (ae_ (ab_ 4)) (ag_ K20.g__law_take (aa_ (ab_ 0) (aa_ (dC (.int 13)) ai_)))) aJ_)))) (an_ (dCB hT_ (aa_ (ab_ 2) (aa_ (dC (.int 2)) ai_))) aJ_) (PF ns st z (O (.int r)) v3 (O (.str sgS)) (O (ch c)) .no .no .no .no .no) = some (2, PF n1 b1 z (O (.int r)) v3 (O (.str sgS)) (O (ch c)) .no .no .no .no .no ++ [.own (dL idD [ch c, .str "", ch c2]), O (.int (i : Nat))]) :=
  lE_go (s := dL idD [ch c, .str "", ch c2]) ls (lP_own em rfl)
 have hx : ∃ y : Str, [ch c, PyData.str "", ch c2][i]? = some (.str y) /\ Asc (tl y) /\ y.length <= 1 := by
  have one : ∀ c : Nat, c < 128 -> Asc (tl (⟨#[c]⟩ : Str)) := fun c hc x m => by
   have : x = c := by simpa [tl] using m
   omega
  match i, hi with
  | 0, _ => exact ⟨⟨#[c]⟩, rfl, one c hc, Nat.le_refl 1⟩
  | 1, _ => exact ⟨("" : Str), rfl, fun x m => (nomatch m), by decide⟩
  | 2, _ => exact ⟨⟨#[c2]⟩, rfl, one c2 hc2, Nat.le_refl 1⟩
 obtain ⟨y, hy, ya, yl⟩ := hx
 exact ⟨y, n1, b1, ya, yl, l1, cK_ (A := [11]) (X := [.own (dL idD [ch c, .str "", ch c2]), O (.int (i : Nat))]) lk hn l2 (when_go (ePure_go (iY_ hy))) rfl⟩
end
open DQ17 (as_ ay_)
open Gn hiding g__law_take g__law_begun d__law_take d__law_begun v_begun eBg
section
variable {ns : List Int} {st : Int} {z : Str} {v2 v3 v4 v5 v6 v7 v8 v9 v10 : Sl} {A : List Nat} {E : En} {l rows words : List Str}
theorem mH_ {da db : En -> Option Rs} {m : Nat} {r : Rs} (ha : da E = some (.val (dL PyData.str l))) (hb : db E = some (.val (.dat (.int (m : Nat))))) (hl : l.length <= 1) (hm : m <= 2) : cq_ lc_ da db E = some (.val (dL PyData.str (List.replicate m l).flatten)) := by
 refine fp_ (a := .val (dL PyData.str l)) (b := .val (.dat (.int (m : Nat)))) ha hb rfl rfl ?_
 have hm2 : l.length * m <= 2 := Nat.le_trans (Nat.mul_le_mul hl hm) (by decide)
 show (match bc_ (l.map fun x => S.dat (.str x)) with | some _ => if (0 : Int) <= ((m : Nat) : Int) /\ ((m : Nat) : Int) < 100000 /\ (l.map fun x => S.dat (.str x)).length * ((m : Nat) : Int).toNat < 100000 then some (S.lst (List.replicate ((m : Nat) : Int).toNat (l.map fun x => S.dat (.str x))).flatten) else none | none => none) = _
 rw [show bc_ (l.map fun x => S.dat (.str x)) = some (l.map .str) from bG_ (f := PyData.str) (xs := l)]
 simp only
 rw [if_pos ⟨by omega, by omega, by rw [List.length_map, Int.toNat_natCast]; omega⟩, Int.toNat_natCast]
 unfold dL
 rw [List.map_flatten, List.map_replicate]
theorem nT_ {da db : En -> Option Rs} {r1 r2 : Rs} {xs ys : List Str} (ha : da E = some r1) (hr : r1.at E = some (dL PyData.str xs)) (hb : db E = some r2) (hs : ∃ s, r2.at E = some s /\ s.seqL = some (ys.map PyData.str)) (hl : xs.length + ys.length < 100000) : cq_ b0_ da db E = some (.val (dL PyData.str (xs ++ ys))) := by
 obtain ⟨s, h1, h2⟩ := hs
 refine fp_ ha hb hr h1 ?_
 unfold b0_
 simp only [bG_, h2]
 rw [List.length_map, List.length_map, if_pos hl]
 unfold dL
 rw [List.map_append, List.map_append, List.map_map, List.map_map]; rfl
theorem eI_ (l : List Str) : l.length <= tot l := by unfold tot; omega
theorem lZ_ {k : Nat} {w : Str} (h : l[k]? = some w) : (l.drop k).take 1 = [w] := by
 obtain ⟨hk, e⟩ := List.getElem?_eq_some_iff.mp h
 rw [List.drop_eq_getElem_cons hk, e]; rfl
theorem kY_ {i k : Nat} {dk : En -> Option Rs} (h : E[i]? = some (.own (dL PyData.str l))) (hk : dk E = some (.val (.dat (.int (k : Nat))))) (hkl : k <= l.length) : dSl c8_ (ab_ i) ax_ (aV_ dk) E = some (.val (dL PyData.str (l.take k))) :=
 np_ (f := PyData.str) (xs := l) (r := .pl [i]) (f8_ h rfl) (cJ_ h) hk hkl
theorem kZ_ {i k : Nat} {dk : En -> Option Rs} (h : E[i]? = some (.own (dL PyData.str l))) (hk : dk E = some (.val (.dat (.int (k : Nat))))) : dSl c8_ (ab_ i) (aV_ dk) ax_ E = some (.val (dL PyData.str (l.drop k))) :=
 h4_ (f := PyData.str) (xs := l) (r := .pl [i]) (f8_ h rfl) (cJ_ h) hk
theorem pn_ {i k m : Nat} {dk dm : En -> Option Rs} (h : E[i]? = some (.own (dL PyData.str l))) (hk : dk E = some (.val (.dat (.int (k : Nat))))) (hm : dm E = some (.val (.dat (.int ((k + m : Nat) : Int))))) (hkl : k <= l.length) : dSl c8_ (ab_ i) (aV_ dk) (aV_ dm) E = some (.val (dL PyData.str ((l.drop k).take m))) :=
 nq_ (f := PyData.str) (xs := l) (r := .pl [i]) (f8_ h rfl) (cJ_ h) hk hm hkl
theorem iZ_ {i k : Nat} (h : E[i]? = some (O (.int (k : Nat)))) : dOp dR_ (ab_ i) (dC (.int 1)) E = some (.val (.dat (.int ((k + 1 : Nat) : Int)))) := by
 rw [ay_ (a := .int (k : Nat)) (b := .int 1) (c := .int ((k : Nat) + 1)) (bo_ h) rfl rfl]
 rfl
def po_ : En -> Option Rs := (cq_ b0_ (cq_ b0_ (dSl c8_ (ab_ 6) ax_ (aV_ (ab_ 7))) (cq_ lc_ (dSl c8_ (ab_ 6) (aV_ (ab_ 7)) (aV_ (dOp dR_ (ab_ 7) (dC (.int 1))))) (aC_ (ba_ (aa_ (dC (.int 0)) (aa_ (dC (.int 2)) ai_))) (dOp e4_ (ab_ 2) (dC (.int 3)))))) (dSl c8_ (ab_ 6) (aV_ (dOp dR_ (ab_ 7) (dC (.int 1)))) ax_))
theorem nU_ {r : Int} {k : Nat} (h2 : E[2]? = some (O (.int r))) (h6 : E[6]? = some (.own (dL PyData.str rows))) (h7 : E[7]? = some (O (.int (k : Nat)))) (hr : r = 3 ∨ r = 4) (hk : k < rows.length) (ht : tot rows < 20002) :
  ∃ l : List Str, po_ E = some (.val (dL PyData.str l)) /\ (∀ w ∈ l, w ∈ rows) /\ tot l <= 3 * tot rows := by
 have hw : rows[k]? = some rows[k] := List.getElem?_eq_getElem hk
 have mw : rows[k] ∈ rows := List.getElem_mem hk
 generalize rows[k] = w at hw mw
 have lw := gM_ mw
 have t1 := lZ_ hw
 have ix : ∃ m : Nat, m <= 2 /\ aC_ (ba_ (aa_ (dC (.int 0)) (aa_ (dC (.int 2)) ai_))) (dOp e4_ (ab_ 2) (dC (.int 3))) E = some (.val (.dat (.int (m : Nat)))) := by
  have e : ∀ j : Nat, dOp e4_ (ab_ 2) (dC (.int 3)) E = some (.val (.dat (.int (j : Nat)))) -> j < 2 -> ∃ m : Nat, m <= 2 /\ aC_ (ba_ (aa_ (dC (.int 0)) (aa_ (dC (.int 2)) ai_))) (dOp e4_ (ab_ 2) (dC (.int 3))) E = some (.val (.dat (.int (m : Nat)))) := fun j hj h => by
   have ls : ba_ (aa_ (dC (.int 0)) (aa_ (dC (.int 2)) ai_)) E = some (.val (dL PyData.int [0, 2])) := rfl
   match j, h with
   | 0, _ => exact ⟨0, by decide, eP_ (f := PyData.int) (xs := [0, 2]) (k := 0) ls rfl hj rfl⟩
   | 1, _ => exact ⟨2, by decide, eP_ (f := PyData.int) (xs := [0, 2]) (k := 1) ls rfl hj rfl⟩
  rcases hr with rfl | rfl
  ·exact e 0 (ay_ (a := .int 3) (b := .int 3) (bo_ h2) rfl rfl) (by decide)
  ·exact e 1 (ay_ (a := .int 4) (b := .int 3) (bo_ h2) rfl rfl) (by decide)
 obtain ⟨m, hm, em⟩ := ix
 have a1 := kY_ (k := k) h6 (bo_ h7) (by omega)
 have a2 := pn_ (k := k) (m := 1) h6 (bo_ h7) (iZ_ h7) (by omega)
 rw [t1] at a2
 have a3 := mH_ (r := .pl []) a2 em (by simp) hm
 have a4 := kZ_ (k := k + 1) h6 (iZ_ h7)
 have hl := eI_ rows
 have hrl : (List.replicate m [w]).flatten.length <= 2 := by rw [List.length_flatten]; simp; omega
 have b1 := nT_ a1 rfl a3 ⟨_, rfl, bG_⟩ (by rw [List.length_take]; omega)
 have b2 := nT_ b1 rfl a4 ⟨_, rfl, bG_⟩ (by rw [List.length_append, List.length_take, List.length_drop]; omega)
 refine ⟨_, b2, fun x mx => ?_, ?_⟩
 ·rcases List.mem_append.mp mx with mx | mx
  ·rcases List.mem_append.mp mx with mx | mx
   ·exact List.mem_of_mem_take mx
   ·obtain ⟨q, mq, e⟩ := List.mem_flatten.mp mx
    rw [(List.mem_replicate.mp mq).2, List.mem_singleton] at e
    rw [e]; exact mw
  ·exact List.mem_of_mem_drop mx
 ·rw [cL_, cL_]
  have := gT_ rows k
  have r3 : tot (List.replicate m [w]).flatten <= 2 * tot rows := by
   have e : tot (List.replicate m [w]).flatten = m * (w.length + 1) := by
    clear em a3 hrl b1 b2
    induction m with
    | zero => simp [tot]
    | succ m ih => rw [List.replicate_succ, List.flatten_cons, cL_, ih (by omega)]; simp only [tot, List.map_cons, List.map_nil, List.sum_cons, List.sum_nil, List.length_cons, List.length_nil, Nat.add_mul]; omega
   rw [e]
   have h1 : w.length + 1 <= tot rows := by
    have : 1 <= rows.length := by omega
    unfold tot; omega
   calc m * (w.length + 1) <= 2 * (w.length + 1) := Nat.mul_le_mul_right _ hm
    _ <= 2 * tot rows := Nat.mul_le_mul_left _ h1
  omega
end
open DQ17 (as_ ay_)
open Gn hiding g__law_take g__law_begun d__law_take d__law_begun v_begun eBg
section
variable {ns : List Int} {st : Int} {z : Str} {A : List Nat} {E B : En} {l rows words : List Str}
abbrev l0_ : Nat -> En -> Option (S × En) := fun k => aT_ k 2 (ae_ ((cq_ b0_) (dGh k 0) (dGh k 1)))
theorem pp_ {da : En -> Option Rs} {s : S} (h : da E = some (.val s)) : ae_ da E = some (s, E) := by unfold ae_; rw [h]
theorem pX_ {dl : En -> Option (Nat × En)} {xs ys : List Str} {s : S} (hA : Lk A B) (hn : ∀ j ∈ A, j < B.length) (h : dl E = some (2, B ++ [.own (dL PyData.str xs), .own s])) (hs : s.seqL = some (ys.map PyData.str)) (hl : xs.length + ys.length < 100000) : bh_ dl l0_ E = some (dL PyData.str (xs ++ ys), B) := by
 refine cK_ (A := A) (X := [.own (dL PyData.str xs), .own s]) hA hn h (when_go (pp_ ?_)) rfl
 have g0 : dGh 2 0 (B ++ [.own (dL PyData.str xs), .own s]) = some (.pl [B.length]) := by rw [gh0]; exact f8_ hE_ rfl
 have g1 : dGh 2 1 (B ++ [.own (dL PyData.str xs), .own s]) = some (rsO (B.length + 1) s) := by rw [gh1]; exact ns_ gS_
 exact nT_ g0 (cJ_ hE_) g1 ⟨s, oQ_ gS_, hs⟩ hl
def odds : List Str := ["", "0", "00", "-", "-1", "-0", "19", "20", "1000000", "1000001", "10000000", "ask", "turn", "x", "7 8"]
def qZ_ : S := dL idD (odds.map PyData.str)
theorem mI_ : ∀ o ∈ odds, (tl o).all (fun c => decide (c < 128)) = true /\ (tl o).length <= 8 := by decide +kernel
def QF (ns : List Int) (st : Int) (z : Str) (r p k j : Int) (y : Str) (rows : List Str) (v8 : Sl) : En := PF ns st z (O (.int r)) (O (.int p)) (O (.str sgS)) (O (.str y)) (.own (dL PyData.str rows)) (O (.int k)) v8 (O (.int j)) (.own qZ_)
theorem nV_ {r p k j : Int} {y : Str} {v8 : Sl} (h8 : Fr v8) (hA : 11 ∈ A) : Lk A (QF ns st z r p k j y rows v8) := ii_ hA (ah_ _) (ah_ _) (ah_ _) (ah_ _) (ah_ _) (ah_ _) h8 (ah_ _) (ah_ _)
def l1_ : En -> Option (S × En) := (bh_ (an_ (ab_ 10) (af_ (ag_ K20.g__law_take (aa_ (ab_ 0) (aa_ (dC (.int 15)) ai_))) aJ_)) ixg)
def inW : En -> Option (S × En) := (bh_ (af_ (ek_ (an_ (hY_ (ba_ ai_)) (an_ (hY_ (cq_ lc_ (ba_ (aa_ (aC_ (ab_ 8) (ab_ 9)) ai_)) (dC (.int 2)))) (af_ (fH_ (ek_ (af_ l1_ aJ_))) aJ_)))) (an_ (dOp e4_ (ab_ 2) (dC (.int 5))) aJ_)) ixg)
theorem pq_ {r p k : Int} {j : Nat} {y w : Str} {Y : S} (hr : 5 <= r /\ r < 8) (hw : words[j]? = some w) (hl : ns.length < 1000) :
  ∃ (ys : List Str) (ns' : List Int) (st' : Int), ns'.length < 1000 /\ (∀ x ∈ ys, x = w ∨ x ∈ odds) /\ tot ys <= 2 * (w.length + 1) + 9 /\ inW (QF ns st z r p k j y rows (.own (dL PyData.str words)) ++ [.own Y]) = some (.dat (.list (ys.map PyData.str)), QF ns' st' z r p k j y rows (.own (dL PyData.str words)) ++ [.own Y]) := by
 have lk : ∀ {ns st G}, (∀ e ∈ G, Fr e) -> Lk [11, 10] (QF ns st z r p k j y rows (.own (dL PyData.str words)) ++ G) := fun {ns st G} hG => (nV_ (ah_ _) (by simp)).app fun e m q z => absurd z (hG e m q)
 have len : ∀ {ns st G}, ∀ i ∈ [11, 10], i < (QF ns st z r p k j y rows (.own (dL PyData.str words)) ++ G).length := fun {ns st G} i m => by
  have : (QF ns st z r p k j y rows (.own (dL PyData.str words)) ++ G).length = 13 + G.length := by rw [List.length_append]; rfl
  rw [this]
  rcases List.mem_cons.mp m with rfl | m
  ·omega
  ·rw [List.mem_singleton.mp m]; omega
 have f1 : ∀ e ∈ ([.own Y] : En), Fr e := fun e m => by rw [List.mem_singleton.mp m]; exact ah_ _
 have f3 : ∀ e ∈ ([.own Y, O (.list []), O (.list [.str w, .str w])] : En), Fr e := fun e m => by
  simp only [List.mem_cons, List.not_mem_nil, or_false] at m
  rcases m with rfl | rfl | rfl <;> exact ah_ _
 -- a word twice
 have tw : hY_ (cq_ lc_ (ba_ (aa_ (aC_ (ab_ 8) (ab_ 9)) ai_)) (dC (.int 2))) (QF ns st z r p k j y rows (.own (dL PyData.str words)) ++ [.own Y, O (.list [])]) = some (.val (.dat (.list [.str w, .str w]))) := by
  have ix : aC_ (ab_ 8) (ab_ 9) (QF ns st z r p k j y rows (.own (dL PyData.str words)) ++ [.own Y, O (.list [])]) = some (.val (.dat (.str w))) := eP_ (f := PyData.str) (xs := words) (k := j) (r := .pl [8]) rfl (show S.get _ [] = _ from S.get_nil _) rfl hw
  have ls : ba_ (aa_ (aC_ (ab_ 8) (ab_ 9)) ai_) (QF ns st z r p k j y rows (.own (dL PyData.str words)) ++ [.own Y, O (.list [])]) = some (.val (dL PyData.str [w])) := by
   unfold ba_
   rw [am_ ix rfl]; rfl
  exact (oP_ (f := PyData.str) (xs := [w, w]) (mH_ (m := 2) (r := .pl []) ls rfl (by simp) (by decide))).trans rfl
 -- one of the odd ones
 obtain ⟨i, x, i15, hx, n1, b1, l1, c1⟩ := kU_ (A := [11, 10]) (p := 11) (q := 10) (m := 15) (ns := ns) (st := st) (xs := odds.map PyData.str) (dx := ab_ 10) (dr := aa_ (ab_ 0) (aa_ (dC (.int 15)) ai_)) (E := QF ns st z r p k j y rows (.own (dL PyData.str words)) ++ [.own Y, O (.list []), O (.list [.str w, .str w])]) (lk f3) len (by simp) rfl rfl (by decide) rfl rfl hl (by decide) (by decide) (by decide)
 rw [List.getElem?_map] at hx
 obtain ⟨o, ho, rfl⟩ := Option.map_eq_some_iff.mp hx
 have mo : o ∈ odds := List.mem_of_getElem? ho
 have c2 : ek_ (af_ l1_ aJ_) (QF ns st z r p k j y rows (.own (dL PyData.str words)) ++ [.own Y, O (.list []), O (.list [.str w, .str w])]) = some (dL PyData.str [o], QF n1 b1 z r p k j y rows (.own (dL PyData.str words)) ++ [.own Y, O (.list []), O (.list [.str w, .str w])]) :=
  eH_ (A := [11, 10]) (lk f3) len (k := 1) (G := [.dat (.str o)]) (lE_go c1 rfl) rfl (by decide)
 have c3 := fr_ (f := PyData.str) c2
 have c4 : ek_ (an_ (hY_ (ba_ ai_)) (an_ (hY_ (cq_ lc_ (ba_ (aa_ (aC_ (ab_ 8) (ab_ 9)) ai_)) (dC (.int 2)))) (af_ (fH_ (ek_ (af_ l1_ aJ_))) aJ_))) (QF ns st z r p k j y rows (.own (dL PyData.str words)) ++ [.own Y]) = some (dL idD [.list [], .list [.str w, .str w], .list [.str o]], QF n1 b1 z r p k j y rows (.own (dL PyData.str words)) ++ [.own Y]) := by
  refine eH_ (A := [11, 10]) (lk f1) len (k := 3) (G := [.dat (.list []), .dat (.list [.str w, .str w]), .dat (.list [.str o])]) ?_ rfl (by decide)
  refine lP_own (k := 2) (s := .dat (.list [])) rfl ?_
  rw [List.append_assoc]
  refine lP_own (k := 1) (s := .dat (.list [.str w, .str w])) tw ?_
  rw [List.append_assoc]
  exact lE_go (k := 0) c3 (by rw [List.append_assoc]; rfl)
 obtain ⟨d, rfl⟩ : ∃ d : Nat, r = 5 + d := ⟨(r - 5).toNat, by omega⟩
 have sb : dOp e4_ (ab_ 2) (dC (.int 5)) (QF n1 b1 z (5 + (d : Int)) p k j y rows (.own (dL PyData.str words)) ++ [.own Y] ++ [.own (dL idD [.list [], .list [.str w, .str w], .list [.str o]])]) = some (.val (.dat (.int (d : Nat)))) := by
  rw [ay_ (a := .int (5 + (d : Int))) (b := .int 5) (c := .int (5 + (d : Int) - 5)) rfl rfl rfl, show (5 + (d : Int) - 5) = d by omega]
 have c5 : af_ (ek_ (an_ (hY_ (ba_ ai_)) (an_ (hY_ (cq_ lc_ (ba_ (aa_ (aC_ (ab_ 8) (ab_ 9)) ai_)) (dC (.int 2)))) (af_ (fH_ (ek_ (af_ l1_ aJ_))) aJ_)))) (an_ (dOp e4_ (ab_ 2) (dC (.int 5))) aJ_) (QF ns st z (5 + (d : Int)) p k j y rows (.own (dL PyData.str words)) ++ [.own Y]) = some (2, QF n1 b1 z (5 + (d : Int)) p k j y rows (.own (dL PyData.str words)) ++ [.own Y] ++ [.own (dL idD [.list [], .list [.str w, .str w], .list [.str o]]), .own (.dat (.int (d : Nat)))]) :=
  lE_go c4 (lP_own sb (by simp [aJ_]))
 have fin : ∀ ys : List Str, [PyData.list [], .list [.str w, .str w], .list [.str o]][d]? = some (.list (ys.map PyData.str)) -> inW (QF ns st z (5 + (d : Int)) p k j y rows (.own (dL PyData.str words)) ++ [.own Y]) = some (.dat (.list (ys.map PyData.str)), QF n1 b1 z (5 + (d : Int)) p k j y rows (.own (dL PyData.str words)) ++ [.own Y]) := fun ys hy =>
  cK_ (A := [11, 10]) (X := [.own (dL idD [.list [], .list [.str w, .str w], .list [.str o]]), .own (.dat (.int (d : Nat)))]) (lk f1) len c5 (when_go (ePure_go (iY_ hy))) rfl
 have d3 : d < 3 := by omega
 rcases (show d = 0 ∨ d = 1 ∨ d = 2 by omega) with rfl | rfl | rfl
 ·exact ⟨[], n1, b1, l1, fun x m => (nomatch m), by simp [tot], fin [] rfl⟩
 ·exact ⟨[w, w], n1, b1, l1, fun x m => by simp at m; exact .inl m, by simp [tot]; omega, fin [w, w] rfl⟩
 ·refine ⟨[o], n1, b1, l1, fun x m => by simp at m; rw [m]; exact .inr mo, ?_, fin [o] rfl⟩
  have := (mI_ o mo).2
  have e : o.length = (tl o).length := len_tl o
  simp only [tot, List.map_cons, List.map_nil, List.sum_cons, List.sum_nil, List.length_cons, List.length_nil]
  omega
def qO_ : En -> Option (S × En) := (bh_ (af_ (bh_ (an_ (dSl c8_ (ab_ 8) ax_ (aV_ (ab_ 9))) (af_ inW aJ_)) l0_) (an_ (dSl c8_ (ab_ 8) (aV_ (dOp dR_ (ab_ 9) (dC (.int 1)))) ax_) aJ_)) l0_)
theorem pr_ {r p k : Int} {j : Nat} {y w : Str} (hr : 5 <= r /\ r < 8) (hw : words[j]? = some w) (hl : ns.length < 1000) (ht : tot words < 21000) :
  ∃ (ws : List Str) (ns' : List Int) (st' : Int), ns'.length < 1000 /\ (∀ x ∈ ws, x ∈ words ∨ x ∈ odds) /\ tot ws <= 3 * tot words + 9 /\ qO_ (QF ns st z r p k j y rows (.own (dL PyData.str words))) = some (dL PyData.str ws, QF ns' st' z r p k j y rows (.own (dL PyData.str words))) := by
 have lk : ∀ {ns st}, Lk [11] (QF ns st z r p k j y rows (.own (dL PyData.str words))) := fun {ns st} => nV_ (ah_ _) (by simp)
 have len : ∀ {ns st}, ∀ i ∈ [11], i < (QF ns st z r p k j y rows (.own (dL PyData.str words))).length := fun {ns st} i m => by rw [List.mem_singleton.mp m]; show 11 < 13; decide
 have hj := (List.getElem?_eq_some_iff.mp hw).1
 have mw := List.mem_of_getElem? hw
 have lw := gM_ mw
 have tl1 := eI_ words
 obtain ⟨ys, n1, b1, l1, my, ty, c1⟩ := pq_ (z := z) (p := p) (k := k) (y := y) (rows := rows) (Y := dL PyData.str (words.take j)) (st := st) hr hw hl
 have hw1 : w.length + 1 <= tot words := by unfold tot; omega
 have ty2 := eI_ ys
 have a1 := kY_ (E := QF ns st z r p k j y rows (.own (dL PyData.str words))) (i := 8) (k := j) (dk := ab_ 9) rfl rfl (Nat.le_of_lt hj)
 have c2 : bh_ (an_ (dSl c8_ (ab_ 8) ax_ (aV_ (ab_ 9))) (af_ inW aJ_)) l0_ (QF ns st z r p k j y rows (.own (dL PyData.str words))) = some (dL PyData.str (words.take j ++ ys), QF n1 b1 z r p k j y rows (.own (dL PyData.str words))) :=
  pX_ (A := [11]) (s := .dat (.list (ys.map PyData.str))) lk len (lP_own a1 (lE_go c1 (by simp [aJ_]))) rfl (by rw [List.length_take]; omega)
 have a2 := kZ_ (E := QF n1 b1 z r p k j y rows (.own (dL PyData.str words)) ++ [.own (dL PyData.str (words.take j ++ ys))]) (i := 8) (k := j + 1) (dk := dOp dR_ (ab_ 9) (dC (.int 1))) rfl (iZ_ rfl)
 have c3 : qO_ (QF ns st z r p k j y rows (.own (dL PyData.str words))) = some (dL PyData.str ((words.take j ++ ys) ++ words.drop (j + 1)), QF n1 b1 z r p k j y rows (.own (dL PyData.str words))) :=
  pX_ (A := [11]) (s := dL PyData.str (words.drop (j + 1))) lk len (lE_go c2 (lP_own a2 (by simp [aJ_]))) bG_ (by rw [List.length_append, List.length_take, List.length_drop]; omega)
 refine ⟨_, n1, b1, l1, fun x m => ?_, ?_, c3⟩
 ·rcases List.mem_append.mp m with m | m
  ·rcases List.mem_append.mp m with m | m
   ·exact .inl (List.mem_of_mem_take m)
   ·rcases my x m with rfl | m
    ·exact .inl mw
    ·exact .inr m
  ·exact .inl (List.mem_of_mem_drop m)
 ·rw [cL_, cL_]
  have := gT_ words j
  omega
def q0_ : En -> Option (S × En) := (cv_ (dC (.str "\n")) (bh_ (af_ (bh_ (an_ (dSl c8_ (ab_ 6) ax_ (aV_ (ab_ 7))) (af_ (ek_ (af_ (cv_ (dC (.str " ")) (c6_ 8)) aJ_)) aJ_)) l0_) (an_ (dSl c8_ (ab_ 6) (aV_ (dOp dR_ (ab_ 7) (dC (.int 1)))) ax_) aJ_)) l0_))
theorem ps_ {r p j : Int} {k : Nat} {y : Str} (hk : k < rows.length) (hr : tot rows < 21000) (ht : tot words < 64000) :
  q0_ (QF ns st z r p k j y rows (.own (dL PyData.str words))) = some (.dat (.str (Txt.join nlS ((rows.take k ++ [Txt.join spS words]) ++ rows.drop (k + 1)))), QF ns st z r p k j y rows .no) := by
 have lk : ∀ {v8}, Fr v8 -> Lk [11] (QF ns st z r p k j y rows v8) := fun {v8} h => nV_ h (by simp)
 have len : ∀ {v8}, ∀ i ∈ [11], i < (QF ns st z r p k j y rows v8).length := fun {v8} i m => by rw [List.mem_singleton.mp m]; show 11 < 13; decide
 have tr := eI_ rows
 have l1 : spS.length = 1 := by rw [len_tl, co_]; rfl
 have l2 : nlS.length = 1 := by rw [len_tl, eF_]; rfl
 have a1 := kY_ (E := QF ns st z r p k j y rows (.own (dL PyData.str words))) (i := 6) (k := k) (dk := ab_ 7) rfl rfl (Nat.le_of_lt hk)
 have mv : c6_ 8 (QF ns st z r p k j y rows (.own (dL PyData.str words)) ++ [.own (dL PyData.str (rows.take k))]) = some (dL PyData.str words, QF ns st z r p k j y rows .no ++ [.own (dL PyData.str (rows.take k))]) := rfl
 have j1 : cv_ (dC (.str " ")) (c6_ 8) (QF ns st z r p k j y rows (.own (dL PyData.str words)) ++ [.own (dL PyData.str (rows.take k))]) = some (.dat (.str (Txt.join spS words)), QF ns st z r p k j y rows .no ++ [.own (dL PyData.str (rows.take k))]) := fD_ (y := spS) rfl mv l1 (by omega)
 have b1 : ek_ (af_ (cv_ (dC (.str " ")) (c6_ 8)) aJ_) (QF ns st z r p k j y rows (.own (dL PyData.str words)) ++ [.own (dL PyData.str (rows.take k))]) = some (dL PyData.str [Txt.join spS words], QF ns st z r p k j y rows .no ++ [.own (dL PyData.str (rows.take k))]) :=
  eH_ (A := [11]) ((lk aL_).app (a0_ (ah_ _) bz_)) (fun i m => by rw [List.length_append]; have := len (v8 := .no) i m; omega) (k := 1) (G := [.dat (.str (Txt.join spS words))]) (lE_go j1 rfl) rfl (by decide)
 have c2 : bh_ (an_ (dSl c8_ (ab_ 6) ax_ (aV_ (ab_ 7))) (af_ (ek_ (af_ (cv_ (dC (.str " ")) (c6_ 8)) aJ_)) aJ_)) l0_ (QF ns st z r p k j y rows (.own (dL PyData.str words))) = some (dL PyData.str (rows.take k ++ [Txt.join spS words]), QF ns st z r p k j y rows .no) :=
  pX_ (A := [11]) (s := dL PyData.str [Txt.join spS words]) (lk aL_) len (lP_own a1 (lE_go b1 (by simp [aJ_]))) bG_ (by rw [List.length_take]; simp; omega)
 have a2 := kZ_ (E := QF ns st z r p k j y rows .no ++ [.own (dL PyData.str (rows.take k ++ [Txt.join spS words]))]) (i := 6) (k := k + 1) (dk := dOp dR_ (ab_ 7) (dC (.int 1))) rfl (iZ_ rfl)
 have c3 : bh_ (af_ (bh_ (an_ (dSl c8_ (ab_ 6) ax_ (aV_ (ab_ 7))) (af_ (ek_ (af_ (cv_ (dC (.str " ")) (c6_ 8)) aJ_)) aJ_)) l0_) (an_ (dSl c8_ (ab_ 6) (aV_ (dOp dR_ (ab_ 7) (dC (.int 1)))) ax_) aJ_)) l0_ (QF ns st z r p k j y rows (.own (dL PyData.str words))) = some (dL PyData.str ((rows.take k ++ [Txt.join spS words]) ++ rows.drop (k + 1)), QF ns st z r p k j y rows .no) := pX_ (A := [11]) (s := dL PyData.str (rows.drop (k + 1))) (lk aL_) len (lE_go c2 (lP_own a2 (by simp [aJ_]))) bG_ (by rw [List.length_append, List.length_take, List.length_drop]; simp; omega)
 have jl := dA_ (l := words) l1
 refine fD_ (y := nlS) rfl c3 l2 ?_
 rw [cL_, cL_, fa_]
 have := gT_ rows k
 have : tot ([] : List Str) = 0 := rfl
 omega
end
open DQ17 (as_ ay_)
open Gn hiding g__law_take g__law_begun d__law_take d__law_begun v_begun eBg
section
variable {ns : List Int} {st : Int} {z : Str}
theorem mJ_ {i : Nat} {de : En -> Option (S × En)} {s : S} {E E1 E2 : En} (h : de E = some (s, E1)) (h2 : ak_ E1 i (.own s) = E2) : cd_ i de E = some (.nx E2) := by
 unfold cd_
 rw [h]
 simp only [h2]
theorem k0_ : Asc (tl spS) := by rw [co_]; intro c m; rw [List.mem_singleton.mp m]; decide
theorem k1_ : Asc (tl nlS) := by rw [eF_]; intro c m; rw [List.mem_singleton.mp m]; decide
theorem i0_ (hl : ns.length < 1000) (hz : Asc (tl z)) (hn : z.length < 20000) : ∃ (z' : Str) (ns' : List Int) (st' : Int), ns'.length < 1000 /\ Asc (tl z') /\ z'.length <= 4 * z.length + 30 /\ K20.g__law_spoilt [bx ns st, .dat (.str z)] = some (.dat (.str z'), [bx ns' st', .dat (.str z)]) := by
 have t : Tx z := ⟨hz, by omega⟩
 have hs : z.length <= sizeLine := by rw [sizeLine_eq]; omega
 have a11 : 11 ∈ [11] := by simp
 -- deed
 obtain ⟨r, n1, b1, r0, r1, l1, c1⟩ := pW_ (A := [11]) (ns := ns) (st := st) (z := z) (dm := dC (.int 8)) (m := 8) (ii_ a11 aL_ aL_ aL_ aL_ aL_ aL_ aL_ aL_ aL_) rfl hl (by decide) (by decide)
 have s1 : cd_ 2 (ag_ K20.g__law_take (aa_ (ab_ 0) (aa_ (dC (.int 8)) ai_))) (entry 11 [bx ns st, .dat (.str z)]) = some (.nx (PF n1 b1 z (O (.int r)) .no .no .no .no .no .no .no .no)) := mJ_ (E := PF ns st z .no .no .no .no .no .no .no .no .no) c1 rfl
 -- place
 have hm : dOp dR_ (dCB dk_ (aa_ (ab_ 1) ai_)) (dC (.int 1)) (PF n1 b1 z (O (.int r)) .no .no .no .no .no .no .no .no) = some (.val (.dat (.int ((z.length : Nat) + 1)))) := ay_ (gI_ (d := ab_ 1) (z := z) rfl hs) rfl rfl
 obtain ⟨p, n2, b2, p0, p1, l2, c2⟩ := pW_ (A := [11]) (ns := n1) (st := b1) (z := z) (dm := dOp dR_ (dCB dk_ (aa_ (ab_ 1) ai_)) (dC (.int 1))) (ii_ a11 (ah_ _) aL_ aL_ aL_ aL_ aL_ aL_ aL_ aL_) hm l1 (by omega) (by omega)
 obtain ⟨k, rfl⟩ : ∃ k : Nat, p = k := ⟨p.toNat, by omega⟩
 have s2 := mJ_ (i := 3) c2 (E2 := PF n2 b2 z (O (.int r)) (O (.int (k : Nat))) .no .no .no .no .no .no .no) rfl
 have s3 : ap_ 4 (dC (.str "0123456789 -\nascturnbdefghijklmopqvwxyz!#$&'()*+,./:;<=>?@ABCDEFGHIJKLMNOPQRSTUVWXYZ[]^_`{|}~")) (PF n2 b2 z (O (.int r)) (O (.int (k : Nat))) .no .no .no .no .no .no .no) = some (.nx (PF n2 b2 z (O (.int r)) (O (.int (k : Nat))) (O (.str sgS)) .no .no .no .no .no .no)) := rfl
 obtain ⟨c, n4, b4, hc, l4, c4⟩ := qx_ (ns := n2) (st := b2) (z := z) (ah_ (.dat (.int r))) (ah_ (.dat (.int (k : Nat)))) l2
 have s4 := mJ_ (i := 5) c4 (E2 := PF n4 b4 z (O (.int r)) (O (.int (k : Nat))) (O (.str sgS)) (O (ch c)) .no .no .no .no .no) rfl
 obtain ⟨y, n5, b5, ya, yl, l5, c5⟩ := qy_ (ns := n4) (st := b4) (z := z) r0 hc (ah_ (.dat (.int (k : Nat)))) l4
 have s5 := mJ_ (i := 5) c5 (E2 := PF n5 b5 z (O (.int r)) (O (.int (k : Nat))) (O (.str sgS)) (O (.str y)) .no .no .no .no .no) rfl
 let E5 := PF n5 b5 z (O (.int r)) (O (.int (k : Nat))) (O (.str sgS)) (O (.str y)) .no .no .no .no .no
 have t6 : ao_ (aj_ (dOp fLt (ab_ 2) (dC (.int 3)))) E5 = some (decide (r < 3), E5) := pureT_go (as_ (ay_ (a := .int r) (b := .int 3) rfl rfl rfl))
 by_cases h3 : r < 3
 ·rw [decide_eq_true h3] at t6
  have e1 := o8_ (E := E5) (d := ab_ 1) (dk := ab_ 3) (z := z) (k := k) rfl rfl hs
  have ho := pm_ z k
  have e2 := kW_ e1 (bo_ (i := 5) rfl) (by rw [sizeLine_eq]; omega)
  have hk2 : ∃ m : Nat, dOp dR_ (ab_ 3) (dCB lb_ (aa_ (dOp fGt (ab_ 2) (dC (.int 0))) ai_)) E5 = some (.val (.dat (.int (m : Nat)))) := by
   have g : dCB lb_ (aa_ (dOp fGt (ab_ 2) (dC (.int 0))) ai_) E5 = some (.val (.dat (.int (if decide (0 < r) = true then 1 else 0)))) := rfl
   by_cases h : 0 < r
   ·rw [decide_eq_true h, if_pos rfl] at g
    exact ⟨k + 1, ay_ (bo_ (i := 3) rfl) g rfl⟩
   ·rw [decide_eq_false h, if_neg Bool.false_ne_true] at g
    exact ⟨k, (ay_ (c := .int ((k : Nat) + 0)) (bo_ (i := 3) rfl) g rfl).trans (by rw [Int.add_zero])⟩
  obtain ⟨m, em⟩ := hk2
  have e3 := ib_ (E := E5) (d := ab_ 1) (z := z) (k := m) rfl em hs
  have hf := lY_ z m
  have hlen2 : (Txt.slice z none (some (k : Int)) ++ y).length = (Txt.slice z none (some (k : Int))).length + y.length := PySem.Str.length_append _ _
  have e4 := kW_ e2 e3 (by rw [sizeLine_eq]; omega)
  refine ⟨_, n5, b5, l5, kV_ (kV_ (pl_ hz k) ya) (lX_ hz m), ?_, aU_ (ad_ s1 (ad_ s2 (ad_ s3 (ad_ s4 (ad_ s5 (bu_ (cu_ t6 (aQ_ (pure_go e4)))))))))  rfl⟩
  rw [PySem.Str.length_append, hlen2]
  omega
 ·rw [decide_eq_false h3] at t6
  obtain ⟨w1, w2, w3⟩ := kE_ (z := z) eF_ (by decide) hz
  generalize hrows : Txt.split z nlS = rows at w1 w2 w3
  have htr : tot rows = z.length + 1 := w3
  have hrl : 1 <= rows.length := List.length_pos_iff.mpr w1
  have hrn := eI_ rows
  have s6 : ap_ 6 (a7_ (ab_ 1) (dC (.str "\n"))) E5 = some (.nx (PF n5 b5 z (O (.int r)) (O (.int (k : Nat))) (O (.str sgS)) (O (.str y)) (.own (dL PyData.str rows)) .no .no .no .no)) := by
   have sp : a7_ (ab_ 1) (dC (.str "\n")) E5 = some (.val (dL PyData.str rows)) := by rw [<- hrows]; exact cC_ (y := nlS) eF_ rfl t.len
   unfold ap_
   rw [sp]; rfl
  have hlm : bp_ (ab_ 6) (PF n5 b5 z (O (.int r)) (O (.int (k : Nat))) (O (.str sgS)) (O (.str y)) (.own (dL PyData.str rows)) .no .no .no .no) = some (.val (.dat (.int (rows.length : Nat)))) := ko_ (f := PyData.str) (r := .pl [6]) rfl (show S.get _ [] = _ from S.get_nil _)
  obtain ⟨q, n7, b7, q0, q1, l7, c7⟩ := pW_ (A := [11]) (ns := n5) (st := b5) (z := z) (dm := bp_ (ab_ 6)) (ii_ a11 (ah_ _) (ah_ _) (ah_ _) (ah_ _) (ah_ _) aL_ aL_ aL_ aL_) hlm l5 (by omega) (by omega)
  obtain ⟨kk, rfl⟩ : ∃ kk : Nat, q = kk := ⟨q.toNat, by omega⟩
  have hkk : kk < rows.length := by omega
  have s7 := mJ_ (i := 7) c7 (E2 := PF n7 b7 z (O (.int r)) (O (.int (k : Nat))) (O (.str sgS)) (O (.str y)) (.own (dL PyData.str rows)) (O (.int (kk : Nat))) .no .no .no) rfl
  let E7 := PF n7 b7 z (O (.int r)) (O (.int (k : Nat))) (O (.str sgS)) (O (.str y)) (.own (dL PyData.str rows)) (O (.int (kk : Nat))) .no .no .no
  have t8 : ao_ (aj_ (dOp fLt (ab_ 2) (dC (.int 5)))) E7 = some (decide (r < 5), E7) := pureT_go (as_ (ay_ (a := .int r) (b := .int 5) rfl rfl rfl))
  have l2s : nlS.length = 1 := by rw [len_tl, eF_]; rfl
  by_cases h5 : r < 5
  ·rw [decide_eq_true h5] at t8
   obtain ⟨ls, els, mls, tls⟩ := nU_ (E := E7) (r := r) (k := kk) (rows := rows) rfl rfl rfl (by omega) hkk (by omega)
   have j : cv_ (dC (.str "\n")) (ae_ po_) E7 = some (.dat (.str (Txt.join nlS ls)), E7) := fD_ (y := nlS) rfl (pp_ els) l2s (by omega)
   have jl := dA_ (l := ls) l2s
   exact ⟨_, n7, b7, l7, dB_ k1_ fun w m => w2 w (mls w m), by omega, aU_ (ad_ s1 (ad_ s2 (ad_ s3 (ad_ s4 (ad_ s5 (ad_ (bF_ t6 rfl) (ad_ s6 (ad_ s7 (bu_ (cu_ t8 (aQ_ j))))))))))) rfl⟩
  ·rw [decide_eq_false h5] at t8
   have hrow : rows[kk]? = some rows[kk] := List.getElem?_eq_getElem hkk
   have mrow : rows[kk] ∈ rows := List.getElem_mem hkk
   generalize rows[kk] = row at hrow mrow
   have trow : Tx row := d4_ t eF_ (by decide) (by rw [hrows]; exact mrow)
   have lrow := gM_ mrow
   obtain ⟨x1, x2, x3⟩ := kE_ (z := row) co_ (by decide) trow.asc
   generalize hwords : Txt.split row spS = words at x1 x2 x3
   have htw : tot words = row.length + 1 := x3
   have hwl : 1 <= words.length := List.length_pos_iff.mpr x1
   have hwn := eI_ words
   have hrt : row.length + 1 <= tot rows := by unfold tot; omega
   have s8 : ap_ 8 (a7_ (aC_ (ab_ 6) (ab_ 7)) (dC (.str " "))) E7 = some (.nx (PF n7 b7 z (O (.int r)) (O (.int (k : Nat))) (O (.str sgS)) (O (.str y)) (.own (dL PyData.str rows)) (O (.int (kk : Nat))) (.own (dL PyData.str words)) .no .no)) := by
    have ix : aC_ (ab_ 6) (ab_ 7) E7 = some (.val (.dat (.str row))) := eP_ (f := PyData.str) (xs := rows) (k := kk) (r := .pl [6]) rfl (show S.get _ [] = _ from S.get_nil _) rfl hrow
    have sp : a7_ (aC_ (ab_ 6) (ab_ 7)) (dC (.str " ")) E7 = some (.val (dL PyData.str words)) := by rw [<- hwords]; exact cC_ (y := spS) co_ ix trow.len
    unfold ap_
    rw [sp]; rfl
   have hlw : bp_ (ab_ 8) (PF n7 b7 z (O (.int r)) (O (.int (k : Nat))) (O (.str sgS)) (O (.str y)) (.own (dL PyData.str rows)) (O (.int (kk : Nat))) (.own (dL PyData.str words)) .no .no) = some (.val (.dat (.int (words.length : Nat)))) := ko_ (f := PyData.str) (r := .pl [8]) rfl (show S.get _ [] = _ from S.get_nil _)
   obtain ⟨q2, n9, b9, q20, q21, l9, c9⟩ := pW_ (A := [11]) (ns := n7) (st := b7) (z := z) (dm := bp_ (ab_ 8)) (ii_ a11 (ah_ _) (ah_ _) (ah_ _) (ah_ _) (ah_ _) (ah_ _) (ah_ _) aL_ aL_) hlw l7 (by omega) (by omega)
   obtain ⟨j, rfl⟩ : ∃ j : Nat, q2 = j := ⟨q2.toNat, by omega⟩
   have hj : j < words.length := by omega
   have s9 := mJ_ (i := 9) c9 (E2 := PF n9 b9 z (O (.int r)) (O (.int (k : Nat))) (O (.str sgS)) (O (.str y)) (.own (dL PyData.str rows)) (O (.int (kk : Nat))) (.own (dL PyData.str words)) (O (.int (j : Nat))) .no) rfl
   have s10 : ap_ 10 (ba_ (aa_ (dC (.str "")) (aa_ (dC (.str "0")) (aa_ (dC (.str "00")) (aa_ (dC (.str "-")) (aa_ (dC (.str "-1")) (aa_ (dC (.str "-0")) (aa_ (dC (.str "19")) (aa_ (dC (.str "20")) (aa_ (dC (.str "1000000")) (aa_ (dC (.str "1000001")) (aa_ (dC (.str "10000000")) (aa_ (dC (.str "ask")) (aa_ (dC (.str "turn")) (aa_ (dC (.str "x")) (aa_ (dC (.str "7 8")) ai_)))))))))))))))) (PF n9 b9 z (O (.int r)) (O (.int (k : Nat))) (O (.str sgS)) (O (.str y)) (.own (dL PyData.str rows)) (O (.int (kk : Nat))) (.own (dL PyData.str words)) (O (.int (j : Nat))) .no) = some (.nx (QF n9 b9 z r k kk j y rows (.own (dL PyData.str words)))) := rfl
   obtain ⟨ws, nb, bb, lb, mws, tws, cb⟩ := pr_ (ns := n9) (st := b9) (z := z) (r := r) (p := k) (k := kk) (y := y) (rows := rows) ⟨by omega, r1⟩ (List.getElem?_eq_getElem hj) l9 (by omega)
   have sb := mJ_ (i := 8) cb (E2 := QF nb bb z r k kk j y rows (.own (dL PyData.str ws))) rfl
   have cf := ps_ (ns := nb) (st := bb) (z := z) (r := r) (p := k) (j := j) (k := kk) (y := y) (rows := rows) (words := ws) hkk (by omega) (by omega)
   have l1s : spS.length = 1 := by rw [len_tl, co_]; rfl
   have wa : ∀ x ∈ ws, Asc (tl x) := fun x m => by
    rcases mws x m with m | m
    ·exact x2 x m
    ·intro c mc
     have := List.all_eq_true.mp (mI_ x m).1 c mc
     exact of_decide_eq_true this
   have jl1 := dA_ (l := ws) l1s
   have jl2 := dA_ (l := (rows.take kk ++ [Txt.join spS ws]) ++ rows.drop (kk + 1)) l2s
   rw [cL_, cL_, fa_] at jl2
   have := gT_ rows kk
   have t0 : tot ([] : List Str) = 0 := rfl
   refine ⟨_, nb, bb, lb, dB_ k1_ fun w m => ?_, by omega, aU_ (ad_ s1 (ad_ s2 (ad_ s3 (ad_ s4 (ad_ s5 (ad_ (bF_ t6 rfl) (ad_ s6 (ad_ s7 (ad_ (bF_ t8 rfl) (ad_ s8 (ad_ s9 (ad_ s10 (ad_ sb (aQ_ cf)))))))))))))) rfl⟩
   rcases List.mem_append.mp m with m | m
   ·rcases List.mem_append.mp m with m | m
    ·exact w2 w (List.mem_of_mem_take m)
    ·rw [List.mem_singleton.mp m]; exact dB_ k0_ wa
   ·exact w2 w (List.mem_of_mem_drop m)
end
open DQ17 (as_ ay_)
open Gn hiding g__law_take g__law_begun d__law_take d__law_begun v_begun eBg
section
variable {A : List Nat}
theorem q1_ {E0 E1 : En} {i : Nat} {xs ys : List S} {s : S} {de : En -> Option (S × En)} (h : E0[i]? = some (.own (.lst xs))) (h2 : de (E0 ++ [.bor [i]]) = some (s, E1 ++ [.bor [i]])) (h1 : E1[i]? = some (.own (.lst ys))) (hl : ys.length < 100000) (hk : Lk A E1) (hn : ∀ j ∈ A, j < E1.length) : cr_ (hV_ bE_ (ab_ i) de) E0 = some (.nx (E1.set i (.own (.lst (ys ++ [s]))))) := by
 have hi := (List.getElem?_eq_some_iff.mp h1).1
 have g1 : (E1 ++ [Sl.bor [i]])[i]? = some (.own (.lst ys)) := by rw [List.getElem?_append_left hi]; exact h1
 have e := DQ.appE_go (p := [i]) (p' := [i]) (f8_ h rfl) (cJ_ h) h2 (by simp) (cJ_ g1) hl
 refine (gp_ e).trans ?_
 rw [ig_ g1]
 have e2 : (E1 ++ [Sl.bor [i]]).set i (.own (.lst (ys ++ [s]))) = E1.set i (.own (.lst (ys ++ [s]))) ++ [.bor [i]] := List.set_append_left _ _ hi
 rw [e2]
 have lk2 : Lk (i :: A) (E1.set i (.own (.lst (ys ++ [s]))) ++ [.bor [i]]) := by
  refine Lk.app (Lk.set (fun e m q z => ?_) (ah_ _)) (ej_ (by simp) bz_)
  obtain ⟨j, mj, h⟩ := hk e m q z
  exact ⟨j, by simp [mj], h⟩
 rw [lk2.kill (by simp), f1_]
 have lk3 : Lk A (E1.set i (.own (.lst (ys ++ [s])))) := hk.set (ah_ _)
 rw [map_id lk3 (fun e he => kh he) fun j mj => by
  have := hn j mj
  show (if ([j] : List Nat).head? = some (E1.set i (.own (.lst (ys ++ [s])))).length then Sl.no else .bor [j]) = _
  rw [if_neg (by rw [List.length_set]; simp; omega)]]
end
structure St where
 w : Str
 is : List Int
def St.d (s : St) : PyData := .tuple (.str s.w :: s.is.map .int)
structure St.Ok (s : St) : Prop where
 asc : Asc (tl s.w)
 free : 32 ∉ tl s.w /\ 10 ∉ tl s.w
 ne : tl s.w ≠ []
 len : s.w.length <= 8
 num : K20.numF s.w = some (s.is.length : Int)
 sz : ∀ i ∈ s.is, -10000000 < i /\ i < 10000000
def mkS (w : Str) (is : List Int) : St := ⟨w, is⟩
def wOk (w : Str) : Bool := !(tl w).isEmpty && (tl w).all (fun c => decide (c < 128 /\ c ≠ 32 /\ c ≠ 10)) && decide (w.length <= 8)
theorem gU_ {w : Str} {is : List Int} {k : Int} (h : wOk w = true) (hk : K20.numF w = some k) (hl : (is.length : Int) = k) (hs : ∀ i ∈ is, -10000000 < i /\ i < 10000000) : (mkS w is).Ok := by
 unfold wOk at h
 rw [Bool.and_eq_true, Bool.and_eq_true, List.all_eq_true, decide_eq_true_eq] at h
 have f : ∀ c ∈ tl w, c < 128 /\ c ≠ 32 /\ c ≠ 10 := fun c m => of_decide_eq_true (h.1.2 c m)
 exact ⟨fun c m => (f c m).1, ⟨fun m => (f _ m).2.1 rfl, fun m => (f _ m).2.2 rfl⟩, (fun z => by have q : (!(tl w).isEmpty) = true := h.1.1; rw [show tl w = [] from z] at q; cases q), h.2, by show K20.numF w = some (is.length : Int); rw [hk, hl], hs⟩
def DFr (ns : List Int) (st : Int) (v1 v2 v3 v4 v5 : Sl) : En := [.bor [6], v1, v2, v3, v4, v5, .own (bx ns st)]
section
variable {ns : List Int} {st : Int} {v1 v2 v3 v4 v5 : Sl} {A : List Nat} {G : En}
theorem jt_ (hA : 6 ∈ A) (h1 : Fr v1) (h2 : Fr v2) (h3 : Fr v3) (h4 : Fr v4) (h5 : Fr v5) : Lk A (DFr ns st v1 v2 v3 v4 v5) :=
 ej_ hA (a0_ h1 (a0_ h2 (a0_ h3 (a0_ h4 (a0_ h5 (a0_ (ah_ _) bz_))))))
theorem tkD {dm : En -> Option Rs} {m : Int} (h : Lk A (DFr ns st v1 v2 v3 v4 v5 ++ G)) (hm : dm (DFr ns st v1 v2 v3 v4 v5 ++ G) = some (.val (.dat (.int m)))) (hl : ns.length < 1000) (h0 : 0 < m) (h1 : m < 18446744073709551616) :
  ∃ r ns' st', 0 <= r /\ r < m /\ ns'.length < 1000 /\ ag_ K20.g__law_take (aa_ (ab_ 0) (aa_ dm ai_)) (DFr ns st v1 v2 v3 v4 v5 ++ G) = some (.dat (.int r), DFr ns' st' v1 v2 v3 v4 v5 ++ G) := by
 obtain ⟨r, n1, b1, r0, r1, l1, c⟩ := gtk (p := 6) (m := m) (dr := aa_ (ab_ 0) (aa_ dm ai_)) h (am_ rfl (am_ hm rfl)) rfl hl h0 h1
 exact ⟨r, n1, b1, r0, r1, l1, c⟩
def tk0 (m : Int) : En -> Option (S × En) := ag_ K20.g__law_take (aa_ (ab_ 0) (aa_ (dC (.int m)) ai_))
def qz_ : En -> Option (S × En) := (bh_ (an_ (ab_ 0) (af_ (bh_ (an_ (ba_ (aa_ (dC (.int 20)) (aa_ (dOp fZ_ (dC (.int 10)) (dC (.int 6))) ai_))) (af_ (tk0 2) aJ_)) ixg) aJ_)) fun k => aT_ k 2 (ag_ K20.g__law_take (ct_ k)))
theorem pt_ (h1 : Fr v1) (h2 : Fr v2) (h3 : Fr v3) (h4 : Fr v4) (h5 : Fr v5) (hl : ns.length < 1000) : ∃ r ns' st', 0 <= r /\ r < 1000000 /\ ns'.length < 1000 /\ qz_ (DFr ns st v1 v2 v3 v4 v5) = some (.dat (.int r), DFr ns' st' v1 v2 v3 v4 v5) := by
 have lk : ∀ {ns st}, Lk [6] (DFr ns st v1 v2 v3 v4 v5) := fun {ns st} => jt_ (by simp) h1 h2 h3 h4 h5
 have hn : ∀ {ns st}, ∀ j ∈ [6], j < (DFr ns st v1 v2 v3 v4 v5).length := fun {ns st} j m => by rw [List.mem_singleton.mp m]; show 6 < 7; decide
 have hx : ba_ (aa_ (dC (.int 20)) (aa_ (dOp fZ_ (dC (.int 10)) (dC (.int 6))) ai_)) (DFr ns st v1 v2 v3 v4 v5 ++ [.bor [6]]) = some (.val (dL idD [.int 20, .int 1000000])) := rfl
 obtain ⟨x, mx, n1, b1, l1, c1⟩ := nS_ (A := [6]) (p := 6) (m := 2) (ns := ns) (st := st) (E := DFr ns st v1 v2 v3 v4 v5 ++ [.bor [6]]) (dr := aa_ (ab_ 0) (aa_ (dC (.int 2)) ai_)) (lk.app (ej_ (by simp) bz_)) (fun j m => by rw [List.mem_singleton.mp m]; show 6 < 8; decide) hx rfl rfl hl rfl (by decide) (by decide)
 have ex : ∃ k : Int, x = .int k /\ 0 < k /\ k <= 1000000 := by
  rcases List.mem_cons.mp mx with rfl | mx
  ·exact ⟨20, rfl, by decide, by decide⟩
  ·rw [List.mem_singleton.mp mx]; exact ⟨_, rfl, by decide, by decide⟩
 obtain ⟨k, rfl, k0, k1⟩ := ex
 have c2 : an_ (ab_ 0) (af_ (bh_ (an_ (ba_ (aa_ (dC (.int 20)) (aa_ (dOp fZ_ (dC (.int 10)) (dC (.int 6))) ai_))) (af_ (tk0 2) aJ_)) ixg) aJ_) (DFr ns st v1 v2 v3 v4 v5) = some (2, DFr n1 b1 v1 v2 v3 v4 v5 ++ [.bor [6], O (.int k)]) :=
  lP_bor rfl (lE_go c1 rfl)
 obtain ⟨r, n2, b2, r0, r1, l2, c3⟩ := gtk (A := [6]) (p := 6) (m := k) (ns := n1) (st := b1) (E := DFr n1 b1 v1 v2 v3 v4 v5 ++ [.bor [6], O (.int k)]) (dr := ct_ 2) (lk.app (ej_ (by simp) (a0_ (ah_ _) bz_))) rfl rfl l1 k0 (by omega)
 exact ⟨r, n2, b2, r0, by omega, l2, eff_go (A := DFr n1 b1 v1 v2 v3 v4 v5) (B := DFr n2 b2 v1 v2 v3 v4 v5) (G := [.bor [6], O (.int k)]) (G2 := [.bor [6], O (.int k)]) (dc := fun k => aT_ k 2 (ag_ K20.g__law_take (ct_ k))) c2 (when_go c3) (lk.frs hn) rfl⟩
def qP_ : En -> Option Out := (jd_ 3 4 (af_ qz_ (af_ (eOp e4_ (tk0 199) (ae_ (dC (.int 99)))) aJ_)))
theorem pu_ (h3 : v3 = .no ∨ ∃ d, v3 = O d) (h4 : v4 = .no ∨ ∃ d, v4 = O d) (h5 : v5 = .no ∨ ∃ s, v5 = .own s) (hv1 : ∃ s, v1 = .own s) (hv2 : ∃ d, v2 = O d) (hl : ns.length < 1000) : ∃ a b ns' st', (0 <= a /\ a < 1000000) /\ (-99 <= b /\ b <= 99) /\ ns'.length < 1000 /\ qP_ (DFr ns st v1 v2 v3 v4 v5) = some (.nx (DFr ns' st' v1 v2 (O (.int a)) (O (.int b)) v5)) := by
 obtain ⟨s1, rfl⟩ := hv1
 obtain ⟨s2, rfl⟩ := hv2
 have f3 : Fr v3 := by rcases h3 with rfl | ⟨d, rfl⟩; exact aL_; exact ah_ _
 have f4 : Fr v4 := by rcases h4 with rfl | ⟨d, rfl⟩; exact aL_; exact ah_ _
 have f5 : Fr v5 := by rcases h5 with rfl | ⟨d, rfl⟩; exact aL_; exact ah_ _
 have lk : ∀ {ns st}, Lk [6] (DFr ns st (.own s1) (O s2) v3 v4 v5) := fun {ns st} => jt_ (by simp) (ah_ _) (ah_ _) f3 f4 f5
 obtain ⟨a, n1, b1, a0, a1, l1, c1⟩ := pt_ (ns := ns) (st := st) (ah_ s1) (ah_ (.dat s2)) f3 f4 f5 hl
 obtain ⟨b, n2, b2, p0, p1, l2, c2⟩ := tkD (A := [6]) (ns := n1) (st := b1) (v1 := .own s1) (v2 := O s2) (v3 := v3) (v4 := v4) (v5 := v5) (G := [O (.int a)]) (dm := dC (.int 199)) (m := 199) (lk.app (a0_ (ah_ _) bz_)) rfl l1 (by decide) (by decide)
 have c3 : eOp e4_ (tk0 199) (ae_ (dC (.int 99))) (DFr n1 b1 (.own s1) (O s2) v3 v4 v5 ++ [O (.int a)]) = some (.dat (.int (b - 99)), DFr n2 b2 (.own s1) (O s2) v3 v4 v5 ++ [O (.int a)]) := hp_ c2 rfl rfl
 have c4 : af_ qz_ (af_ (eOp e4_ (tk0 199) (ae_ (dC (.int 99)))) aJ_) (DFr ns st (.own s1) (O s2) v3 v4 v5) = some (2, DFr n2 b2 (.own s1) (O s2) v3 v4 v5 ++ [O (.int a), O (.int (b - 99))]) := lE_go c1 (lE_go c3 rfl)
 refine ⟨a, b - 99, n2, b2, ⟨a0, a1⟩, ⟨by omega, by omega⟩, l2, ?_⟩
 refine nr_ (a := .dat (.int a)) (b := .dat (.int (b - 99))) (E2 := DFr n2 b2 (.own s1) (O s2) v3 v4 v5) (E3 := DFr n2 b2 (.own s1) (O s2) (O (.int a)) v4 v5) c4 ?_ ?_ ?_
 ·exact Gn.pop_go (m := 2) (ss := [.dat (.int a), .dat (.int (b - 99))]) rfl (lk.killR (fun j m => by rw [List.mem_singleton.mp m]; show 6 < 7; decide))
 ·rcases h3 with rfl | ⟨d3, rfl⟩ <;> rcases h4 with rfl | ⟨d4, rfl⟩ <;> rcases h5 with rfl | ⟨d5, rfl⟩ <;> rfl
 ·rcases h4 with rfl | ⟨d4, rfl⟩ <;> rcases h5 with rfl | ⟨d5, rfl⟩ <;> rfl
def k2_ (a b c : Int) : List St := [mkS "come" [a], mkS "farewell" [b], mkS "turn" [], mkS "ask" [a, c, b], mkS "send" []]
def nW_ (a b : Int) : List St := [mkS "carry" [a], mkS "twice" [a], mkS "lose" [b], mkS "settle" [a]]
theorem pv_ {a b c : Int} (ha : 0 <= a /\ a < 1000000) (hb : -99 <= b /\ b <= 99) (hc : 0 <= c /\ c < 12) : ∀ s ∈ k2_ a b c ++ nW_ a b, s.Ok := by
 have A : -10000000 < a /\ a < 10000000 := by omega
 have B : -10000000 < b /\ b < 10000000 := by omega
 have C : -10000000 < c /\ c < 10000000 := by omega
 intro s m
 simp only [k2_, nW_, List.cons_append, List.nil_append, List.mem_cons, List.not_mem_nil, or_false] at m
 have one : ∀ x : Int, (-10000000 < x /\ x < 10000000) -> ∀ i ∈ [x], -10000000 < i /\ i < 10000000 := fun x h i m => by rw [List.mem_singleton.mp m]; exact h
 rcases m with rfl | rfl | rfl | rfl | rfl | rfl | rfl | rfl | rfl
 ·exact gU_ (k := 1) (by decide +kernel) (by decide +kernel) rfl (one a A)
 ·exact gU_ (k := 1) (by decide +kernel) (by decide +kernel) rfl (one b B)
 ·exact gU_ (k := 0) (by decide +kernel) (by decide +kernel) rfl (fun i m => nomatch m)
 ·exact gU_ (k := 3) (by decide +kernel) (by decide +kernel) rfl (fun i m => by simp only [List.mem_cons, List.not_mem_nil, or_false] at m; rcases m with rfl | rfl | rfl; exact A; exact C; exact B)
 ·exact gU_ (k := 0) (by decide +kernel) (by decide +kernel) rfl (fun i m => nomatch m)
 ·exact gU_ (k := 1) (by decide +kernel) (by decide +kernel) rfl (one a A)
 ·exact gU_ (k := 1) (by decide +kernel) (by decide +kernel) rfl (one a A)
 ·exact gU_ (k := 1) (by decide +kernel) (by decide +kernel) rfl (one b B)
 ·exact gU_ (k := 1) (by decide +kernel) (by decide +kernel) rfl (one a A)
def qQ_ : En -> Option (S × En) := (bh_ (an_ (dC (.str "ask")) (an_ (ab_ 3) (af_ (tk0 12) (an_ (ab_ 4) aJ_)))) fun k => ae_ (aS_ (ct_ k)))
def nX_ : En -> Option (S × En) := (ek_ (an_ (aS_ (aa_ (dC (.str "come")) (aa_ (ab_ 3) ai_))) (an_ (aS_ (aa_ (dC (.str "farewell")) (aa_ (ab_ 4) ai_))) (an_ (aS_ (aa_ (dC (.str "turn")) ai_)) (af_ qQ_ (an_ (aS_ (aa_ (dC (.str "send")) ai_)) aJ_))))))
theorem nY_ {a b : Int} (h1 : Fr v1) (h2 : Fr v2) (h5 : Fr v5) (hl : ns.length < 1000) : ∃ c ns' st', (0 <= c /\ c < 12) /\ ns'.length < 1000 /\ nX_ (DFr ns st v1 v2 (O (.int a)) (O (.int b)) v5) = some (dL St.d (k2_ a b c), DFr ns' st' v1 v2 (O (.int a)) (O (.int b)) v5) := by
 have lk : ∀ {ns st}, Lk [6] (DFr ns st v1 v2 (O (.int a)) (O (.int b)) v5) := fun {ns st} => jt_ (by simp) h1 h2 (ah_ _) (ah_ _) h5
 have hn : ∀ {ns st G}, ∀ j ∈ [6], j < (DFr ns st v1 v2 (O (.int a)) (O (.int b)) v5 ++ G).length := fun {ns st G} j m => by rw [List.mem_singleton.mp m, List.length_append]; show 6 < 7 + _; omega
 have lkG : ∀ {ns st} {G : List S}, Lk [6] (DFr ns st v1 v2 (O (.int a)) (O (.int b)) v5 ++ G.map Sl.own) := fun {ns st G} => lk.app (pi_ G)
 let G3 : List S := [.dat (.tuple [.str "come", .int a]), .dat (.tuple [.str "farewell", .int b]), .dat (.tuple [.str "turn"])]
 obtain ⟨c, n1, b1, c0, c1, l1, e1⟩ := tkD (A := [6]) (ns := ns) (st := st) (v1 := v1) (v2 := v2) (v3 := O (.int a)) (v4 := O (.int b)) (v5 := v5) (G := (G3 ++ [S.dat (.str "ask"), S.dat (.int a)]).map Sl.own) (dm := dC (.int 12)) (m := 12) lkG rfl hl (by decide) (by decide)
 have e2 : qQ_ (DFr ns st v1 v2 (O (.int a)) (O (.int b)) v5 ++ G3.map Sl.own) = some (.dat (.tuple [.str "ask", .int a, .int c, .int b]), DFr n1 b1 v1 v2 (O (.int a)) (O (.int b)) v5 ++ G3.map Sl.own) := by
  have l : an_ (dC (.str "ask")) (an_ (ab_ 3) (af_ (tk0 12) (an_ (ab_ 4) aJ_))) (DFr ns st v1 v2 (O (.int a)) (O (.int b)) v5 ++ G3.map Sl.own) = some (4, (DFr n1 b1 v1 v2 (O (.int a)) (O (.int b)) v5 ++ G3.map Sl.own) ++ [O (.str "ask"), O (.int a), O (.int c), O (.int b)]) :=
   lP_own (k := 3) (s := .dat (.str "ask")) rfl (lP_own (k := 2) (s := .dat (.int a)) rfl (lE_go (k := 1) (s := .dat (.int c)) (E1 := DFr n1 b1 v1 v2 (O (.int a)) (O (.int b)) v5 ++ (G3 ++ [S.dat (.str "ask"), S.dat (.int a)]).map Sl.own) e1 (lP_own (k := 0) (s := .dat (.int b)) rfl rfl)))
  exact eff_go (A := DFr n1 b1 v1 v2 (O (.int a)) (O (.int b)) v5 ++ G3.map Sl.own) (B := DFr n1 b1 v1 v2 (O (.int a)) (O (.int b)) v5 ++ G3.map Sl.own) (G := [O (.str "ask"), O (.int a), O (.int c), O (.int b)]) (G2 := [O (.str "ask"), O (.int a), O (.int c), O (.int b)]) (dc := fun k => ae_ (aS_ (ct_ k))) l rfl (lkG.frs hn) rfl
 refine ⟨c, n1, b1, ⟨c0, c1⟩, l1, ?_⟩
 exact eH_ (A := [6]) lk (fun j m => by rw [List.mem_singleton.mp m]; show 6 < 7; decide) (k := 5) (G := (k2_ a b c).map fun s => .dat s.d) (lP_own (k := 4) (s := .dat (.tuple [.str "come", .int a])) rfl (lP_own (k := 3) (s := .dat (.tuple [.str "farewell", .int b])) rfl (lP_own (k := 2) (s := .dat (.tuple [.str "turn"])) rfl (lE_go (k := 1) (s := .dat (.tuple [.str "ask", .int a, .int c, .int b])) (E1 := DFr n1 b1 v1 v2 (O (.int a)) (O (.int b)) v5 ++ G3.map Sl.own) e2 (lP_own (k := 0) (s := .dat (.tuple [.str "send"])) rfl rfl))))) rfl (by decide)
end
open DQ17 (as_ ay_)
open Gn hiding g__law_take g__law_begun d__law_take d__law_begun v_begun eBg
section
variable {ns : List Int} {st : Int} {v1 v2 v3 v4 v5 : Sl} {A : List Nat} {G : En}
def nZ_ : En -> Option Rs := (cq_ b0_ (ab_ 5) (ba_ (aa_ (aS_ (aa_ (dC (.str "carry")) (aa_ (ab_ 3) ai_))) (aa_ (aS_ (aa_ (dC (.str "twice")) (aa_ (ab_ 3) ai_))) (aa_ (aS_ (aa_ (dC (.str "lose")) (aa_ (ab_ 4) ai_))) (aa_ (aS_ (aa_ (dC (.str "settle")) (aa_ (ab_ 3) ai_))) ai_))))))
def q2_ : En -> Option Out := (cr_ (hV_ bE_ (ab_ 1) (bh_ (an_ (ab_ 5) (af_ (tk0 9) aJ_)) ixg)))
def n0_ : En -> Option Out := (aE_ qP_ (aE_ (cd_ 5 nX_) (aE_ (ap_ 5 nZ_) q2_)))
theorem pw_ {xs : List St} {d2 : PyData} (h3 : v3 = .no ∨ ∃ d, v3 = O d) (h4 : v4 = .no ∨ ∃ d, v4 = O d) (h5 : v5 = .no ∨ ∃ s, v5 = .own s) (hl : ns.length < 1000) (hx : xs.length < 9999) :
  ∃ (s : St) (ns' : List Int) (st' : Int) (a b : Int) (ys : List St), ns'.length < 1000 /\ s.Ok /\ n0_ (DFr ns st (.own (dL St.d xs)) (O d2) v3 v4 v5) = some (.nx (DFr ns' st' (.own (dL St.d (xs ++ [s]))) (O d2) (O (.int a)) (O (.int b)) (.own (dL St.d ys)))) := by
 obtain ⟨a, b, n1, b1, ha, hb, l1, c1⟩ := pu_ (ns := ns) (st := st) (v1 := .own (dL St.d xs)) (v2 := O d2) h3 h4 h5 ⟨_, rfl⟩ ⟨_, rfl⟩ hl
 have f5 : Fr v5 := by rcases h5 with rfl | ⟨d, rfl⟩; exact aL_; exact ah_ _
 obtain ⟨c, n2, b2, hc, l2, c2⟩ := nY_ (ns := n1) (st := b1) (v1 := .own (dL St.d xs)) (v2 := O d2) (v5 := v5) (a := a) (b := b) (ah_ _) (ah_ _) f5 l1
 have s2 : cd_ 5 nX_ (DFr n1 b1 (.own (dL St.d xs)) (O d2) (O (.int a)) (O (.int b)) v5) = some (.nx (DFr n2 b2 (.own (dL St.d xs)) (O d2) (O (.int a)) (O (.int b)) (.own (dL St.d (k2_ a b c))))) := mJ_ c2 (by rcases h5 with rfl | ⟨d, rfl⟩ <;> rfl)
 have s3 : ap_ 5 nZ_ (DFr n2 b2 (.own (dL St.d xs)) (O d2) (O (.int a)) (O (.int b)) (.own (dL St.d (k2_ a b c)))) = some (.nx (DFr n2 b2 (.own (dL St.d xs)) (O d2) (O (.int a)) (O (.int b)) (.own (dL St.d (k2_ a b c ++ nW_ a b))))) := by
  have e : nZ_ (DFr n2 b2 (.own (dL St.d xs)) (O d2) (O (.int a)) (O (.int b)) (.own (dL St.d (k2_ a b c)))) = some (.val (dL St.d (k2_ a b c ++ nW_ a b))) := by
   refine fp_ (a := .pl [5]) (b := .val (dL St.d (nW_ a b))) (s := dL St.d (k2_ a b c)) (t := dL St.d (nW_ a b)) rfl rfl (show S.get _ [] = _ from S.get_nil _) rfl ?_
   unfold b0_
   simp only [bG_]
   rw [if_pos (by show 5 + 4 < 100000; decide)]
   rfl
  unfold ap_
  rw [e]; rfl
 let ys := k2_ a b c ++ nW_ a b
 have hok := pv_ ha hb hc
 have lk : ∀ {ns st}, Lk [6] (DFr ns st (.own (dL St.d xs)) (O d2) (O (.int a)) (O (.int b)) (.own (dL St.d ys))) := fun {ns st} => jt_ (by simp) (ah_ _) (ah_ _) (ah_ _) (ah_ _) (ah_ _)
 have lk2 : ∀ {ns st}, Lk [6, 5, 1] (DFr ns st (.own (dL St.d xs)) (O d2) (O (.int a)) (O (.int b)) (.own (dL St.d ys))) := fun {ns st} => jt_ (by simp) (ah_ _) (ah_ _) (ah_ _) (ah_ _) (ah_ _)
 obtain ⟨i, x, i9, hi, n3, b3, l3, c3⟩ := kU_ (A := [6, 5, 1]) (p := 6) (q := 5) (m := 9) (ns := n2) (st := b2) (xs := ys.map St.d) (dx := ab_ 5) (dr := aa_ (ab_ 0) (aa_ (dC (.int 9)) ai_)) (E := DFr n2 b2 (.own (dL St.d xs)) (O d2) (O (.int a)) (O (.int b)) (.own (dL St.d ys)) ++ [.bor [1]]) (lk2.app (ej_ (by simp) bz_)) (fun j m => by
   show j < 8
   simp only [List.mem_cons, List.not_mem_nil, or_false] at m
   omega) (by simp) rfl rfl (by decide) rfl rfl l2 (by decide) (by show (9 : Int) <= ((9 : Nat) : Int); decide) (by decide)
 rw [List.getElem?_map] at hi
 obtain ⟨s, hs, rfl⟩ := Option.map_eq_some_iff.mp hi
 have s4 := q1_ (A := [6]) (i := 1) (E0 := DFr n2 b2 (.own (dL St.d xs)) (O d2) (O (.int a)) (O (.int b)) (.own (dL St.d ys))) (E1 := DFr n3 b3 (.own (dL St.d xs)) (O d2) (O (.int a)) (O (.int b)) (.own (dL St.d ys))) (xs := xs.map fun s => S.dat s.d) (ys := xs.map fun s => S.dat s.d) (s := .dat s.d) rfl c3 rfl (by rw [List.length_map]; omega) lk (fun j m => by rw [List.mem_singleton.mp m]; show 6 < 7; decide)
 refine ⟨s, n3, b3, a, b, ys, l3, hok s (List.mem_of_getElem? hs), ad_ c1 (ad_ s2 (ad_ s3 (s4.trans ?_)))⟩
 have : (xs.map fun s => S.dat s.d) ++ [S.dat s.d] = (xs ++ [s]).map fun s => S.dat s.d := by simp
 rw [this]; rfl
theorem n1_ (hl : ns.length < 1000) : ∃ (xs : List St) (ns' : List Int) (st' : Int), ns'.length < 1000 /\ xs.length <= 8 /\ (∀ s ∈ xs, s.Ok) /\ K20.g__law_drawn [bx ns st] = some (dL St.d xs, [bx ns' st']) := by
 have s1 : ap_ 1 (ba_ ai_) (entry 6 [bx ns st]) = some (.nx (DFr ns st (.own (dL St.d [])) .no .no .no .no)) := rfl
 obtain ⟨r, n1, b1, r0, r1, l1, c1⟩ := gtk (A := [6]) (p := 6) (m := 9) (ns := ns) (st := st) (E := DFr ns st (.own (dL St.d [])) .no .no .no .no) (dr := aa_ (ab_ 0) (aa_ (dC (.int 9)) ai_)) (jt_ (by simp) (ah_ _) aL_ aL_ aL_ aL_) rfl rfl hl (by decide) (by decide)
 have src := fV_ (j := r) c1 r0 (by omega)
 obtain ⟨E', hE, xs, n2, b2, v2, v3, v4, v5, rfl, hlen, hok, l2, h2, h3, h4, h5⟩ := e8_ (rd := fun _ i => some (if i < r.toNat then some (.val (.dat (.int (i : Nat)))) else none)) (bd := au_ 2) (db := n0_)
  (fun i E => ∃ (xs : List St) (ns : List Int) (st : Int) (v2 v3 v4 v5 : Sl), E = DFr ns st (.own (dL St.d xs)) v2 v3 v4 v5 /\ xs.length <= i /\ (∀ s ∈ xs, s.Ok) /\ ns.length < 1000 /\ (v2 = .no ∨ ∃ d, v2 = O d) /\ (v3 = .no ∨ ∃ d, v3 = O d) /\ (v4 = .no ∨ ∃ d, v4 = O d) /\ (v5 = .no ∨ ∃ s, v5 = .own s)) r.toNat
  (fun i E hi hJ => by
   obtain ⟨xs, ns, st, v2, v3, v4, v5, rfl, hlen, hok, l, h2, h3, h4, h5⟩ := hJ
   obtain ⟨s, n', b', a, b, ys, l', sok, c⟩ := pw_ (ns := ns) (st := st) (d2 := .int (i : Nat)) (xs := xs) h3 h4 h5 l (by omega)
   refine ⟨_, DFr ns st (.own (dL St.d xs)) (O (.int (i : Nat))) v3 v4 v5, _, iC_ (E := []) hi, ?_, c, xs ++ [s], n', b', _, _, _, _, rfl, by simp; omega, fun x m => ?_, l', .inr ⟨_, rfl⟩, .inr ⟨_, rfl⟩, .inr ⟨_, rfl⟩, .inr ⟨_, rfl⟩⟩
   ·show some (ak_ _ 2 _) = _
    rcases h2 with rfl | ⟨d2, rfl⟩ <;> rcases h3 with rfl | ⟨d3, rfl⟩ <;> rcases h4 with rfl | ⟨d4, rfl⟩ <;> rcases h5 with rfl | ⟨d5, rfl⟩ <;> rfl
   ·rcases List.mem_append.mp m with m | m
    ·exact hok x m
    ·rw [List.mem_singleton.mp m]; exact sok)
  (fun E _ => gq_ (E := [])) r.toNat 0 r.toNat (DFr n1 b1 (.own (dL St.d [])) .no .no .no .no) (by omega) (Nat.le_refl _) ⟨[], n1, b1, .no, .no, .no, .no, rfl, by simp, fun s m => (nomatch m), l1, .inl rfl, .inl rfl, .inl rfl, .inl rfl⟩
 have hf : d8_ (df_ (tk0 9)) (au_ 2) n0_ (DFr ns st (.own (dL St.d [])) .no .no .no .no) = some (.nx (DFr n2 b2 (.own (dL St.d xs)) v2 v3 v4 v5)) := cE_ (E1 := DFr n2 b2 (.own (dL St.d xs)) v2 v3 v4 v5) src (by
  have e0 : (DFr ns st (.own (dL St.d [])) .no .no .no .no).set 6 (.own (bx n1 b1)) = DFr n1 b1 (.own (dL St.d [])) .no .no .no .no := rfl
  rw [List.append_nil, e0]; exact hE)
 have s3 : aY_ (c6_ 1) (DFr n2 b2 (.own (dL St.d xs)) v2 v3 v4 v5) = some (.rt (dL St.d xs) (DFr n2 b2 .no v2 v3 v4 v5)) := by
  rcases h2 with rfl | ⟨d2, rfl⟩ <;> rcases h3 with rfl | ⟨d3, rfl⟩ <;> rcases h4 with rfl | ⟨d4, rfl⟩ <;> rcases h5 with rfl | ⟨d5, rfl⟩ <;> rfl
 exact ⟨xs, n2, b2, l2, by omega, hok, aU_ (ad_ s1 (ad_ hf s3)) (by rfl)⟩
end
open PySem.NumText (AllDigits digitsVal)
open DQ17 (as_ ay_)
open Gn hiding g__law_take g__law_begun d__law_take d__law_begun v_begun eBg
theorem hG_ (m : Nat) : tl (wI (Int.negSucc m)) = 45 :: numL (m + 1) := by
 unfold wI
 rw [tl_ofString, show toString (Int.negSucc m) = "-" ++ Nat.repr (m + 1) from rfl, String.toList_append, List.map_append]
 have h := tl_num (m + 1)
 rw [tl_ofString, show toString (((m + 1 : Nat)) : Int) = Nat.repr (m + 1) from rfl] at h
 rw [h]; rfl
theorem l2_ (n : Nat) : neg (word n) = false := by
 unfold neg
 rw [show tl (word n) = numL n from cI_ n]
 refine decide_eq_false fun h => ?_
 have : 45 ∈ numL n := List.mem_of_mem_head? h
 exact numL_free (n := n) (s := 45) (.inl (by decide)) this
theorem k3_ {i : Int} (h : -10000000 < i /\ i < 10000000) : eR_ (wI i) = some i := by
 cases i with
 | ofNat n =>
  have hn : n < 10 ^ 7 := by have : ((n : Nat) : Int) < 10000000 := h.2; omega
  unfold eR_
  rw [show wI (Int.ofNat n) = word n from rfl, l2_ n, if_neg Bool.false_ne_true, lJ_ hn]; rfl
 | negSucc m =>
  have hm : m + 1 < 10 ^ 7 := by have := h.1; omega
  have e := hG_ m
  have hn : neg (wI (Int.negSucc m)) = true := by unfold neg; rw [e]; rfl
  unfold eR_
  rw [hn, if_pos rfl]
  have hr : tl (rest (wI (Int.negSucc m))) = numL (m + 1) := by rw [fz_, e]; rfl
  have : num (rest (wI (Int.negSucc m))) = some (m + 1) := by
   unfold num
   rw [hr, if_pos (eB_ hm), numL_val]
  rw [this]
  simp only
  rw [if_neg (by omega)]
  congr 1
theorem l3_ {i : Int} (h : -10000000 < i /\ i < 10000000) : (∀ c ∈ tl (wI i), 45 <= c /\ c <= 57) /\ (wI i).length <= 8 := by
 cases i with
 | ofNat n =>
  have hn : n < 10 ^ 7 := by have : ((n : Nat) : Int) < 10000000 := h.2; omega
  refine ⟨fun c m => ?_, Nat.le_trans (dq_ hn) (by decide)⟩
  have m : c ∈ numL n := by rw [<- show tl (word n) = numL n from cI_ n]; exact m
  have := numL_digits n c m
  omega
 | negSucc m =>
  have hm : m + 1 < 10 ^ 7 := by have := h.1; omega
  have e := hG_ m
  refine ⟨fun c mc => ?_, ?_⟩
  ·rw [e] at mc
   rcases List.mem_cons.mp mc with rfl | mc
   ·omega
   ·have := numL_digits (m + 1) c mc; omega
  ·rw [len_tl, e, List.length_cons]
   have := numL_len (k := 7) (by decide) hm
   omega
def wds (s : St) : List Str := s.w :: s.is.map wI
def b1_ (s : St) : Str := Txt.join spS (wds s)
def stT (xs : List St) : Str := Txt.join nlS (xs.map b1_)
theorem l4_ {w : Str} {k : Int} (h : K20.numF w = some k) : k <= 3 := by
 have : ∀ (l : List (Str × Int)) (k : Int), (∀ q ∈ l, q.2 <= 3) -> l.lookup w = some k -> k <= 3 := by
  intro l
  induction l with
  | nil => intro k _ h; cases h
  | cons a r ih =>
   intro k h e
   obtain ⟨x, v⟩ := a
   rw [List.lookup] at e
   split at e
   ·cases e; exact h _ List.mem_cons_self
   ·exact ih k (fun q m => h q (List.mem_cons_of_mem _ m)) e
 exact this K20.numL k (by decide) h
section
variable {s : St} {xs : List St}
theorem fE_ (ok : s.Ok) {w : Str} (m : w ∈ wds s) : Asc (tl w) /\ 32 ∉ tl w /\ 10 ∉ tl w /\ w.length <= 8 := by
 rcases List.mem_cons.mp m with rfl | m
 ·exact ⟨ok.asc, ok.free.1, ok.free.2, ok.len⟩
 ·obtain ⟨i, mi, rfl⟩ := List.mem_map.mp m
  obtain ⟨f, l⟩ := l3_ (ok.sz i mi)
  exact ⟨fun c mc => by have := f c mc; omega, fun z => by have := f _ z; omega, fun z => by have := f _ z; omega, l⟩
theorem i1_ (ok : s.Ok) : s.is.length <= 3 := by have := l4_ ok.num; omega
theorem i2_ {l : List Str} {k : Nat} (h : ∀ w ∈ l, w.length <= k) : tot l <= l.length * (k + 1) := by
 induction l with
 | nil => exact Nat.zero_le _
 | cons a r ih =>
  rw [fa_, List.length_cons, Nat.add_mul, Nat.one_mul]
  have := ih fun w m => h w (List.mem_cons_of_mem _ m)
  have := h a (by simp)
  omega
theorem dt_ (ok : s.Ok) : Asc (tl (b1_ s)) /\ 10 ∉ tl (b1_ s) /\ (b1_ s).length <= 36 /\ tl (b1_ s) ≠ [] := by
 have l1 : spS.length = 1 := by rw [len_tl, co_]; rfl
 have hl : (wds s).length <= 4 := by have := i1_ ok; unfold wds; rw [List.length_cons, List.length_map]; omega
 have ht := i2_ (k := 8) fun w m => (fE_ ok (w := w) m).2.2.2
 have jl := dA_ (l := wds s) l1
 refine ⟨dB_ k0_ fun w m => (fE_ ok m).1, fun m => ?_, ?_, fun z => ?_⟩
 ·unfold b1_ at m
  rw [join_eq, tl_join] at m
  rcases hF_ m with q | ⟨p, mp, q⟩
  ·rw [co_] at q; exact absurd (List.mem_singleton.mp q) (by decide)
  ·obtain ⟨w, mw, rfl⟩ := List.mem_map.mp mp
   exact (fE_ ok mw).2.2.1 q
 ·have : (wds s).length * (8 + 1) <= 4 * 9 := Nat.mul_le_mul_right _ hl
  show (Txt.join spS (wds s)).length <= 36
  omega
 ·unfold b1_ at z
  rw [join_eq, tl_join] at z
  unfold wds at z
  cases hs : s.is.map wI with
  | nil => rw [hs] at z; exact ok.ne z
  | cons a r =>
   rw [hs] at z
   have : tl s.w ++ (tl spS ++ joinL (tl spS) ((a :: r).map tl)) = [] := by simpa [joinL] using z
   exact ok.ne (List.append_eq_nil_iff.mp this).1
theorem ju_ (ok : s.Ok) : Txt.split (b1_ s) spS = wds s :=
 split_join (s := 32) (S := []) co_ (by decide +kernel) (by unfold wds; simp) fun p hp => (fE_ ok hp).2.1
theorem mK_ (ok : s.Ok) : dF_ (b1_ s) = true /\ eS_ (b1_ s) = s.d := by
 unfold dF_ eS_
 rw [ju_ ok]
 unfold wds
 simp only
 constructor
 ·unfold dK_
  rw [List.length_map, ok.num, decide_eq_true rfl, Bool.true_and, List.all_eq_true]
  intro w m
  obtain ⟨i, mi, rfl⟩ := List.mem_map.mp m
  rw [k3_ (ok.sz i mi)]; rfl
 ·unfold fA_ St.d
  congr 2
  rw [List.map_map]
  refine List.map_congr_left fun i mi => ?_
  show vI (wI i) = _
  unfold vI
  rw [k3_ (ok.sz i mi)]; rfl
theorem px_ (ok : ∀ s ∈ xs, s.Ok) (hl : xs.length <= 8) : Asc (tl (stT xs)) /\ (stT xs).length <= 300 := by
 have l2 : nlS.length = 1 := by rw [len_tl, eF_]; rfl
 have ht := i2_ (l := xs.map b1_) (k := 36) fun w m => by obtain ⟨s, ms, rfl⟩ := List.mem_map.mp m; exact (dt_ (ok s ms)).2.2.1
 have jl := dA_ (l := xs.map b1_) l2
 rw [List.length_map] at ht
 have : xs.length * (36 + 1) <= 8 * 37 := Nat.mul_le_mul_right _ hl
 exact ⟨dB_ k1_ fun w m => by obtain ⟨s, ms, rfl⟩ := List.mem_map.mp m; exact (dt_ (ok s ms)).1, by show (Txt.join nlS (xs.map b1_)).length <= 300; omega⟩
theorem n2_ (ok : ∀ s ∈ xs, s.Ok) : az_ (stT xs) = xs.map b1_ := by
 unfold az_
 cases xs with
 | nil => rfl
 | cons s r =>
  have hne : (stT (s :: r)).length ≠ 0 := fun z => by
   rw [len_tl, List.length_eq_zero_iff] at z
   unfold stT at z
   rw [join_eq, tl_join] at z
   have q := (dt_ (ok s (by simp))).2.2.2
   cases hr : r.map b1_ with
   | nil => rw [List.map_cons, hr] at z; exact q z
   | cons a r' =>
    rw [List.map_cons, hr] at z
    have : tl (b1_ s) ++ (tl nlS ++ joinL (tl nlS) ((a :: r').map tl)) = [] := by simpa [joinL] using z
    exact q (List.append_eq_nil_iff.mp this).1
  rw [if_neg hne]
  exact split_join (s := 10) (S := []) eF_ (by decide +kernel) (by simp) fun p hp => by
   obtain ⟨s', ms, rfl⟩ := List.mem_map.mp hp
   exact (dt_ (ok s' ms)).2.1
theorem n3_ (ok : ∀ s ∈ xs, s.Ok) (hl : xs.length <= 8) : K20.g_read_stepsN [.dat (.str (stT xs))] = some (dL St.d xs, [.dat (.str (stT xs))]) := by
 obtain ⟨ta, tlen⟩ := px_ ok hl
 have t : Tx (stT xs) := ⟨ta, by omega⟩
 have h := eT_ t
 rw [n2_ ok] at h
 have hf : aK_ (e9_ (xs.map b1_)) (xs.map b1_).length 0 = none := fb_none.mpr fun p _ hp => by
  have hp : p < (xs.map b1_).length := by omega
  unfold e9_
  rw [List.getElem?_eq_getElem hp]
  simp only
  rw [List.getElem_map, (mK_ (ok _ (List.getElem_mem _))).1]; rfl
 rw [hf] at h
 have e : dL eS_ (xs.map b1_) = dL St.d xs := by
  unfold dL
  rw [List.map_map]
  congr 1
  exact List.map_congr_left fun s ms => by show S.dat (eS_ (b1_ s)) = _; rw [(mK_ (ok s ms)).2]
 simp only [e] at h
 show gRt K20.g_read_steps _ = _
 unfold gRt
 rw [h]
def fW (d : PyData) (v1 v2 : Sl) : En := [O d, v1, v2, O d]
def py_ : PyData -> Str | .str a => a | .int i => wI i | _ => Str.empty
theorem fF_ (ok : ∀ s ∈ xs, s.Ok) (hl : xs.length <= 8) : K20.g_written_steps [.dat (.list (xs.map St.d))] = some (.dat (.str (stT xs)), [.dat (.list (xs.map St.d))]) := by
 have l1 : spS.length = 1 := by rw [len_tl, co_]; rfl
 have l2 : nlS.length = 1 := by rw [len_tl, eF_]; rfl
 let D : PyData := .list (xs.map St.d)
 have inner : ∀ s ∈ xs, cv_ (dC (.str " ")) (eLc (eU_ (ab_ 1)) 2 cs_ (ae_ (dCB hZ_ (aa_ (ab_ 2) ai_)))) (fW D (O s.d) .no) = some (.dat (.str (b1_ s)), fW D (O s.d) .no) := fun s ms => by
  have oks := ok s ms
  have lc := lcD (xs := (PyData.str s.w :: s.is.map PyData.int)) (f := fun d => d) (g := fun d => S.dat (.str (py_ d))) (j := 2) (src := eU_ (ab_ 1)) (de := ae_ (dCB hZ_ (aa_ (ab_ 2) ai_))) (E := fW D (O s.d) .no) (E0 := fW D (O s.d) .no) (by rw [List.length_cons, List.length_map]; have := i1_ oks; omega) (by rw [List.map_id']; rfl) rfl (fun d md => by
   refine ⟨fW D (O s.d) (O d), rfl, ?_, rfl⟩
   refine pure_go ?_
   rcases List.mem_cons.mp md with rfl | md
   ·rfl
   ·obtain ⟨i, mi, rfl⟩ := List.mem_map.mp md
    have hs := oks.sz i mi
    refine kl_ (rs := [.val (.dat (.int i))]) (ds := [.int i]) rfl rfl ?_
    show (if i.natAbs.log2 < 1920 then some (PyData.str (toString i)) else none) = _
    rw [if_pos]
    ·rfl
    ·by_cases hz : i.natAbs = 0
     ·rw [hz]; decide
     ·exact (Nat.log2_lt hz).mpr (Nat.lt_of_lt_of_le (show i.natAbs < 2 ^ 62 by omega) (Nat.pow_le_pow_right (by decide) (by decide))))
  have e : (S.lst ((PyData.str s.w :: s.is.map PyData.int).map fun d => S.dat (.str (py_ d)))) = dL PyData.str (wds s) := by
   unfold dL wds
   rw [List.map_cons, List.map_cons, List.map_map, List.map_map]; rfl
  rw [e] at lc
  have ht := i2_ (k := 8) fun w m => (fE_ oks (w := w) m).2.2.2
  have hl4 : (wds s).length <= 4 := by have := i1_ oks; unfold wds; rw [List.length_cons, List.length_map]; omega
  have : (wds s).length * (8 + 1) <= 4 * 9 := Nat.mul_le_mul_right _ hl4
  exact fD_ (y := spS) rfl lc l1 (by omega)
 have outer := lcD (xs := xs) (f := St.d) (g := fun s => S.dat (.str (b1_ s))) (j := 1) (src := c5_ (ab_ 0)) (de := cv_ (dC (.str " ")) (eLc (eU_ (ab_ 1)) 2 cs_ (ae_ (dCB hZ_ (aa_ (ab_ 2) ai_))))) (E := fW D .no .no) (E0 := fW D .no .no) (by omega) (by
  show some (Src.mk _ [] (rdD (xs.map St.d)) (xs.map St.d).length) = _
  rw [List.length_map]) rfl (fun s ms => ⟨fW D (O s.d) .no, rfl, inner s ms, rfl⟩)
 have e2 : (S.lst (xs.map fun s => S.dat (.str (b1_ s)))) = dL PyData.str (xs.map b1_) := by unfold dL; rw [List.map_map]; rfl
 rw [e2] at outer
 have ht := i2_ (l := xs.map b1_) (k := 36) fun w m => by obtain ⟨s, ms, rfl⟩ := List.mem_map.mp m; exact (dt_ (ok s ms)).2.2.1
 rw [List.length_map] at ht
 have : xs.length * (36 + 1) <= 8 * 37 := Nat.mul_le_mul_right _ hl
 exact aU_ (aQ_ (fD_ (y := nlS) rfl outer l2 (by omega))) rfl
end
open DQ17 (as_ ay_)
open Gn hiding g__law_take g__law_begun d__law_take d__law_begun v_begun eBg
def tab (Pt : Addr) : S := .ext (jf_ Pt K20.lamQ_law)
def odd : List PyData := [.str "", .str " ", .str "turn ", .str " turn", .str "turn 1", .str "ask 1 2", .str "ask 1 2 -0", .str "come", .str "come 07", .str "send\n", .str "\nsend", .str "Come 1"]
def oddT : List Str := ["", " ", "turn ", " turn", "turn 1", "ask 1 2", "ask 1 2 -0", "come", "come 07", "send\n", "\nsend", "Come 1"]
theorem pz_ : odd = oddT.map PyData.str := rfl
def k4_ (z : Str) : Bool := (tl z).all (fun c => decide (c < 128)) && decide (z.length <= 300)
theorem n4_ : ∀ z ∈ oddT, Asc (tl z) /\ z.length <= 300 := fun z m => by
 have : k4_ z = true := List.all_eq_true.mp (show oddT.all k4_ = true by decide +kernel) z m
 unfold k4_ at this
 rw [Bool.and_eq_true, List.all_eq_true, decide_eq_true_eq] at this
 exact ⟨fun c mc => of_decide_eq_true (this.1 c mc), this.2⟩
def LG (Pt : Addr) (scr : PyData) (ns : List Int) (st : Int) (v3 v4 v5 v6 v7 v8 v9 v10 v11 : Sl) : En := [O scr, .own (bx ns st), .own (dL idD odd), v3, v4, v5, v6, v7, v8, v9, v10, v11, O scr, .own (tab Pt)]
structure Fr9 (v3 v4 v5 v6 v7 v8 v9 v10 v11 : Sl) : Prop where
 a : Fr v3
 b : Fr v4
 c : Fr v5
 d : Fr v6
 e : Fr v7
 f : Fr v8
 g : Fr v9
 h : Fr v10
 i : Fr v11
section
variable {A : List Nat} {E E1 E2 B X G : En} {Pt : Addr} {scr d : PyData} {ns : List Int} {st : Int} {v3 v4 v5 v6 v7 v8 v9 v10 v11 : Sl} {s s' r : S} {i : Nat}
theorem lg (h : Fr9 v3 v4 v5 v6 v7 v8 v9 v10 v11) : Lk A (LG Pt scr ns st v3 v4 v5 v6 v7 v8 v9 v10 v11) :=
 a0_ (ah_ _) (a0_ (ah_ _) (a0_ (ah_ _) (a0_ h.a (a0_ h.b (a0_ h.c (a0_ h.d (a0_ h.e (a0_ h.f (a0_ h.g (a0_ h.h (a0_ h.i (a0_ (ah_ _) (a0_ (ah_ _) bz_)))))))))))))
theorem l5_ {g : List S -> Option (S × List S)} {dr : En -> Option (List Rs)} (h : Lk A E) (h1 : dr E = some [.pl [i]]) (hp : E[i]? = some (.own s)) (hv : g [s] = some (r, [s'])) :
  ag_ g dr E = some (r, E.set i (.own s')) := by
 rw [Mv.eCall_go (g := g) (rs := [.pl [i]]) (ss := [s]) h1 rfl (by simp only [hQ_, Rs.at, cJ_ hp]) hv]
 show some (_, bV_ (bA_ E [i] s') [i]) = _
 rw [ig_ hp, (h.set (ah_ s')).kill (by simp)]
theorem gV_ {d : PyData} (h : alk d) (hl : Lk A B) (hn : ∀ j ∈ A, j < B.length) {dl : En -> Option (Nat × En)} (h1 : dl E = some (2, B ++ [O d, O d])) : bh_ dl (fun k => aT_ k 2 (ag_ (K20.g__law_alike 9) (ct_ k))) E = some (.dat (.bool true), B) := by
 refine cK_ (A := A) (X := [O d, O d]) hl hn h1 (Gn.when_go ?_) rfl
 have g : ct_ 2 (B ++ [O d, O d]) = some [.val (.dat d), .val (.dat d)] := gR_ (E := B) [d, d]
 exact (Mv.eCall_go (g := K20.g__law_alike 9) (ss := [.dat d, .dat d]) g rfl rfl (show K20.g__law_alike 9 [.dat d, .dat d] = _ from h)).trans rfl
theorem k5_ {dt : En -> Option (S × En)} {d2 : En -> Option Out} (h : dt E = some (.dat (.bool true), E1)) : dIf (dG_ (bb_ dt)) d2 aH_ E = some (.nx E1) :=
 bF_ (dg_ (bQ_ h)) rfl
def pA_ : En -> Option Out := cd_ 4 (fH_ (ag_ K20.g__law_drawn (aa_ (ab_ 1) ai_)))
theorem q3_ (h : Fr9 v3 v4 v5 v6 v7 v8 v9 v10 v11) (hl : ns.length < 1000) : ∃ (xs : List St) (ns' : List Int) (st' : Int), ns'.length < 1000 /\ xs.length <= 8 /\ (∀ s ∈ xs, s.Ok) /\ pA_ (LG Pt scr ns st v3 v4 v5 v6 v7 v8 v9 v10 v11) = some (.nx (LG Pt scr ns' st' v3 (O (.list (xs.map St.d))) v5 v6 v7 v8 v9 v10 v11)) := by
 obtain ⟨xs, n1, b1, l1, hx, ok, e⟩ := n1_ (ns := ns) (st := st) hl
 have c : ag_ K20.g__law_drawn (aa_ (ab_ 1) ai_) (LG Pt scr ns st v3 v4 v5 v6 v7 v8 v9 v10 v11) = some (dL St.d xs, LG Pt scr n1 b1 v3 v4 v5 v6 v7 v8 v9 v10 v11) :=
  (l5_ (A := []) (i := 1) (lg h) rfl rfl e).trans rfl
 refine ⟨xs, n1, b1, l1, hx, ok, ?_⟩
 exact (kT_ (A := []) (fr_ c) (lg h) (by simp)).trans rfl
theorem qA_ {s : St} (ok : s.Ok) {j : Nat} : K17.g__law_alike (j + 2) [.dat s.d, .dat s.d] = some (.dat (.bool true), [.dat s.d, .dat s.d]) := by
 have hn := i1_ ok
 refine DQ17.al_tupB (ds := .str s.w :: s.is.map .int) (j := j + 1) (by simp; omega) fun i d hd => ?_
 rcases List.mem_cons.mp (List.mem_of_getElem? hd) with rfl | m
 ·exact kO_ (kR_ ok.asc)
 ·obtain ⟨x, _, rfl⟩ := List.mem_map.mp m
  exact DQ17.al_int _
theorem pB_ {xs : List St} (ok : ∀ s ∈ xs, s.Ok) (hl : xs.length <= 8) : alk (.list (xs.map St.d)) := DQ17.al_lstB (f := St.d) (j := 8) (by omega) fun s m => qA_ (ok s m)
noncomputable def pC_ : En -> Option Out := dIf (dG_ (bb_ (bh_ (af_ (fH_ (bh_ (af_ (ag_ K20.g_written_steps (aa_ (ab_ 4) ai_)) aJ_) fun k => aT_ k 1 (ag_ K20.g_read_stepsN (ct_ k)))) (an_ (hY_ (ab_ 4)) aJ_)) fun k => aT_ k 2 (ag_ (K20.g__law_alike 9) (ct_ k))))) (aY_ (ae_ (dC (.bool false)))) aH_
theorem pD_ {xs : List St} (ok : ∀ s ∈ xs, s.Ok) (hl : xs.length <= 8) (h4 : E[4]? = some (O (.list (xs.map St.d)))) : ag_ K20.g_written_steps (aa_ (ab_ 4) ai_) E = some (.dat (.str (stT xs)), E) :=
 (Mv.eCall_go (rs := [.val (.dat (.list (xs.map St.d)))]) (am_ (bo_ h4) rfl) rfl rfl (fF_ ok hl)).trans rfl
theorem q4_ (h : Fr9 v3 v4 v5 v6 v7 v8 v9 v10 v11) {xs : List St} (ok : ∀ s ∈ xs, s.Ok) (hl : xs.length <= 8) : pC_ (LG Pt scr ns st v3 (O (.list (xs.map St.d))) v5 v6 v7 v8 v9 v10 v11) = some (.nx (LG Pt scr ns st v3 (O (.list (xs.map St.d))) v5 v6 v7 v8 v9 v10 v11)) := by
 let E := LG Pt scr ns st v3 (O (.list (xs.map St.d))) v5 v6 v7 v8 v9 v10 v11
 have hlk : Lk [] E := lg ⟨h.a, ah_ _, h.c, h.d, h.e, h.f, h.g, h.h, h.i⟩
 have c1 := pD_ (E := E) ok hl rfl
 have l1 : af_ (ag_ K20.g_written_steps (aa_ (ab_ 4) ai_)) aJ_ E = some (1, E ++ [O (.str (stT xs))]) := lE_go c1 rfl
 have c2 : bh_ (af_ (ag_ K20.g_written_steps (aa_ (ab_ 4) ai_)) aJ_) (fun k => aT_ k 1 (ag_ K20.g_read_stepsN (ct_ k))) E = some (dL St.d xs, E) :=
  cK_ (A := []) (X := [O (.str (stT xs))]) hlk (fun j m => nomatch m) l1 (Gn.when_go ((Mv.eCall_go (rs := [.val (.dat (.str (stT xs)))]) (gR_ (E := E) [.str (stT xs)]) rfl rfl (n3_ ok hl)).trans rfl)) rfl
 exact k5_ (gV_ (A := []) (pB_ ok hl) hlk (fun j m => nomatch m) (lE_go (fr_ c2) (lP_own (k := 0) (s := .dat (.list (xs.map St.d))) rfl (by rw [List.append_assoc]; rfl))))
end
open DQ17 (as_ ay_)
open Gn hiding g__law_take g__law_begun d__law_take d__law_begun v_begun eBg
section
variable {A : List Nat} {E E1 E2 B X G : En} {Pt : Addr} {scr d : PyData} {ns : List Int} {st : Int} {v3 v4 v5 v6 v7 v8 v9 v10 v11 : Sl} {s s' r : S} {i : Nat}
theorem ij_ {E : En} (ds : List PyData) (h : ds.length < 1000) : ae_ (aS_ (ct_ ds.length)) (E ++ (ds.map S.dat).map Sl.own) = some (.dat (.tuple ds), E ++ (ds.map S.dat).map Sl.own) := by
 refine pure_go ?_
 unfold aS_
 rw [gR_ (E := E) ds]
 simp only
 rw [if_pos (by rw [List.length_map]; exact h)]
 unfold pM_
 rw [gR_ (E := E) ds]
 simp only
 rw [fB_]; rfl
theorem tkL {dm : En -> Option Rs} {m : Int} (h : Fr9 v3 v4 v5 v6 v7 v8 v9 v10 v11) (hG : Lk [] G) (hm : dm (LG Pt scr ns st v3 v4 v5 v6 v7 v8 v9 v10 v11 ++ G) = some (.val (.dat (.int m)))) (hl : ns.length < 1000) (h0 : 0 < m) (h1 : m < 18446744073709551616) :
  ∃ r ns' st', 0 <= r /\ r < m /\ ns'.length < 1000 /\ ag_ K20.g__law_take (aa_ (ab_ 1) (aa_ dm ai_)) (LG Pt scr ns st v3 v4 v5 v6 v7 v8 v9 v10 v11 ++ G) = some (.dat (.int r), LG Pt scr ns' st' v3 v4 v5 v6 v7 v8 v9 v10 v11 ++ G) := by
 obtain ⟨r, n1, b1, r0, r1, l1, c⟩ := gtk (A := []) (p := 1) (m := m) (dr := aa_ (ab_ 1) (aa_ dm ai_)) ((lg h).app hG) (am_ rfl (am_ hm rfl)) rfl hl h0 h1
 exact ⟨r, n1, b1, r0, r1, l1, c.trans rfl⟩
def pE_ : En -> Option Out := cd_ 5 (bh_ (an_ (ba_ (aa_ (dC .none) (aa_ (dC (.int 3)) (aa_ (dOp fZ_ (dC (.int 10)) (dC (.int 6))) ai_)))) (af_ (ag_ K20.g__law_take (aa_ (ab_ 1) (aa_ (dC (.int 3)) ai_))) aJ_)) fun k => aT_ k 2 (ae_ (aC_ (dGh k 0) (dGh k 1))))
theorem q5_ (h : Fr9 v3 v4 v5 v6 v7 v8 v9 v10 v11) (hl : ns.length < 1000) : ∃ (mk : Option Int) (ns' : List Int) (st' : Int), ns'.length < 1000 /\ (∀ k, mk = some k -> 0 <= k /\ k <= 1000000) /\ pE_ (LG Pt scr ns st v3 v4 v5 v6 v7 v8 v9 v10 v11) = some (.nx (LG Pt scr ns' st' v3 v4 (O (DQ.oI mk)) v6 v7 v8 v9 v10 v11)) := by
 obtain ⟨x, mx, n1, b1, l1, c⟩ := nS_ (A := []) (p := 1) (m := 3) (ns := ns) (st := st) (xs := [.none, .int 3, .int 1000000]) (E := LG Pt scr ns st v3 v4 v5 v6 v7 v8 v9 v10 v11) (dx := ba_ (aa_ (dC .none) (aa_ (dC (.int 3)) (aa_ (dOp fZ_ (dC (.int 10)) (dC (.int 6))) ai_)))) (dr := aa_ (ab_ 1) (aa_ (dC (.int 3)) ai_)) (lg h) (fun j m => nomatch m) rfl rfl rfl hl rfl (by decide) (by decide)
 have c : _ = some (S.dat x, LG Pt scr n1 b1 v3 v4 v5 v6 v7 v8 v9 v10 v11) := c
 have s := kT_ (A := []) (i := 5) c (lg h) (by simp)
 simp only [List.mem_cons, List.not_mem_nil, or_false] at mx
 rcases mx with rfl | rfl | rfl
 ·exact ⟨none, n1, b1, l1, fun k hk => (nomatch hk), s.trans rfl⟩
 ·exact ⟨some 3, n1, b1, l1, fun k hk => (by cases hk; decide), s.trans rfl⟩
 ·exact ⟨some 1000000, n1, b1, l1, fun k hk => (by cases hk; decide), s.trans rfl⟩
def qB_ : En -> Option (S × En) := eCS fTuple (eLc (by_ (dC (.int 12))) 11 cs_ (ag_ K20.g__law_take (aa_ (ab_ 1) (aa_ (dC (.int 20)) ai_))))
theorem pF_ (h : Fr9 v3 v4 v5 v6 v7 v8 v9 v10 v11) (hG : Lk [] G) (hl : ns.length < 1000) : ∃ (os : List Int) (ns' : List Int) (st' : Int), ns'.length < 1000 /\ os.length = 12 /\ (∀ i ∈ os, 0 <= i /\ i <= 19) /\ qB_ (LG Pt scr ns st v3 v4 v5 v6 v7 v8 v9 v10 v11 ++ G) = some (.dat (DQ.tD os), LG Pt scr ns' st' v3 v4 v5 v6 v7 v8 v9 v10 .no ++ G) := by
 have src := cg_ (E := LG Pt scr ns st v3 v4 v5 v6 v7 v8 v9 v10 v11 ++ G) (d := dC (.int 12)) (j := 12) rfl (by decide) (by decide)
 have lkn : ∀ {ns st v}, Fr v -> Lk [] (LG Pt scr ns st v3 v4 v5 v6 v7 v8 v9 v10 v ++ G) := fun {ns st v} hv => (lg ⟨h.a, h.b, h.c, h.d, h.e, h.f, h.g, h.h, hv⟩).app hG
 have e0 : ak_ (LG Pt scr ns st v3 v4 v5 v6 v7 v8 v9 v10 v11 ++ G) 11 .no = LG Pt scr ns st v3 v4 v5 v6 v7 v8 v9 v10 .no ++ G := by rw [(lkn h.i).slot (by simp)]; rfl
 obtain ⟨acc, E', hE, os, n1, b1, rfl, rfl, ho, hr, l1⟩ := oC_ (rd := fun _ i => some (if i < 12 then some (.val (.dat (.int (i : Nat)))) else none)) (j := 11) (de := ag_ K20.g__law_take (aa_ (ab_ 1) (aa_ (dC (.int 20)) ai_)))
  (fun i acc E => ∃ (os : List Int) (ns : List Int) (st : Int), acc = os.map (fun i => S.dat (.int i)) /\ E = LG Pt scr ns st v3 v4 v5 v6 v7 v8 v9 v10 .no ++ G /\ os.length = i /\ (∀ i ∈ os, 0 <= i /\ i <= 19) /\ ns.length < 1000) 12 (by decide)
  (fun i acc E hi hJ => by
   obtain ⟨os, ns, st, rfl, rfl, ho, hr, l⟩ := hJ
   obtain ⟨r, n2, b2, r0, r1, l2, c⟩ := tkL (Pt := Pt) (scr := scr) (ns := ns) (st := st) (G := G) (v3 := v3) (v4 := v4) (v5 := v5) (v6 := v6) (v7 := v7) (v8 := v8) (v9 := v9) (v10 := v10) (v11 := O (.int (i : Nat))) (dm := dC (.int 20)) (m := 20) ⟨h.a, h.b, h.c, h.d, h.e, h.f, h.g, h.h, ah_ _⟩ hG rfl l (by decide) (by decide)
   refine ⟨.val (.dat (.int (i : Nat))), LG Pt scr ns st v3 v4 v5 v6 v7 v8 v9 v10 (O (.int (i : Nat))) ++ G, .dat (.int r), LG Pt scr n2 b2 v3 v4 v5 v6 v7 v8 v9 v10 (O (.int (i : Nat))) ++ G, by rw [if_pos hi], ?_, c, os ++ [r], n2, b2, by simp, ?_, by simp; omega, fun x m => ?_, l2⟩
   ·show some (ak_ _ 11 _) = _
    rw [(lkn aL_).slot (by simp)]; rfl
   ·rw [(lkn (v := O (.int (i : Nat))) (ah_ _)).slot (by simp)]; rfl
   ·rcases List.mem_append.mp m with m | m
    ·exact hr x m
    ·rw [List.mem_singleton.mp m]; exact ⟨r0, by omega⟩)
  (fun acc E _ => by rw [if_neg (Nat.lt_irrefl _)]) 12 0 12 [] (LG Pt scr ns st v3 v4 v5 v6 v7 v8 v9 v10 .no ++ G) (by omega) (Nat.le_refl _) rfl ⟨[], ns, st, rfl, rfl, rfl, fun x m => (nomatch m), hl⟩
 refine ⟨os, n1, b1, l1, ho, hr, ?_⟩
 have lc := iB_ (j := 11) (dt := cs_) (de := ag_ K20.g__law_take (aa_ (ab_ 1) (aa_ (dC (.int 20)) ai_))) src (by
  show dLcLoop _ 11 cs_ _ 12 0 [] (ak_ ((LG Pt scr ns st v3 v4 v5 v6 v7 v8 v9 v10 v11 ++ G) ++ []) 11 .no) = _
  rw [List.append_nil, e0]; exact hE)
 refine Mv.eCS_go lc ?_
 show (match ((S.lst (os.map fun i => S.dat (.int i))).seqL <|> (S.lst (os.map fun i => S.dat (.int i))).seqT) with | some ds => some (S.dat (.tuple ds)) | none => none) = _
 have : (os.map fun i => S.dat (.int i)) = (os.map PyData.int).map S.dat := by simp
 show (match (bc_ (os.map fun i => S.dat (.int i)) <|> _) with | some ds => some (S.dat (.tuple ds)) | none => none) = _
 rw [this, b8_]
 rfl
def mL_ : En -> Option Out := cd_ 6 (bh_ (af_ (eOp dR_ (ae_ (dC (.int 1))) (ag_ K20.g__law_take (aa_ (ab_ 1) (aa_ (dOp fZ_ (dC (.int 10)) (dC (.int 6))) ai_)))) (an_ (ab_ 5) (af_ qB_ aJ_))) fun k => ae_ (aS_ (ct_ k)))
theorem q6_ {mk : Option Int} (h : Fr9 v3 v4 (O (DQ.oI mk)) v6 v7 v8 v9 v10 v11) (hl : ns.length < 1000) (hm : ∀ k, mk = some k -> 0 <= k /\ k <= 1000000) : ∃ (e : Ed) (ns' : List Int) (st' : Int), ns'.length < 1000 /\ EdOk e /\ mL_ (LG Pt scr ns st v3 v4 (O (DQ.oI mk)) v6 v7 v8 v9 v10 v11) = some (.nx (LG Pt scr ns' st' v3 v4 (O (DQ.oI mk)) (O e.d) v7 v8 v9 v10 .no)) := by
 obtain ⟨r, n1, b1, r0, r1, l1, c1⟩ := tkL (Pt := Pt) (scr := scr) (ns := ns) (st := st) (G := []) (dm := dOp fZ_ (dC (.int 10)) (dC (.int 6))) (m := 1000000) h bz_ rfl hl (by decide) (by decide)
 rw [List.append_nil, List.append_nil] at c1
 obtain ⟨os, n2, b2, l2, ho, hr, c2⟩ := pF_ (Pt := Pt) (scr := scr) (ns := n1) (st := b1) (G := [O (.int (1 + r)), O (DQ.oI mk)]) h (a0_ (ah_ _) (a0_ (ah_ _) bz_)) l1
 have c0 : eOp dR_ (ae_ (dC (.int 1))) (ag_ K20.g__law_take (aa_ (ab_ 1) (aa_ (dOp fZ_ (dC (.int 10)) (dC (.int 6))) ai_))) (LG Pt scr ns st v3 v4 (O (DQ.oI mk)) v6 v7 v8 v9 v10 v11) = some (.dat (.int (1 + r)), LG Pt scr n1 b1 v3 v4 (O (DQ.oI mk)) v6 v7 v8 v9 v10 v11) := hp_ (x := .int 1) (y := .int r) rfl c1 rfl
 have l : af_ (eOp dR_ (ae_ (dC (.int 1))) (ag_ K20.g__law_take (aa_ (ab_ 1) (aa_ (dOp fZ_ (dC (.int 10)) (dC (.int 6))) ai_)))) (an_ (ab_ 5) (af_ qB_ aJ_)) (LG Pt scr ns st v3 v4 (O (DQ.oI mk)) v6 v7 v8 v9 v10 v11) = some (3, LG Pt scr n2 b2 v3 v4 (O (DQ.oI mk)) v6 v7 v8 v9 v10 .no ++ [O (.int (1 + r)), O (DQ.oI mk), O (DQ.tD os)]) :=
  lE_go (k := 2) c0 (lP_own (k := 1) (s := .dat (DQ.oI mk)) rfl (lE_go (k := 0) c2 rfl))
 refine ⟨⟨1 + r, mk, os⟩, n2, b2, l2, ⟨by constructor <;> (show _ <= _; simp only; omega), hm, ho, hr⟩, ?_⟩
 have e := cK_ (A := []) (dc := fun k => ae_ (aS_ (ct_ k))) (B := LG Pt scr n2 b2 v3 v4 (O (DQ.oI mk)) v6 v7 v8 v9 v10 .no) (lg ⟨h.a, h.b, h.c, h.d, h.e, h.f, h.g, h.h, aL_⟩) (fun j m => nomatch m) l (ij_ [.int (1 + r), DQ.oI mk, DQ.tD os] (show 3 < 1000 by decide)) rfl
 exact (kT_ (A := []) (i := 6) e (lg ⟨h.a, h.b, h.c, h.d, h.e, h.f, h.g, h.h, aL_⟩) (by simp)).trans rfl
end
open DQ17 (as_ ay_)
open Gn hiding g__law_take g__law_begun d__law_take d__law_begun v_begun eBg
section
variable {A : List Nat} {E E1 E2 B X G : En} {Pt : Addr} {scr d : PyData} {ns : List Int} {st : Int} {v3 v4 v5 v6 v7 v8 v9 v10 v11 : Sl} {s s' r : S} {i : Nat}
theorem pG_ (w : Wd) : Asc (tl w.s) := fun c m => by
 cases w with
 | num n =>
  have m : c ∈ numL n := by rw [<- show tl (word n) = numL n from cI_ n]; exact m
  have := numL_digits n c m
  omega
 | dash =>
  have : tl (Wd.s .dash) = [45] := by decide +kernel
  rw [this] at m
  rw [List.mem_singleton.mp m]; decide
theorem qC_ {e : Ed} (ok : EdOk e) : Asc (tl (txt e)) /\ (txt e).length <= 300 := by
 refine ⟨?_, Nat.le_trans (nH_ ok) (by decide)⟩
 unfold txt
 exact dB_ k0_ fun w m => by
  obtain ⟨x, _, rfl⟩ := List.mem_map.mp m
  exact pG_ x
theorem k6_ {de : En -> Option (S × En)} {a b : PyData} {i j : Nat} (h : de E = some (.dat (.tuple [a, b]), E1)) (h1 : Lk [] E1) : hU_ (fJ_ 2 (aX_ (au_ i) (aX_ (au_ j) e6_))) de E = some (.nx ((E1.set i (O a)).set j (O b))) := by
 unfold hU_
 rw [h]
 have h2 : ak_ E1 i (.own (.dat a)) = E1.set i (O a) := h1.slot (by simp)
 have h3 : ak_ (E1.set i (O a)) j (.own (.dat b)) = (E1.set i (O a)).set j (O b) := (h1.set (ah_ _)).slot (by simp)
 show ((fJ_ 2 (aX_ (au_ i) (aX_ (au_ j) e6_)) (.val (.dat (.tuple [a, b]))) E1).map Out.nx) = _
 have : fJ_ 2 (aX_ (au_ i) (aX_ (au_ j) e6_)) (.val (.dat (.tuple [a, b]))) E1 = some ((E1.set i (O a)).set j (O b)) := by
  show (match (some (ak_ E1 i (.own (.dat a))) : Option En) with | some E' => aX_ (au_ j) e6_ [b] E' | none => none) = _
  rw [h2]
  show (match (some (ak_ (E1.set i (O a)) j (.own (.dat b))) : Option En) with | some E' => e6_ [] E' | none => none) = _
  rw [h3]; rfl
 rw [this]; rfl
def pH_ : En -> Option Out := hU_ (fJ_ 2 (aX_ (au_ 7) (aX_ (au_ 8) e6_))) (bh_ (af_ (ag_ K20.g_written (aa_ (ab_ 6) ai_)) (af_ (bh_ (af_ (ek_ (af_ (ag_ K20.g_written_steps (aa_ (ab_ 4) ai_)) (af_ (bh_ (an_ (ab_ 2) (af_ (ag_ K20.g__law_take (aa_ (ab_ 1) (aa_ (dC (.int 12)) ai_))) aJ_)) fun k => aT_ k 2 (ae_ (aC_ (dGh k 0) (dGh k 1)))) aJ_))) (af_ (eOp mc_ (ag_ K20.g__law_take (aa_ (ab_ 1) (aa_ (dC (.int 3)) ai_))) (ae_ (dC (.int 2)))) aJ_)) fun k => aT_ k 2 (ae_ (aC_ (dGh k 0) (dGh k 1)))) aJ_)) fun k => ae_ (aS_ (ct_ k)))
theorem q7_ {xs : List St} {e : Ed} (h : Fr9 v3 (O (.list (xs.map St.d))) v5 (O e.d) v7 v8 v9 v10 v11) (hl : ns.length < 1000) (ok : ∀ s ∈ xs, s.Ok) (hx : xs.length <= 8) (oe : EdOk e) : ∃ (y : Str) (ns' : List Int) (st' : Int), ns'.length < 1000 /\ (Asc (tl y) /\ y.length <= 300) /\ pH_ (LG Pt scr ns st v3 (O (.list (xs.map St.d))) v5 (O e.d) v7 v8 v9 v10 v11) = some (.nx (LG Pt scr ns' st' v3 (O (.list (xs.map St.d))) v5 (O e.d) (O (.str (txt e))) (O (.str y)) v9 v10 v11)) := by
 let F : List Int -> Int -> En := fun ns st => LG Pt scr ns st v3 (O (.list (xs.map St.d))) v5 (O e.d) v7 v8 v9 v10 v11
 let T : Sl := O (.str (txt e))
 have lkF : ∀ {A ns st}, Lk A (F ns st) := fun {A ns st} => lg h
 have c1 : ag_ K20.g_written (aa_ (ab_ 6) ai_) (F ns st) = some (.dat (.str (txt e)), F ns st) :=
  (Mv.eCall_go (rs := [.val (.dat e.d)]) (am_ (bo_ rfl) rfl) rfl rfl (show K20.g_written [.dat e.d] = _ from kL_ oe)).trans rfl
 have c2 : ag_ K20.g_written_steps (aa_ (ab_ 4) ai_) (F ns st ++ [T]) = some (.dat (.str (stT xs)), F ns st ++ [T]) := pD_ ok hx rfl
 obtain ⟨i, x, i12, hi, n1, b1, l1, c3⟩ := kU_ (A := [2]) (p := 1) (q := 2) (m := 12) (ns := ns) (st := st) (xs := odd) (dx := ab_ 2) (dr := aa_ (ab_ 1) (aa_ (dC (.int 12)) ai_)) (E := F ns st ++ [T, O (.str (stT xs))]) (lkF.app (a0_ (ah_ _) (a0_ (ah_ _) bz_))) (fun j m => by rw [List.mem_singleton.mp m]; show 2 < 16; decide) (by simp) rfl rfl (by decide) rfl rfl hl (by decide) (by decide) (by decide)
 rw [pz_, List.getElem?_map] at hi
 obtain ⟨z, hz, rfl⟩ := Option.map_eq_some_iff.mp hi
 have zok := n4_ z (List.mem_of_getElem? hz)
 have c3 : _ = some (S.dat (.str z), F n1 b1 ++ [T, O (.str (stT xs))]) := c3
 let two : List PyData := [.str (stT xs), .str z]
 have c4 : ek_ (af_ (ag_ K20.g_written_steps (aa_ (ab_ 4) ai_)) (af_ (bh_ (an_ (ab_ 2) (af_ (ag_ K20.g__law_take (aa_ (ab_ 1) (aa_ (dC (.int 12)) ai_))) aJ_)) fun k => aT_ k 2 (ae_ (aC_ (dGh k 0) (dGh k 1)))) aJ_)) (F ns st ++ [T]) = some (dL idD two, F n1 b1 ++ [T]) :=
  eH_ (A := []) (k := 2) (G := [S.dat (.str (stT xs)), S.dat (.str z)]) (lkF.app (a0_ (ah_ _) bz_)) (fun j m => nomatch m) (lE_go (k := 1) c2 (lE_go (k := 0) (E1 := F n1 b1 ++ [T, O (.str (stT xs))]) c3 rfl)) rfl (by decide)
 obtain ⟨r, n2, b2, r0, r1, l2, c5⟩ := tkL (Pt := Pt) (scr := scr) (ns := n1) (st := b1) (G := [T, .own (dL idD two)]) (dm := dC (.int 3)) (m := 3) h (a0_ (ah_ _) (a0_ (ah_ _) bz_)) rfl l1 (by decide) (by decide)
 have c6 : eOp mc_ (ag_ K20.g__law_take (aa_ (ab_ 1) (aa_ (dC (.int 3)) ai_))) (ae_ (dC (.int 2))) (F n1 b1 ++ [T, .own (dL idD two)]) = some (.dat (.int (r / 2)), F n2 b2 ++ [T, .own (dL idD two)]) := hp_ (x := .int r) (y := .int 2) c5 rfl rfl
 have hk : ∃ (k : Nat) (y : Str), r / 2 = (k : Nat) /\ two[k]? = some (.str y) /\ Asc (tl y) /\ y.length <= 300 := by
  have : r / 2 = 0 ∨ r / 2 = 1 := by omega
  rcases this with h | h
  ·exact ⟨0, _, h, rfl, px_ ok hx⟩
  ·exact ⟨1, _, h, rfl, zok⟩
 obtain ⟨k, y, hk, hy, ya, yl⟩ := hk
 rw [hk] at c6
 have c7 : bh_ (af_ (ek_ (af_ (ag_ K20.g_written_steps (aa_ (ab_ 4) ai_)) (af_ (bh_ (an_ (ab_ 2) (af_ (ag_ K20.g__law_take (aa_ (ab_ 1) (aa_ (dC (.int 12)) ai_))) aJ_)) fun k => aT_ k 2 (ae_ (aC_ (dGh k 0) (dGh k 1)))) aJ_))) (af_ (eOp mc_ (ag_ K20.g__law_take (aa_ (ab_ 1) (aa_ (dC (.int 3)) ai_))) (ae_ (dC (.int 2)))) aJ_)) (fun k => aT_ k 2 (ae_ (aC_ (dGh k 0) (dGh k 1)))) (F ns st ++ [T]) = some (.dat (.str y), F n2 b2 ++ [T]) :=
  cK_ (A := []) (X := [.own (dL idD two), O (.int (k : Nat))]) (lkF.app (a0_ (ah_ _) bz_)) (fun j m => nomatch m) (lE_go (k := 1) c4 (lE_go (k := 0) (E1 := F n2 b2 ++ [T, .own (dL idD two)]) (by rw [List.append_assoc]; exact c6) (by rw [aJ_]; simp [List.append_assoc, O]))) (Gn.when_go (pure_go (iY_ hy))) rfl
 have c8 := cK_ (A := []) (dc := fun k => ae_ (aS_ (ct_ k))) (B := F n2 b2) (X := [T, O (.str y)]) lkF (fun j m => nomatch m) (lE_go (k := 1) c1 (lE_go (k := 0) (dl := aJ_) c7 (by rw [aJ_]; simp [List.append_assoc, O]))) (ij_ [.str (txt e), .str y] (show 2 < 1000 by decide)) rfl
 exact ⟨y, n2, b2, l2, ⟨ya, yl⟩, (k6_ c8 lkF).trans rfl⟩
def bnd : Nat -> Nat | 0 => 300 | i + 1 => 4 * bnd i + 30
def spB : En -> Option Out := hU_ (fJ_ 2 (aX_ (au_ 7) (aX_ (au_ 8) e6_))) (bh_ (af_ (ag_ K20.g__law_spoilt (aa_ (ab_ 1) (aa_ (ab_ 7) ai_))) (af_ (ag_ K20.g__law_spoilt (aa_ (ab_ 1) (aa_ (ab_ 8) ai_))) aJ_)) fun k => ae_ (aS_ (ct_ k)))
def pI_ : En -> Option Out := d8_ (df_ (ag_ K20.g__law_take (aa_ (ab_ 1) (aa_ (dC (.int 4)) ai_)))) (au_ 9) spB
theorem qD_ {a b : Str} (h : Fr9 v3 v4 v5 v6 (O (.str a)) (O (.str b)) v9 v10 v11) (hl : ns.length < 1000) (ha : Asc (tl a) /\ a.length < 20000) (hb : Asc (tl b) /\ b.length < 20000) : ∃ (a' b' : Str) (ns' : List Int) (st' : Int), ns'.length < 1000 /\ (Asc (tl a') /\ a'.length <= 4 * a.length + 30) /\ (Asc (tl b') /\ b'.length <= 4 * b.length + 30) ∧
  spB (LG Pt scr ns st v3 v4 v5 v6 (O (.str a)) (O (.str b)) v9 v10 v11) = some (.nx (LG Pt scr ns' st' v3 v4 v5 v6 (O (.str a')) (O (.str b')) v9 v10 v11)) := by
 let F : List Int -> Int -> En := fun ns st => LG Pt scr ns st v3 v4 v5 v6 (O (.str a)) (O (.str b)) v9 v10 v11
 have lkF : ∀ {A ns st}, Lk A (F ns st) := fun {A ns st} => lg h
 obtain ⟨a', n1, b1, l1, aa, al, e1⟩ := i0_ (ns := ns) (st := st) (z := a) hl ha.1 ha.2
 obtain ⟨b', n2, b2, l2, ba, bl, e2⟩ := i0_ (ns := n1) (st := b1) (z := b) l1 hb.1 hb.2
 have c1 : ag_ K20.g__law_spoilt (aa_ (ab_ 1) (aa_ (ab_ 7) ai_)) (F ns st) = some (.dat (.str a'), F n1 b1) := (ih_ (A := []) (i := 1) lkF (am_ rfl (am_ (bo_ rfl) rfl)) rfl e1).trans rfl
 have c2 : ag_ K20.g__law_spoilt (aa_ (ab_ 1) (aa_ (ab_ 8) ai_)) (F n1 b1 ++ [O (.str a')]) = some (.dat (.str b'), F n2 b2 ++ [O (.str a')]) := (ih_ (A := []) (i := 1) (lkF.app (a0_ (ah_ _) bz_)) (am_ rfl (am_ (bo_ rfl) rfl)) rfl e2).trans rfl
 have c3 := cK_ (A := []) (dc := fun k => ae_ (aS_ (ct_ k))) (B := F n2 b2) (X := [O (.str a'), O (.str b')]) lkF (fun j m => nomatch m) (lE_go (k := 1) c1 (lE_go (k := 0) (dl := aJ_) c2 (by rw [aJ_]; simp [List.append_assoc, O]))) (ij_ [.str a', .str b'] (show 2 < 1000 by decide)) rfl
 exact ⟨a', b', n2, b2, l2, ⟨aa, al⟩, ⟨ba, bl⟩, (k6_ c3 lkF).trans rfl⟩
theorem q8_ {a b : Str} (h : Fr9 v3 v4 v5 v6 (O (.str a)) (O (.str b)) v9 v10 v11) (hl : ns.length < 1000) (ha : Asc (tl a) /\ a.length <= 300) (hb : Asc (tl b) /\ b.length <= 300) : ∃ (a' b' : Str) (v9' : Sl) (ns' : List Int) (st' : Int), Fr v9' /\ ns'.length < 1000 /\ (Asc (tl a') /\ a'.length < 20000) /\ (Asc (tl b') /\ b'.length < 20000) ∧
  pI_ (LG Pt scr ns st v3 v4 v5 v6 (O (.str a)) (O (.str b)) v9 v10 v11) = some (.nx (LG Pt scr ns' st' v3 v4 v5 v6 (O (.str a')) (O (.str b')) v9' v10 v11)) := by
 obtain ⟨r, n1, b1, r0, r1, l1, c1⟩ := tkL (Pt := Pt) (scr := scr) (ns := ns) (st := st) (G := []) (dm := dC (.int 4)) (m := 4) h bz_ rfl hl (by decide) (by decide)
 rw [List.append_nil, List.append_nil] at c1
 have src := fV_ (j := r) c1 r0 (by omega)
 have hr : r.toNat <= 3 := by omega
 have bb : ∀ i, i < 3 -> bnd i < 20000 := by decide
 have b3 : ∀ i, i <= 3 -> bnd i < 20000 := by decide
 obtain ⟨E', hE, a', b', v9', n2, b2, rfl, f9, l2, ha', hb'⟩ := e8_ (rd := fun _ i => some (if i < r.toNat then some (.val (.dat (.int (i : Nat)))) else none)) (bd := au_ 9) (db := spB)
  (fun i E => ∃ (a b : Str) (v9 : Sl) (ns : List Int) (st : Int), E = LG Pt scr ns st v3 v4 v5 v6 (O (.str a)) (O (.str b)) v9 v10 v11 /\ Fr v9 /\ ns.length < 1000 /\ (Asc (tl a) /\ a.length <= bnd i) /\ (Asc (tl b) /\ b.length <= bnd i)) r.toNat
  (fun i E hi hJ => by
   obtain ⟨a, b, v9, ns, st, rfl, f9, l, ha, hb⟩ := hJ
   have bi := bb i (by omega)
   obtain ⟨a', b', n', b', l', ha', hb', c⟩ := qD_ (Pt := Pt) (scr := scr) (ns := ns) (st := st) (a := a) (b := b) (v9 := O (.int (i : Nat))) ⟨h.a, h.b, h.c, h.d, ah_ _, ah_ _, ah_ _, h.h, h.i⟩ l ⟨ha.1, by omega⟩ ⟨hb.1, by omega⟩
   refine ⟨_, LG Pt scr ns st v3 v4 v5 v6 (O (.str a)) (O (.str b)) (O (.int (i : Nat))) v10 v11, _, iC_ (E := []) hi, ?_, c, a', _, O (.int (i : Nat)), n', _, rfl, ah_ _, l', ⟨ha'.1, ?_⟩, ⟨hb'.1, ?_⟩⟩
   ·show some (ak_ _ 9 _) = _
    rw [(lg (A := []) (v7 := O (.str a)) (v8 := O (.str b)) ⟨h.a, h.b, h.c, h.d, ah_ _, ah_ _, f9, h.h, h.i⟩).slot (by simp)]; rfl
   ·show _ <= 4 * bnd i + 30; omega
   ·show _ <= 4 * bnd i + 30; omega)
  (fun E _ => gq_ (E := [])) r.toNat 0 r.toNat (LG Pt scr n1 b1 v3 v4 v5 v6 (O (.str a)) (O (.str b)) v9 v10 v11) (by omega) (Nat.le_refl _) ⟨a, b, v9, n1, b1, rfl, h.g, l1, ha, hb⟩
 have := b3 _ hr
 refine ⟨a', b', v9', n2, b2, f9, l2, ⟨ha'.1, by omega⟩, ⟨hb'.1, by omega⟩, ?_⟩
 exact (cE_ (E1 := LG Pt scr n2 b2 v3 v4 v5 v6 (O (.str a')) (O (.str b')) v9' v10 v11) src (by
  show dLoop _ (au_ 9) spB _ 0 (LG Pt scr n1 b1 v3 v4 v5 v6 (O (.str a)) (O (.str b)) v9 v10 v11 ++ []) = _
  rw [List.append_nil]; exact hE)).trans rfl
end
open DQ17 (as_ ay_)
open Gn hiding g__law_take g__law_begun d__law_take d__law_begun v_begun eBg
theorem k7_ {E E1 : En} {m t : Nat} {ids : Nat -> LamId} {gs : Nat -> List S -> Option (Rx × List S)} {js : List Nat} {de : En -> Option (S × En)} {x : S × En} (h1 : de E = some (.ext (ob_ t (ids t)), E1)) (hm : t < m) (h2 : ag_ (ji_ (gs t)) (eO_ js) E1 = some x) : ee_ m ids gs js de E = some x := by
 unfold ee_
 rw [h1]
 exact (if_pos ⟨hm, rfl⟩).trans h2
theorem n5_ {n : Nat} {d : En -> Option (Rx × En)} {ss ss' : List S} {rx : Rx} {E : En} (h : d (entry n ss) = some (rx, E)) (h2 : cD_ (E.drop n) = some ss') : mt_ n d ss = some (rx, ss') := by
 unfold mt_
 rw [h]
 cases rx with
 | rt s => simp only [h2]; rfl
 | ex c => simp only [h2]; rfl
theorem n6_ {n : Nat} {d : En -> Option Out} {ss tts l : List S} {s : S} {E : En} (h : d (entry n ss ++ tts.map Sl.own) = some (.rt s E)) (h2 : cD_ (E.drop n) = some l) : oa_ n d ss tts = some (s, l.take ss.length, l.drop ss.length) := by
 unfold oa_; rw [h]; simp only [h2, Option.map_some]
def ik_ : Rx -> S
 | .rt s => s
 | .ex c => .dat (jy_ c)
def okX : Rx -> Bool
 | .rt _ => true
 | .ex c => okC c
theorem l6_ {g : List S -> Option (Rx × List S)} {ss ss' : List S} {rx : Rx} (h : g ss = some (rx, ss')) (hv : okX rx = true) : ji_ g ss = some (ik_ rx, ss') := by
 unfold ji_
 rw [h]
 cases rx with
 | rt v => rfl
 | ex c => exact if_pos hv
theorem i3_ (p : Nat) : okC (1000 + p) = true := by
 unfold okC
 rw [decide_eq_true (Nat.le_add_right 1000 p), Bool.or_true]
section
variable {A : List Nat} {E E1 E2 B X G : En} {Pt : Addr} {scr d : PyData} {ns : List Int} {st : Int} {v3 v4 v5 v6 v7 v8 v9 v10 v11 : Sl} {s s' r : S} {i n : Nat} {z : Str}
theorem n7_ (t : Tx z) : ∃ (rx : Rx) (d : PyData), okX rx = true /\ ik_ rx = .dat d /\ alk d /\ K20.g_read [.dat (.str z)] = some (rx, [.dat (.str z)]) /\ K20.g__law_edition [.dat (.str z)] = some (.dat d, [.dat (.str z)]) := by
 generalize hws : Txt.split z spS = ws
 obtain ⟨a1, a2⟩ := o2_ t hws
 obtain ⟨b1, b2⟩ := jp_ t hws
 cases hr : rdB ws with
 | some p =>
  refine ⟨.ex (1000 + p), bt p, i3_ p, ?_, mD_ p, a1 p hr, b1 p hr⟩
  show S.dat (jy_ (1000 + p)) = _
  rw [kI_]
 | none =>
  obtain ⟨hl, hw, e, ho, hi, hn, hm, hv⟩ := qm_ hr
  have ra := a2 e hr hl hw ho hi hv
  have rb := b2 e hr hl ho hm hv
  cases he : edB e with
  | true =>
   rw [he, if_pos rfl] at ra rb
   exact ⟨.rt (.dat e.d), e.d, rfl, rfl, pf_ ho, ra, rb⟩
  | false =>
   rw [he, if_neg Bool.false_ne_true] at ra rb
   exact ⟨.ex 17, jy_ 17, rfl, rfl, pe_, ra, rb⟩
theorem n8_ (t : Tx z) : ∃ (rx : Rx) (s : S) (d : PyData), okX rx = true /\ (∀ (E E1 : En) (de : En -> Option (S × En)), de E = some (ik_ rx, E1) -> fH_ de E = some (.dat d, E1)) /\ (∀ (E E1 : En) (de : En -> Option (S × En)), de E = some (s, E1) -> fH_ de E = some (.dat d, E1)) /\ alk d /\ K20.g_read_steps [.dat (.str z)] = some (rx, [.dat (.str z)]) /\ K20.g__law_steps [.dat (.str z)] = some (s, [.dat (.str z)]) := by
 obtain ⟨hw, hl⟩ := ie_ t
 have ra := eT_ t
 have rb := if_ t
 cases hf : aK_ (e9_ (az_ z)) (az_ z).length 0 with
 | some p =>
  rw [hf] at ra rb
  refine ⟨.ex (1000 + p), .dat (bt p), bt p, i3_ p, fun E E1 de h => ?_, fun E E1 de h => gv_ h, mD_ p, ra, rb⟩
  have h : de E = some (.dat (jy_ (1000 + p)), E1) := h
  rw [kI_] at h
  exact gv_ h
 | none =>
  rw [hf] at ra rb
  have e : dL el_ (az_ z) = dL eS_ (az_ z) := by
   unfold dL
   congr 1
   refine List.map_congr_left fun r m => ?_
   obtain ⟨i, hi, er⟩ := List.getElem_of_mem m
   have := fb_none.mp hf i (Nat.zero_le _) (by omega)
   unfold e9_ at this
   rw [List.getElem?_eq_getElem hi, er] at this
   have this : (!dF_ r) = false := this
   unfold el_
   rw [if_pos (by simpa using this)]
  simp only [e] at rb
  exact ⟨.rt (dL eS_ (az_ z)), dL eS_ (az_ z), .list ((az_ z).map eS_), rfl, fun E E1 de h => fr_ h, fun E E1 de h => fr_ h, lT_ hw hl, ra, rb⟩
theorem k8_ {g : List S -> Option (Rx × List S)} {ids : Nat -> LamId} {gs : Nat -> List S -> Option (Rx × List S)} {l : LamId} {j : Nat} {rx : Rx} (h : Lk [] E) (hid : ids 0 = l) (hq : l.qual = K20.lamQ_law) (hgs : gs 0 = mt_ 1 (eW_ g (aa_ (ab_ 0) ai_))) (ht : E[13]? = some (.own (tab Pt))) (hj : E[j]? = some (O (.str z))) (hg : g [.dat (.str z)] = some (rx, [.dat (.str z)])) (ok : okX rx = true) :
  ee_ 1 ids gs [j] (ld_ 13 Pt 0 l) E = some (ik_ rx, E) := by
 have e1 : ld_ 13 Pt 0 l E = some (.ext (ob_ 0 (ids 0)), E) := by
  rw [hid, nt_ (i := l) (P := Pt) (by rw [hq]; exact ht), h.kill (by simp)]
 have e2 : gs 0 [.dat (.str z)] = some (rx, [.dat (.str z)]) := by
  rw [hgs]
  exact n5_ (E := [O (.str z), O (.str z)]) ((gN_ (rs := [.val (.dat (.str z))]) rfl rfl rfl hg).trans rfl) rfl
 refine k7_ e1 (by decide) ?_
 have hr : eO_ [j] E = some [.val (.dat (.str z))] := by
  unfold eO_
  rw [bo_ hj]; rfl
 exact (Mv.eCall_go (rs := [.val (.dat (.str z))]) hr rfl rfl (l6_ e2 ok)).trans rfl
noncomputable def g1 (Pt : Addr) (n : Nat) : En -> Option Out := dIf (dG_ (bb_ (bh_ (af_ (fH_ (ee_ 1 (K20.ids_law_0 n) K20.gs_law_0 [7] (ld_ 13 Pt 0 (K20.lam_law_0 n)))) (af_ (ag_ K20.g__law_edition (aa_ (ab_ 7) ai_)) aJ_)) fun k => aT_ k 2 (ag_ (K20.g__law_alike 9) (ct_ k))))) (aY_ (ae_ (dC (.bool false)))) aH_
noncomputable def g2 (Pt : Addr) (n : Nat) : En -> Option Out := dIf (dG_ (bb_ (bh_ (af_ (fH_ (ee_ 1 (K20.ids_law_1 n) K20.gs_law_1 [8] (ld_ 13 Pt 0 (K20.lam_law_1 n)))) (af_ (fH_ (ag_ K20.g__law_steps (aa_ (ab_ 8) ai_))) aJ_)) fun k => aT_ k 2 (ag_ (K20.g__law_alike 9) (ct_ k))))) (aY_ (ae_ (dC (.bool false)))) aH_
noncomputable def pJ_ (Pt : Addr) (n : Nat) : En -> Option Out := d8_ (by_ (dC (.int 2))) (au_ 10) (aE_ (g1 Pt n) (g2 Pt n))
theorem qE_ (h : Lk [] E) (ht : E[13]? = some (.own (tab Pt))) (hj : E[7]? = some (O (.str z))) (t : Tx z) : g1 Pt n E = some (.nx E) := by
 obtain ⟨rx, d, ok, e, al, ra, rb⟩ := n7_ t
 have c1 := k8_ (Pt := Pt) (ids := K20.ids_law_0 n) (gs := K20.gs_law_0) (l := K20.lam_law_0 n) (g := K20.g_read) h rfl rfl rfl ht hj ra ok
 rw [e] at c1
 have c2 : ag_ K20.g__law_edition (aa_ (ab_ 7) ai_) (E ++ [O d]) = some (.dat d, E ++ [O d]) := (Mv.eCall_go (rs := [.val (.dat (.str z))]) (am_ (bo_ (mF_ hj)) rfl) rfl rfl rb).trans rfl
 exact k5_ (gV_ (A := []) al h (fun j m => nomatch m) (lE_go (gv_ c1) (lE_go (k := 0) (dl := aJ_) c2 (by rw [aJ_]; simp [List.append_assoc, O]))))
theorem qF_ (h : Lk [] E) (ht : E[13]? = some (.own (tab Pt))) (hj : E[8]? = some (O (.str z))) (t : Tx z) : g2 Pt n E = some (.nx E) := by
 obtain ⟨rx, s, d, ok, f1, f2, al, ra, rb⟩ := n8_ t
 have c1 := k8_ (Pt := Pt) (ids := K20.ids_law_1 n) (gs := K20.gs_law_1) (l := K20.lam_law_1 n) (g := K20.g_read_steps) h rfl rfl rfl ht hj ra ok
 have c2 : ag_ K20.g__law_steps (aa_ (ab_ 8) ai_) (E ++ [O d]) = some (s, E ++ [O d]) := (Mv.eCall_go (rs := [.val (.dat (.str z))]) (am_ (bo_ (mF_ hj)) rfl) rfl rfl rb).trans rfl
 exact k5_ (gV_ (A := []) al h (fun j m => nomatch m) (lE_go (f1 _ _ _ c1) (lE_go (k := 0) (dl := aJ_) (f2 _ _ _ c2) (by rw [aJ_]; simp [List.append_assoc, O]))))
theorem q9_ {a b : Str} (h : Fr9 v3 v4 v5 v6 (O (.str a)) (O (.str b)) v9 v10 v11) (ta : Tx a) (tb : Tx b) : ∃ v10', Fr v10' /\ ∀ n, pJ_ Pt n (LG Pt scr ns st v3 v4 v5 v6 (O (.str a)) (O (.str b)) v9 v10 v11) = some (.nx (LG Pt scr ns st v3 v4 v5 v6 (O (.str a)) (O (.str b)) v9 v10' v11)) := by
 refine ⟨O (.int ((1 : Nat) : Int)), ah_ _, fun n => ?_⟩
 let F : Sl -> En := fun v => LG Pt scr ns st v3 v4 v5 v6 (O (.str a)) (O (.str b)) v9 v v11
 have lkF : ∀ {v}, Fr v -> Lk [] (F v) := fun hv => lg ⟨h.a, h.b, h.c, h.d, h.e, h.f, h.g, hv, h.i⟩
 have turn : ∀ {v}, Fr v -> aE_ (g1 Pt n) (g2 Pt n) (F v) = some (.nx (F v)) := fun hv => ad_ (qE_ (lkF hv) rfl rfl ta) (qF_ (lkF hv) rfl rfl tb)
 have bd : ∀ {v}, Fr v -> ∀ i : Nat, au_ 10 (.val (.dat (.int (i : Nat)))) (F v) = some (F (O (.int (i : Nat)))) := fun {v} hv i => by
  show some (ak_ (F v) 10 _) = _
  rw [(lkF hv).slot (by simp)]; rfl
 have src := cg_ (E := F v10) (d := dC (.int 2)) (j := 2) rfl (by decide) (by decide)
 have lp : dLoop (fun _ i => some (if i < 2 then some (Rs.val (.dat (.int (i : Nat)))) else none)) (au_ 10) (aE_ (g1 Pt n) (g2 Pt n)) 2 0 (F v10) = some (.nx (F (O (.int ((1 : Nat) : Int))))) := by
  have := e8_ (rd := fun _ i => some (if i < 2 then some (Rs.val (.dat (.int (i : Nat)))) else none)) (bd := au_ 10) (db := aE_ (g1 Pt n) (g2 Pt n)) (fun i E => (i = 0 /\ E = F v10) ∨ (∃ m : Nat, i = m + 1 /\ E = F (O (.int (m : Nat))))) 2
   (fun i E hi hJ => by
    rcases hJ with ⟨rfl, rfl⟩ | ⟨m, rfl, rfl⟩
    ·exact ⟨_, _, _, by rw [if_pos hi], bd h.h 0, turn (ah_ _), .inr ⟨0, rfl, rfl⟩⟩
    ·exact ⟨_, _, _, by rw [if_pos hi], bd (ah_ _) (m + 1), turn (ah_ _), .inr ⟨m + 1, rfl, rfl⟩⟩)
   (fun E _ => by rw [if_neg (Nat.lt_irrefl _)]) 2 0 2 (F v10) (by omega) (Nat.le_refl _) (.inl ⟨rfl, rfl⟩)
  obtain ⟨E', hE, hJ⟩ := this
  rcases hJ with ⟨z, _⟩ | ⟨m, hm, rfl⟩
  ·cases z
  ·obtain rfl : m = 1 := by omega
   exact hE
 exact (cE_ (E1 := F (O (.int ((1 : Nat) : Int)))) src (by
  show dLoop _ (au_ 10) _ 2 0 (F v10 ++ []) = _
  rw [List.append_nil]; exact lp)).trans rfl
end
open DQ17 (as_ ay_)
open Gn hiding g__law_take g__law_begun d__law_take d__law_begun v_begun eBg
theorem l7_ {α : Type} {rd : En -> Nat -> Option (Option Rs)} {bd : Rs -> En -> Option En} {db : α -> En -> Option Out} (J : Nat -> En -> Prop) (n : Nat) (hs : ∀ i E, i < n -> J i E -> ∃ r E1 E2, rd E i = some (some r) /\ bd r E = some E1 /\ (∀ a, db a E1 = some (.nx E2)) /\ J (i + 1) E2) (he : ∀ E, J n E -> rd E n = some none) :
  ∀ (m i fuel : Nat) (E : En), i + m = n -> m <= fuel -> J i E -> ∃ E', (∀ a, dLoop rd bd (db a) fuel i E = some (.nx E')) /\ J n E' := by
 intro m
 induction m with
 | zero =>
  intro i fuel E hi _ hJ
  obtain rfl : i = n := by omega
  refine ⟨E, fun a => ?_, hJ⟩
  have := he E hJ
  cases fuel <;> (unfold dLoop; rw [this])
 | succ m ih =>
  intro i fuel E hi hf hJ
  obtain ⟨r, E1, E2, h1, h2, h3, h4⟩ := hs i E (by omega) hJ
  cases fuel with
  | zero => omega
  | succ fuel =>
   obtain ⟨E', h5, h6⟩ := ih (i + 1) fuel E2 (by omega) (by omega) h4
   refine ⟨E', fun a => ?_, h6⟩
   unfold dLoop
   rw [h1]
   simp only [h2, h3 a]
   exact h5 a
section
variable {Pt : Addr} {scr : PyData} {E : En}
def LJ (Pt : Addr) (scr : PyData) (E : En) : Prop := ∃ (ns : List Int) (st : Int) (v3 v4 v5 v6 v7 v8 v9 v10 v11 : Sl), Fr9 v3 v4 v5 v6 v7 v8 v9 v10 v11 /\ ns.length < 1000 /\ E = LG Pt scr ns st v3 v4 v5 v6 v7 v8 v9 v10 v11
noncomputable def il_ (Pt : Addr) (n : Nat) : En -> Option Out := aE_ pA_ (aE_ pC_ (aE_ pE_ (aE_ mL_ (aE_ pH_ (aE_ pI_ (pJ_ Pt n))))))
theorem n9_ (h : LJ Pt scr E) : ∃ E', (∀ n, il_ Pt n E = some (.nx E')) /\ LJ Pt scr E' := by
 obtain ⟨ns, st, v3, v4, v5, v6, v7, v8, v9, v10, v11, F, l, rfl⟩ := h
 obtain ⟨xs, n1, b1, l1, hx, ok, e1⟩ := q3_ (Pt := Pt) (scr := scr) (st := st) F l
 have F1 : Fr9 v3 (O (.list (xs.map St.d))) v5 v6 v7 v8 v9 v10 v11 := ⟨F.a, ah_ _, F.c, F.d, F.e, F.f, F.g, F.h, F.i⟩
 have e2 := q4_ (Pt := Pt) (scr := scr) (ns := n1) (st := b1) F ok hx
 obtain ⟨mk, n3, b3, l3, hm, e3⟩ := q5_ (Pt := Pt) (scr := scr) (st := b1) F1 l1
 have F3 : Fr9 v3 (O (.list (xs.map St.d))) (O (DQ.oI mk)) v6 v7 v8 v9 v10 v11 := ⟨F.a, ah_ _, ah_ _, F.d, F.e, F.f, F.g, F.h, F.i⟩
 obtain ⟨e, n4, b4, l4, oe, e4⟩ := q6_ (Pt := Pt) (scr := scr) (st := b3) F3 l3 hm
 have F4 : Fr9 v3 (O (.list (xs.map St.d))) (O (DQ.oI mk)) (O e.d) v7 v8 v9 v10 .no := ⟨F.a, ah_ _, ah_ _, ah_ _, F.e, F.f, F.g, F.h, aL_⟩
 obtain ⟨y, n5, b5, l5, hy, e5⟩ := q7_ (Pt := Pt) (scr := scr) (st := b4) F4 l4 ok hx oe
 have F5 : Fr9 v3 (O (.list (xs.map St.d))) (O (DQ.oI mk)) (O e.d) (O (.str (txt e))) (O (.str y)) v9 v10 .no := ⟨F.a, ah_ _, ah_ _, ah_ _, ah_ _, ah_ _, F.g, F.h, aL_⟩
 obtain ⟨a, b, v9', n6, b6, f9, l6, ha, hb, e6⟩ := q8_ (Pt := Pt) (scr := scr) (st := b5) F5 l5 (qC_ oe) hy
 have F6 : Fr9 v3 (O (.list (xs.map St.d))) (O (DQ.oI mk)) (O e.d) (O (.str a)) (O (.str b)) v9' v10 .no := ⟨F.a, ah_ _, ah_ _, ah_ _, ah_ _, ah_ _, f9, F.h, aL_⟩
 obtain ⟨v10', f10, e7⟩ := q9_ (Pt := Pt) (scr := scr) (ns := n6) (st := b6) F6 ⟨ha.1, by have := ha.2; omega⟩ ⟨hb.1, by have := hb.2; omega⟩
 exact ⟨_, fun n => ad_ e1 (ad_ e2 (ad_ e3 (ad_ e4 (ad_ e5 (ad_ e6 (e7 n)))))), n6, b6, v3, _, _, _, _, _, v9', v10', .no, ⟨F.a, ah_ _, ah_ _, ah_ _, ah_ _, ah_ _, f9, f10, aL_⟩, l6, rfl⟩
def X0 (Pt : Addr) (scr : PyData) (v1 v2 : Sl) : En := [O scr, v1, v2, .no, .no, .no, .no, .no, .no, .no, .no, .no, O scr, .own (tab Pt)]
theorem law20 {L : List Int} (hl : L.length < 1000) {Pt : Addr} : K20.g_law Pt [.dat (.list (L.map .int))] [.ext (jf_ Pt K20.lamQ_law)] = some (.dat (.bool true), [.dat (.list (L.map .int))], [.ext (jf_ Pt K20.lamQ_law)]) := by
 let scr : PyData := .list (L.map .int)
 obtain ⟨st, e1⟩ := qv_ (ns := L) hl
 have s1 : cd_ 1 (ag_ K20.g__law_begun (aa_ (ab_ 0) ai_)) (X0 Pt scr .no .no) = some (.nx (X0 Pt scr (.own (bx L st)) .no)) := by
  have : ag_ K20.g__law_begun (aa_ (ab_ 0) ai_) (X0 Pt scr .no .no) = some (bx L st, X0 Pt scr .no .no) := (Mv.eCall_go (rs := [.val (.dat scr)]) rfl rfl rfl e1).trans rfl
  unfold cd_
  rw [this]
  rfl
 let w11 : List PyData := [.str "", .str " ", .str "turn ", .str " turn", .str "turn 1", .str "ask 1 2", .str "ask 1 2 -0", .str "come", .str "come 07", .str "send\n", .str "\nsend"]
 have s2 : ap_ 2 (ba_ (aa_ (dC (.str "")) (aa_ (dC (.str " ")) (aa_ (dC (.str "turn ")) (aa_ (dC (.str " turn")) (aa_ (dC (.str "turn 1")) (aa_ (dC (.str "ask 1 2")) (aa_ (dC (.str "ask 1 2 -0")) (aa_ (dC (.str "come")) (aa_ (dC (.str "come 07")) (aa_ (dC (.str "send\n")) (aa_ (dC (.str "\nsend")) ai_)))))))))))) (X0 Pt scr (.own (bx L st)) .no) = some (.nx (X0 Pt scr (.own (bx L st)) (.own (dL idD w11)))) := rfl
 have s3 : cr_ (dH_ bE_ (ab_ 2) (dC (.str "Come 1"))) (X0 Pt scr (.own (bx L st)) (.own (dL idD w11))) = some (.nx (LG Pt scr L st .no .no .no .no .no .no .no .no .no)) := rfl
 have src := cg_ (E := LG Pt scr L st .no .no .no .no .no .no .no .no .no) (d := dC (.int 6)) (j := 6) rfl (by decide) (by decide)
 obtain ⟨E', lp, ns, st', v3, v4, v5, v6, v7, v8, v9, v10, v11, F, l, rfl⟩ := l7_ (rd := fun _ i => some (if i < 6 then some (Rs.val (.dat (.int (i : Nat)))) else none)) (bd := au_ 3) (db := il_ Pt) (fun _ E => LJ Pt scr E) 6
  (fun i E hi hJ => by
   obtain ⟨ns, st, v3, v4, v5, v6, v7, v8, v9, v10, v11, F, l, rfl⟩ := hJ
   obtain ⟨E2, h2, J2⟩ := n9_ (Pt := Pt) (scr := scr) (E := LG Pt scr ns st (O (.int (i : Nat))) v4 v5 v6 v7 v8 v9 v10 v11) ⟨ns, st, _, v4, v5, v6, v7, v8, v9, v10, v11, ⟨ah_ _, F.b, F.c, F.d, F.e, F.f, F.g, F.h, F.i⟩, l, rfl⟩
   refine ⟨_, LG Pt scr ns st (O (.int (i : Nat))) v4 v5 v6 v7 v8 v9 v10 v11, E2, by rw [if_pos hi], ?_, h2, J2⟩
   show some (ak_ _ 3 _) = _
   rw [(lg (A := []) F).slot (by simp)]; rfl)
  (fun E _ => by rw [if_neg (Nat.lt_irrefl _)]) 6 0 6 (LG Pt scr L st .no .no .no .no .no .no .no .no .no) (by omega) (Nat.le_refl _) ⟨L, st, .no, .no, .no, .no, .no, .no, .no, .no, .no, ⟨aL_, aL_, aL_, aL_, aL_, aL_, aL_, aL_, aL_⟩, hl, rfl⟩
 let E9 := LG Pt scr ns st' v3 v4 v5 v6 v7 v8 v9 v10 v11
 have s4 : ∀ n, d8_ (by_ (dC (.int 6))) (au_ 3) (il_ Pt n) (LG Pt scr L st .no .no .no .no .no .no .no .no .no) = some (.nx E9) := fun n =>
  (cE_ (E1 := E9) src (by
   show dLoop _ (au_ 3) _ 6 0 (LG Pt scr L st .no .no .no .no .no .no .no .no .no ++ []) = _
   rw [List.append_nil]; exact lp n)).trans rfl
 refine Mv.gAll_go fun n => ?_
 have h : K20.d_law Pt n (X0 Pt scr .no .no) = some (.rt (.dat (.bool true)) E9) := ad_ s1 (ad_ s2 (ad_ s3 (ad_ (s4 n) rfl)))
 exact (n6_ (n := 12) (d := K20.d_law Pt n) (ss := [.dat scr]) (tts := [tab Pt]) (l := [.dat scr, tab Pt]) h rfl).trans rfl
end
end D20
set_option maxHeartbeats 4000000
namespace K20
open PySem PySem.Spec PyProof.Rows L2 Mv DH NX CLX LamX
def e2_ (K : W.Frag) (f : Addr) (x q : Str) (st : Stmt) : Prop := ∃ fd, L2.Fun K x q st f fd
theorem all_mk {l : W.OpenLaw} {w : World} {K : W.Frag} {h : Heap} {mg : Str -> Option Value} {fa f0 f1 f2 f3 f4 f5 f6 f7 f8 f9 f10 f11 f12 f13 f14 f15 f16 f17 f18 f19 f20 f21 f22 cA22 P22 f23 f24 CBadAsk CBadAsker CBadCount CBadEdition CBadHouse CBadText CBusy CDrainError CKnown CLastHouse CNoHouse CNoLetter CTooMany aNM fBI : Addr} {od22 an22 dC22 : Option Addr} {sl22 sC22 : Array (Option Value)} {oc22 kV22 dc22 pm22 ct22 eC22 : Value} {vs22 : Array Value} {tkMOST_FIGURES tkSLOTS tkLAST_NAME tkLAST_NUMBER tkNO_MAKE tkMAKE_PLACE tkFIRST_OWNER tkWORDS : Tok} (X : K.In h) (G : h.Ns mainGlobals mg) (hfa : mg "law" = some (.ref fa)) (hTE22 : ∀ f, mg "law" = some (.ref f) -> EndL.TabE K f h)
  (aCBadAsk : W.nsIn K mainGlobals "BadAsk" = some (some (.ref CBadAsk)))
  (aCBadAsker : W.nsIn K mainGlobals "BadAsker" = some (some (.ref CBadAsker)))
  (aCBadCount : W.nsIn K mainGlobals "BadCount" = some (some (.ref CBadCount)))
  (aCBadEdition : W.nsIn K mainGlobals "BadEdition" = some (some (.ref CBadEdition)))
  (xBadEdition : W.excIn K CBadEdition [.type "ValueError", .type "Exception", .type "BaseException", .type "object"] "ValueError.__new__" = true)
  (kpBadEdition : W.keepIn K (.ref CBadEdition) = true)
  (ebBadEdition : W.subIn K (.ref CBadEdition) (.type "BaseException") = some true)
  (etBadEdition : W.typeIn K (.ref CBadEdition) = some (.type "type"))
  (aCBadHouse : W.nsIn K mainGlobals "BadHouse" = some (some (.ref CBadHouse)))
  (aCBadText : W.nsIn K mainGlobals "BadText" = some (some (.ref CBadText)))
  (kpBadText : W.keepIn K (.ref CBadText) = true)
  (ebBadText : W.subIn K (.ref CBadText) (.type "BaseException") = some true)
  (etBadText : W.typeIn K (.ref CBadText) = some (.type "type"))
  (aCBusy : W.nsIn K mainGlobals "Busy" = some (some (.ref CBusy)))
  (aCDrainError : W.nsIn K mainGlobals "DrainError" = some (some (.ref CDrainError)))
  (aCKnown : W.nsIn K mainGlobals "Known" = some (some (.ref CKnown)))
  (aCLastHouse : W.nsIn K mainGlobals "LastHouse" = some (some (.ref CLastHouse)))
  (aCNoHouse : W.nsIn K mainGlobals "NoHouse" = some (some (.ref CNoHouse)))
  (aCNoLetter : W.nsIn K mainGlobals "NoLetter" = some (some (.ref CNoLetter)))
  (aCTooMany : W.nsIn K mainGlobals "TooMany" = some (some (.ref CTooMany)))
  (chkE : ErrC.errChk K [CBadHouse, CKnown, CNoHouse, CTooMany, CLastHouse, CBadAsker, CBadEdition, CBadAsk, CBusy, CNoLetter, CBadCount, CBadText] CDrainError = true)
  (vNUM : W.nsIn K mainGlobals "NUMBERS" = some (some (.ref aNM)))
  (kdN : He.dicW K aNM = some (He.keysIn w.params ["come", "farewell", "turn", "ask", "send", "carry", "twice", "lose", "settle"]))
  (ktN : Ex2.ktabB K aNM numL = true)
  (oxB : Ex2.oexB K CBadText = true)
  (saB : W.findIn K (.ref CBadText) "__setattr__" = some (some (.builtin "object.__setattr__")))
  (iCB : W.findIn K (.ref CBadText) "__init__" = some (some (.ref fBI)))
  (tIB : W.typeIn K (.ref fBI) = some (.type "function"))
  (npB : W.findIn K (.ref CBadText) "place" = some none)
  (lBI : e2_ K fBI "__init__" "BadText.__init__" cG_)
  (gaD : W.specialIn K (.ref CDrainError) "__getattribute__" = some (some (.builtin "type.__getattribute__")))
  (rdD : W.readsIn K CDrainError (.type "type") = true)
  (inD : W.findCls K (.ref CDrainError) (.type "type") "__init__" = some (.val (.builtin "ValueError.__init__")))
  (a0 : W.nsIn K mainGlobals "is_plain" = some (some (.ref f0)))
  (l0 : e2_ K f0 "is_plain" "is_plain" ev_)
  (a1 : W.nsIn K mainGlobals "is_signed" = some (some (.ref f1)))
  (l1 : e2_ K f1 "is_signed" "is_signed" dX_)
  (a2 : W.nsIn K mainGlobals "is_within" = some (some (.ref f2)))
  (l2 : e2_ K f2 "is_within" "is_within" dY_)
  (a3 : W.nsIn K mainGlobals "is_house" = some (some (.ref f3)))
  (l3 : e2_ K f3 "is_house" "is_house" ew_)
  (a4 : W.nsIn K mainGlobals "is_owners" = some (some (.ref f4)))
  (l4 : e2_ K f4 "is_owners" "is_owners" cV_)
  (a5 : W.nsIn K mainGlobals "is_edition" = some (some (.ref f5)))
  (l5 : e2_ K f5 "is_edition" "is_edition" dl_)
  (a6 : W.nsIn K mainGlobals "check_edition" = some (some (.ref f6)))
  (l6 : e2_ K f6 "check_edition" "check_edition" ci_)
  (a7 : W.nsIn K mainGlobals "written_steps" = some (some (.ref f7)))
  (l7 : e2_ K f7 "written_steps" "written_steps" bv_)
  (a8 : W.nsIn K mainGlobals "read_steps" = some (some (.ref f8)))
  (l8 : e2_ K f8 "read_steps" "read_steps" cA_)
  (a9 : W.nsIn K mainGlobals "read_step" = some (some (.ref f9)))
  (l9 : e2_ K f9 "read_step" "read_step" cj_)
  (a10 : W.nsIn K mainGlobals "written" = some (some (.ref f10)))
  (l10 : e2_ K f10 "written" "written" ef_)
  (a11 : W.nsIn K mainGlobals "read" = some (some (.ref f11)))
  (l11 : e2_ K f11 "read" "read" iP_)
  (a12 : W.nsIn K mainGlobals "can_stand" = some (some (.ref f12)))
  (l12 : e2_ K f12 "can_stand" "can_stand" dZ_)
  (a13 : W.nsIn K mainGlobals "_law_begun" = some (some (.ref f13)))
  (l13 : e2_ K f13 "_law_begun" "_law_begun" dm_)
  (a14 : W.nsIn K mainGlobals "_law_take" = some (some (.ref f14)))
  (l14 : e2_ K f14 "_law_take" "_law_take" d0_)
  (a15 : W.nsIn K mainGlobals "_law_alike" = some (some (.ref f15)))
  (l15 : e2_ K f15 "_law_alike" "_law_alike" dn_)
  (a16 : W.nsIn K mainGlobals "_law_number" = some (some (.ref f16)))
  (l16 : e2_ K f16 "_law_number" "_law_number" b7_)
  (a17 : W.nsIn K mainGlobals "_law_edition" = some (some (.ref f17)))
  (l17 : e2_ K f17 "_law_edition" "_law_edition" bR_)
  (a18 : W.nsIn K mainGlobals "_law_step" = some (some (.ref f18)))
  (l18 : e2_ K f18 "_law_step" "_law_step" d1_)
  (a19 : W.nsIn K mainGlobals "_law_steps" = some (some (.ref f19)))
  (l19 : e2_ K f19 "_law_steps" "_law_steps" cB_)
  (a20 : W.nsIn K mainGlobals "_law_spoilt" = some (some (.ref f20)))
  (l20 : e2_ K f20 "_law_spoilt" "_law_spoilt" cW_)
  (a21 : W.nsIn K mainGlobals "_law_drawn" = some (some (.ref f21)))
  (l21 : e2_ K f21 "_law_drawn" "_law_drawn" do_)
  (a22 : W.nsIn K mainGlobals "law" = some (some (.ref f22)))
  (l22 : K.lookup f22 = some ⟨oc22, od22, .func (W.fnOf "law" "law" (defArgs ck_) (defBody ck_) (defScope ck_) .none kV22 dc22 pm22 an22 (.ref cA22) ct22), sl22⟩)
  (c22 : W.codeIn K (.ref cA22) "law" = true)
  (k22 : W.keepIn K (.ref f22) = true)
  (kC22 : K.lookup cA22 = some ⟨eC22, dC22, .fields vs22, sC22⟩)
  (vC22 : vs22[11]? = some (.ref P22))
  (hC22 : W.codeHdIn K cA22 P22 = true)
  (nC22 : K.lookup P22 = none)
  (a23 : W.nsIn K mainGlobals "_law_class" = some (some (.ref f23)))
  (l23 : e2_ K f23 "_law_class" "_law_class" a9_)
  (a24 : W.nsIn K mainGlobals "_law_told" = some (some (.ref f24)))
  (l24 : e2_ K f24 "_law_told" "_law_told" cm_)
  (vMOST_FIGURES : W.nsIn K mainGlobals "MOST_FIGURES" = some (some (.int (7) tkMOST_FIGURES)))
  (vSLOTS : W.nsIn K mainGlobals "SLOTS" = some (some (.int (12) tkSLOTS)))
  (vLAST_NAME : W.nsIn K mainGlobals "LAST_NAME" = some (some (.int (19) tkLAST_NAME)))
  (vLAST_NUMBER : W.nsIn K mainGlobals "LAST_NUMBER" = some (some (.int (1000000) tkLAST_NUMBER)))
  (vNO_MAKE : W.nsIn K mainGlobals "NO_MAKE" = some (some (.str ("-") tkNO_MAKE)))
  (vMAKE_PLACE : W.nsIn K mainGlobals "MAKE_PLACE" = some (some (.int (1) tkMAKE_PLACE)))
  (vFIRST_OWNER : W.nsIn K mainGlobals "FIRST_OWNER" = some (some (.int (2) tkFIRST_OWNER)))
  (vWORDS : W.nsIn K mainGlobals "WORDS" = some (some (.int (14) tkWORDS)))
  (zValueError : W.nsIn K mainGlobals "ValueError" = some none)
  (zall : W.nsIn K mainGlobals "all" = some none)
  (zbool : W.nsIn K mainGlobals "bool" = some none)
  (zenumerate : W.nsIn K mainGlobals "enumerate" = some none)
  (zint : W.nsIn K mainGlobals "int" = some none)
  (zisinstance : W.nsIn K mainGlobals "isinstance" = some none)
  (zlen : W.nsIn K mainGlobals "len" = some none)
  (zlist : W.nsIn K mainGlobals "list" = some none)
  (zmin : W.nsIn K mainGlobals "min" = some none)
  (zrange : W.nsIn K mainGlobals "range" = some none)
  (zstr : W.nsIn K mainGlobals "str" = some none)
  (ztuple : W.nsIn K mainGlobals "tuple" = some none)
  : LawAtS l w K CX0 12 63 "_law_script" mg fa h := by
 have e := hfa.symm.trans (W.mg_of X G a22)
 cases e
 obtain ⟨d0, F0⟩ := l0
 obtain ⟨d1, F1⟩ := l1
 obtain ⟨d2, F2⟩ := l2
 obtain ⟨d3, F3⟩ := l3
 obtain ⟨d4, F4⟩ := l4
 obtain ⟨d5, F5⟩ := l5
 obtain ⟨d6, F6⟩ := l6
 obtain ⟨d7, F7⟩ := l7
 obtain ⟨d8, F8⟩ := l8
 obtain ⟨d9, F9⟩ := l9
 obtain ⟨d10, F10⟩ := l10
 obtain ⟨d11, F11⟩ := l11
 obtain ⟨d12, F12⟩ := l12
 obtain ⟨d13, F13⟩ := l13
 obtain ⟨d14, F14⟩ := l14
 obtain ⟨d15, F15⟩ := l15
 obtain ⟨d16, F16⟩ := l16
 obtain ⟨d17, F17⟩ := l17
 obtain ⟨d18, F18⟩ := l18
 obtain ⟨d19, F19⟩ := l19
 obtain ⟨d20, F20⟩ := l20
 obtain ⟨d21, F21⟩ := l21
 have F22 := fun_mk (st := ck_) l22 c22 k22
 obtain ⟨d23, F23⟩ := l23
 obtain ⟨d24, F24⟩ := l24
 obtain ⟨dBI, FBI⟩ := lBI
 let T : Txt w K mg := {
  C_DrainErrorB := CDrainError
  a_NUMBERS := aNM
  g_NUMBERS := W.mg_of X G vNUM
  kd_NUMBERS := He.dicW_ok kdN
  kt_NUMBERS := Ex2.ktab_ok (l := numL) ktN
  ox_BadText := ⟨Ex2.oex_cls oxB, saB, ebBadText, etBadText, kpBadText⟩
  a_BadText_init := fBI
  d_BadText_init := dBI
  iC_BadText := iCB
  tI_BadText := tIB
  np_BadText := npB
  F_BadText_init := FBI
  b_BadText_init := FBI.binds (ps := ["self", "place"]) fun _ _ _ _ _ _ us hl => match us, hl with | [_, _], _ => rfl
  gB_DrainError := W.mg_of X G aCDrainError
  bs_DrainError := ⟨gaD, rdD, inD⟩
  n_all := W.mg_none_of X G zall
  n_bool := W.mg_none_of X G zbool
  n_enumerate := W.mg_none_of X G zenumerate
  n_int := W.mg_none_of X G zint
  n_isinstance := W.mg_none_of X G zisinstance
  n_len := W.mg_none_of X G zlen
  n_list := W.mg_none_of X G zlist
  n_min := W.mg_none_of X G zmin
  n_range := W.mg_none_of X G zrange
  n_str := W.mg_none_of X G zstr
  n_tuple := W.mg_none_of X G ztuple
  t_MOST_FIGURES := tkMOST_FIGURES
  c_MOST_FIGURES := W.mg_of X G vMOST_FIGURES
  t_SLOTS := tkSLOTS
  c_SLOTS := W.mg_of X G vSLOTS
  t_LAST_NAME := tkLAST_NAME
  c_LAST_NAME := W.mg_of X G vLAST_NAME
  t_LAST_NUMBER := tkLAST_NUMBER
  c_LAST_NUMBER := W.mg_of X G vLAST_NUMBER
  t_NO_MAKE := tkNO_MAKE
  c_NO_MAKE := W.mg_of X G vNO_MAKE
  t_MAKE_PLACE := tkMAKE_PLACE
  c_MAKE_PLACE := W.mg_of X G vMAKE_PLACE
  t_FIRST_OWNER := tkFIRST_OWNER
  c_FIRST_OWNER := W.mg_of X G vFIRST_OWNER
  t_WORDS := tkWORDS
  c_WORDS := W.mg_of X G vWORDS
  C_BadEdition := CBadEdition
  k_BadEdition := aCBadEdition
  g_BadEdition := W.mg_of X G aCBadEdition
  x_BadEdition := xBadEdition
  kp_BadEdition := kpBadEdition
  eb_BadEdition := ebBadEdition
  et_BadEdition := etBadEdition
  C_BadText := CBadText
  k_BadText := aCBadText
  g_BadText := W.mg_of X G aCBadText
  kp_BadText := kpBadText
  eb_BadText := ebBadText
  et_BadText := etBadText
  a_is_plain := f0
  d_is_plain := _
  F_is_plain := F0
  b_is_plain := F0.binds (ps := ["word"]) fun _ _ _ _ _ _ us hl => match us, hl with | [_], _ => rfl
  m_is_plain := W.mg_of X G a0
  a_is_signed := f1
  d_is_signed := _
  F_is_signed := F1
  b_is_signed := F1.binds (ps := ["word"]) fun _ _ _ _ _ _ us hl => match us, hl with | [_], _ => rfl
  m_is_signed := W.mg_of X G a1
  a_is_within := f2
  d_is_within := _
  F_is_within := F2
  b_is_within := F2.binds (ps := ["value", "least", "most"]) fun _ _ _ _ _ _ us hl => match us, hl with | [_, _, _], _ => rfl
  m_is_within := W.mg_of X G a2
  a_is_house := f3
  d_is_house := _
  F_is_house := F3
  b_is_house := F3.binds (ps := ["value"]) fun _ _ _ _ _ _ us hl => match us, hl with | [_], _ => rfl
  m_is_house := W.mg_of X G a3
  a_is_owners := f4
  d_is_owners := _
  F_is_owners := F4
  b_is_owners := F4.binds (ps := ["value"]) fun _ _ _ _ _ _ us hl => match us, hl with | [_], _ => rfl
  m_is_owners := W.mg_of X G a4
  a_is_edition := f5
  d_is_edition := _
  F_is_edition := F5
  b_is_edition := F5.binds (ps := ["value"]) fun _ _ _ _ _ _ us hl => match us, hl with | [_], _ => rfl
  m_is_edition := W.mg_of X G a5
  a_check_edition := f6
  d_check_edition := _
  F_check_edition := F6
  b_check_edition := F6.binds (ps := ["edition"]) fun _ _ _ _ _ _ us hl => match us, hl with | [_], _ => rfl
  m_check_edition := W.mg_of X G a6
  a_written_steps := f7
  d_written_steps := _
  F_written_steps := F7
  b_written_steps := F7.binds (ps := ["steps"]) fun _ _ _ _ _ _ us hl => match us, hl with | [_], _ => rfl
  m_written_steps := W.mg_of X G a7
  a_read_steps := f8
  d_read_steps := _
  F_read_steps := F8
  b_read_steps := F8.binds (ps := ["text"]) fun _ _ _ _ _ _ us hl => match us, hl with | [_], _ => rfl
  m_read_steps := W.mg_of X G a8
  a_read_step := f9
  d_read_step := _
  F_read_step := F9
  b_read_step := F9.binds (ps := ["place", "row"]) fun _ _ _ _ _ _ us hl => match us, hl with | [_, _], _ => rfl
  m_read_step := W.mg_of X G a9
  a_written := f10
  d_written := _
  F_written := F10
  b_written := F10.binds (ps := ["edition"]) fun _ _ _ _ _ _ us hl => match us, hl with | [_], _ => rfl
  m_written := W.mg_of X G a10
  a_read := f11
  d_read := _
  F_read := F11
  b_read := F11.binds (ps := ["text"]) fun _ _ _ _ _ _ us hl => match us, hl with | [_], _ => rfl
  m_read := W.mg_of X G a11
  a_can_stand := f12
  d_can_stand := _
  F_can_stand := F12
  b_can_stand := F12.binds (ps := ["word", "place"]) fun _ _ _ _ _ _ us hl => match us, hl with | [_, _], _ => rfl
  m_can_stand := W.mg_of X G a12
  a__law_begun := f13
  d__law_begun := _
  F__law_begun := F13
  b__law_begun := F13.binds (ps := ["_law_script"]) fun _ _ _ _ _ _ us hl => match us, hl with | [_], _ => rfl
  m__law_begun := W.mg_of X G a13
  a__law_take := f14
  d__law_take := _
  F__law_take := F14
  b__law_take := F14.binds (ps := ["_law_box", "_law_many"]) fun _ _ _ _ _ _ us hl => match us, hl with | [_, _], _ => rfl
  m__law_take := W.mg_of X G a14
  a__law_alike := f15
  d__law_alike := _
  F__law_alike := F15
  b__law_alike := F15.binds (ps := ["_law_found", "_law_due"]) fun _ _ _ _ _ _ us hl => match us, hl with | [_, _], _ => rfl
  m__law_alike := W.mg_of X G a15
  a__law_number := f16
  d__law_number := _
  F__law_number := F16
  b__law_number := F16.binds (ps := ["_law_word"]) fun _ _ _ _ _ _ us hl => match us, hl with | [_], _ => rfl
  m__law_number := W.mg_of X G a16
  a__law_edition := f17
  d__law_edition := _
  F__law_edition := F17
  b__law_edition := F17.binds (ps := ["_law_text"]) fun _ _ _ _ _ _ us hl => match us, hl with | [_], _ => rfl
  m__law_edition := W.mg_of X G a17
  a__law_step := f18
  d__law_step := _
  F__law_step := F18
  b__law_step := F18.binds (ps := ["_law_row"]) fun _ _ _ _ _ _ us hl => match us, hl with | [_], _ => rfl
  m__law_step := W.mg_of X G a18
  a__law_steps := f19
  d__law_steps := _
  F__law_steps := F19
  b__law_steps := F19.binds (ps := ["_law_text"]) fun _ _ _ _ _ _ us hl => match us, hl with | [_], _ => rfl
  m__law_steps := W.mg_of X G a19
  a__law_spoilt := f20
  d__law_spoilt := _
  F__law_spoilt := F20
  b__law_spoilt := F20.binds (ps := ["_law_box", "_law_text"]) fun _ _ _ _ _ _ us hl => match us, hl with | [_, _], _ => rfl
  m__law_spoilt := W.mg_of X G a20
  a__law_drawn := f21
  d__law_drawn := _
  F__law_drawn := F21
  b__law_drawn := F21.binds (ps := ["_law_box"]) fun _ _ _ _ _ _ us hl => match us, hl with | [_], _ => rfl
  m__law_drawn := W.mg_of X G a21
  a_law := fa
  d_law := _
  F_law := F22
  b_law := F22.binds (ps := ["_law_script"]) fun _ _ _ _ _ _ us hl => match us, hl with | [_], _ => rfl
  m_law := W.mg_of X G a22
 }
 let TE : TxtE K mg := {
  n_isinstance := W.mg_none_of X G zisinstance
  n_ValueError := W.mg_none_of X G zValueError
  C_BadHouse := CBadHouse
  g_BadHouse := W.mg_of X G aCBadHouse
  C_Known := CKnown
  g_Known := W.mg_of X G aCKnown
  C_NoHouse := CNoHouse
  g_NoHouse := W.mg_of X G aCNoHouse
  C_TooMany := CTooMany
  g_TooMany := W.mg_of X G aCTooMany
  C_LastHouse := CLastHouse
  g_LastHouse := W.mg_of X G aCLastHouse
  C_BadAsker := CBadAsker
  g_BadAsker := W.mg_of X G aCBadAsker
  C_BadEdition := CBadEdition
  g_BadEdition := W.mg_of X G aCBadEdition
  C_BadAsk := CBadAsk
  g_BadAsk := W.mg_of X G aCBadAsk
  C_Busy := CBusy
  g_Busy := W.mg_of X G aCBusy
  C_NoLetter := CNoLetter
  g_NoLetter := W.mg_of X G aCNoLetter
  C_BadCount := CBadCount
  g_BadCount := W.mg_of X G aCBadCount
  C_BadText := CBadText
  g_BadText := W.mg_of X G aCBadText
  C_DrainError := CDrainError
  g_DrainError := W.mg_of X G aCDrainError
  hes := fun j hj => match j, hj with | 0, _ => aCBadHouse | 1, _ => aCKnown | 2, _ => aCNoHouse | 3, _ => aCTooMany | 4, _ => aCLastHouse | 5, _ => aCBadAsker | 6, _ => aCBadEdition | 7, _ => aCBadAsk | 8, _ => aCBusy | 9, _ => aCNoLetter | 10, _ => aCBadCount | 11, _ => aCBadText | _ + 12, h => absurd h (by omega)
  chk := chkE
  np_BadText := npB
  a__law_class := f23
  d__law_class := _
  F__law_class := F23
  b__law_class := F23.binds (ps := ["_law_e"]) fun _ _ _ _ _ _ us hl => match us, hl with | [_], _ => rfl
  m__law_class := W.mg_of X G a23
  a__law_told := f24
  d__law_told := _
  F__law_told := F24
  b__law_told := F24.binds (ps := ["_law_work"]) fun _ _ _ _ _ _ us hl => match us, hl with | [_], _ => rfl
  m__law_told := W.mg_of X G a24
 }
 have D22 : FunC K "law" "law" ck_ fa _ cA22 := ⟨_, _, _, _, _, _, _, _, rfl, l22, c22⟩
 have hTP22 := hTE22 fa hfa cA22 P22 _ _ _ _ _ _ l22 rfl rfl kC22 vC22
 refine ⟨_, [(cA22, P22)], spG [.ref P22] K 1 (g_law P22), fun p hp => ?_, fun p hp => ?_, fun p hp => ?_, fun s v => .of_eq rfl, fun H a ns hl _ hT hS => nj_ (tabs := [(P22, lamQ_law)]) hS (by simp []) (fun p hp => ?_) (D20.law20 (by omega)), fun base _ _ hTB => o0_ T TE D22 (hTB (cA22, P22) (by simp))⟩
 ·simp only [List.mem_cons, List.not_mem_nil, or_false] at hp; rcases hp with rfl
  ·exact hTP22
 ·simp only [List.mem_cons, List.not_mem_nil, or_false] at hp; rcases hp with rfl
  ·exact nC22
 ·simp only [List.mem_cons, List.not_mem_nil, or_false] at hp; rcases hp with rfl
  ·exact W.codeHd_of_K X hC22
 ·simp only [List.mem_cons, List.not_mem_nil, or_false] at hp; rcases hp with rfl
  ·exact hT (cA22, P22) (by simp)
end K20
open PySem PySem.W PyProof.Rows
local macro_rules | `(tactic| trivial) => `(tactic| (refine' ⟨_, L2.fun_mk ?l ?c ?k⟩; (case l => k_is); (case c => k_is); (case k => k_is)))
set_option maxHeartbeats 0 in
theorem PySem.Challenge.cw_drainhouse_k20_texts_refused_holds : PySem.Challenge.rw_drainhouse_k20_texts_refused.Holds := by
 w_on; o_law; k_head; (case hw => w_witness2)
 k_fill
 refine EndL.walk_ofTab (l := PySem.Challenge.rw_drainhouse_k20_texts_refused) (n := 63) (k := 12) (x := "_law_script") (CX := fun _ => L2.CX0) rfl (by decide) rfl ⟨rfl, by decide, by decide⟩ (fun w h Y => PySem.W.km_in_of Y) ?F (fun _ _ _ _ _ h => h)
 case F =>
  intro w mg fa h KX G hmg hTE
  refine' K20.all_mk KX G hmg (hTE "law" (by kernel_rfl)) ?aCBadAsk ?aCBadAsker ?aCBadCount ?aCBadEdition ?xBadEdition ?kpBadEdition ?ebBadEdition ?etBadEdition ?aCBadHouse ?aCBadText ?kpBadText ?ebBadText ?etBadText ?aCBusy ?aCDrainError ?aCKnown ?aCLastHouse ?aCNoHouse ?aCNoLetter ?aCTooMany ?chkE ?vNUM ?kdN ?ktN ?oxB ?saB ?iCB ?tIB ?npB ?lBI ?gaD ?rdD ?inD ?a0 ?l0 ?a1 ?l1 ?a2 ?l2 ?a3 ?l3 ?a4 ?l4 ?a5 ?l5 ?a6 ?l6 ?a7 ?l7 ?a8 ?l8 ?a9 ?l9 ?a10 ?l10 ?a11 ?l11 ?a12 ?l12 ?a13 ?l13 ?a14 ?l14 ?a15 ?l15 ?a16 ?l16 ?a17 ?l17 ?a18 ?l18 ?a19 ?l19 ?a20 ?l20 ?a21 ?l21 ?a22 ?l22 ?c22 ?k22 ?kC22 ?vC22 ?hC22 ?nC22 ?a23 ?l23 ?a24 ?l24 ?vMOST_FIGURES ?vSLOTS ?vLAST_NAME ?vLAST_NUMBER ?vNO_MAKE ?vMAKE_PLACE ?vFIRST_OWNER ?vWORDS ?zValueError ?zall ?zbool ?zenumerate ?zint ?zisinstance ?zlen ?zlist ?zmin ?zrange ?zstr ?ztuple
  (case aCBadAsk => k_is)
  (case aCBadAsker => k_is)
  (case aCBadCount => k_is)
  (case aCBadEdition => k_is)
  (case xBadEdition => k_exc)
  (case kpBadEdition => k_is)
  (case ebBadEdition => k_is)
  (case etBadEdition => k_is)
  (case aCBadHouse => k_is)
  (case aCBadText => k_is)
  (case kpBadText => k_is)
  (case ebBadText => k_is)
  (case etBadText => k_is)
  (case aCBusy => k_is)
  (case aCDrainError => k_is)
  (case aCKnown => k_is)
  (case aCLastHouse => k_is)
  (case aCNoHouse => k_is)
  (case aCNoLetter => k_is)
  (case aCTooMany => k_is)
  (case chkE => kernel_rfl)
  (case vNUM => k_is)
  (case kdN => rfl)
  (case ktN => kernel_rfl)
  (case oxB => kernel_rfl)
  (case saB => k_is)
  (case iCB => k_is)
  (case tIB => k_is)
  (case npB => k_is)
  (case lBI => trivial)
  (case gaD => k_is)
  (case rdD => k_is)
  (case inD => k_is)
  (case a0 => k_is)
  (case l0 => trivial)
  (case a1 => k_is)
  (case l1 => trivial)
  (case a2 => k_is)
  (case l2 => trivial)
  (case a3 => k_is)
  (case l3 => trivial)
  (case a4 => k_is)
  (case l4 => trivial)
  (case a5 => k_is)
  (case l5 => trivial)
  (case a6 => k_is)
  (case l6 => trivial)
  (case a7 => k_is)
  (case l7 => trivial)
  (case a8 => k_is)
  (case l8 => trivial)
  (case a9 => k_is)
  (case l9 => trivial)
  (case a10 => k_is)
  (case l10 => trivial)
  (case a11 => k_is)
  (case l11 => trivial)
  (case a12 => k_is)
  (case l12 => trivial)
  (case a13 => k_is)
  (case l13 => trivial)
  (case a14 => k_is)
  (case l14 => trivial)
  (case a15 => k_is)
  (case l15 => trivial)
  (case a16 => k_is)
  (case l16 => trivial)
  (case a17 => k_is)
  (case l17 => trivial)
  (case a18 => k_is)
  (case l18 => trivial)
  (case a19 => k_is)
  (case l19 => trivial)
  (case a20 => k_is)
  (case l20 => trivial)
  (case a21 => k_is)
  (case l21 => trivial)
  (case a22 => k_is)
  (case l22 => k_is)
  (case c22 => k_is)
  (case k22 => k_is)
  (case kC22 => k_is)
  (case vC22 => rfl)
  (case hC22 => kernel_rfl)
  (case nC22 => kernel_rfl)
  (case a23 => k_is)
  (case l23 => trivial)
  (case a24 => k_is)
  (case l24 => trivial)
  (case vMOST_FIGURES => k_is)
  (case vSLOTS => k_is)
  (case vLAST_NAME => k_is)
  (case vLAST_NUMBER => k_is)
  (case vNO_MAKE => k_is)
  (case vMAKE_PLACE => k_is)
  (case vFIRST_OWNER => k_is)
  (case vWORDS => k_is)
  (case zValueError => k_is)
  (case zall => k_is)
  (case zbool => k_is)
  (case zenumerate => k_is)
  (case zint => k_is)
  (case zisinstance => k_is)
  (case zlen => k_is)
  (case zlist => k_is)
  (case zmin => k_is)
  (case zrange => k_is)
  (case zstr => k_is)
  (case ztuple => k_is)
