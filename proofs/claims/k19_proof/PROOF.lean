import PyProof.Rows.All
import Wide.All
import OpenK.AllK
import Wide.FinOn
import HandS.EndTab
import KE.KNestM
import HandS.Lambda
import HandS.Exc
import PyProof.DefMake
import HandS.ForMost
import HandS.TupAny
import HandS.SetFor
import HandS.Strs
import HandS.DictComp
import HandS.IsInst
import HandS.SortInts
import HandS.More
import HandS.Conv
import KE.DataMinMax
import HandS.Evl
import HandS.WordsDict
import HandS.ExcOwn
import HandS.TryOnly
import HandS.WordsExc
import PyProof.CollectIter
import HandS.Flow
import HandS.TupMul
import HandS.MethStar
import HandS.Slots
import PyProof.DictUpdate
import PyProof.FactsAll.dict_3
import PyProof.FactsAll.dict_4
import PyProof.FactsAll.subtypes_4
import PyProof.ListOps
import HandS.Deep
import HandS.Style
import HandS.Iter
import HandS.Small
import HandS.TupSets
import PyProof.SumWalkG
import PyProof.Rows.SeqMore
import PyProof.TupleKey
import PyProof.DictRoadsH
import HandS.Dict
import HandS.Call
import HandS.Text
import HandS.RaiseMore
import HandS.Star
import HandS.Wide
import KE.KUnpack
import HandS.HotCalls
import HandS.ExcIs
import PySem.Challenge.RW_drainhouse_k19_editions_written
set_option Elab.async false
set_option linter.all false
set_option maxRecDepth 100000
set_option maxHeartbeats 4000000
set_option maxHeartbeats 4000000
namespace CLX
open PySem PySem.Spec PyProof.Rows L2 LamX
/-- an object that stays -/
def CellO (c : Addr) (o : Obj) : HO := .ext fun h => h.get? c = some o
def IsCl (v : V) (o : Obj) : Prop := ∃ u, RelV v u ∧ o.data = .cell (some u)
def lessC (cs : List Addr) (H : Hp) : Hp := fun b => if b ∈ cs then none else H b
def moreC (cs : List Addr) (H H' : Hp) : Hp := fun b => if b ∈ cs then H b else H' b
theorem less_in {cs : List Addr} {H : Hp} {b : Addr} (h : b ∈ cs) : lessC cs H b = none := if_pos h
theorem less_out {cs : List Addr} {H : Hp} {b : Addr} (h : b ∉ cs) : lessC cs H b = H b := if_neg h
theorem more_in {cs : List Addr} {H H' : Hp} {b : Addr} (h : b ∈ cs) : moreC cs H H' b = H b := if_pos h
theorem more_out {cs : List Addr} {H H' : Hp} {b : Addr} (h : b ∉ cs) : moreC cs H H' b = H' b := if_neg h
theorem less_none {cs : List Addr} {H : Hp} {b : Addr} (h : H b = none) : lessC cs H b = none := by
  unfold lessC; split
  · rfl
  · exact h
/-- the addresses of cs are told as objects that stay -/
def Told (H : Hp) (cs : List Addr) : Prop := ∀ c ∈ cs, ∃ o, H c = some (CellO c o)
section
variable {P : Program} {w : World} {cs : List Addr} {H H' : Hp} {h h' : Heap} {fs : List Addr}
theorem Told.out (t : Told H cs) {b : Addr} (n : H b = none) : b ∉ cs := fun m => by
  obtain ⟨o, e⟩ := t b m
  rw [n] at e; cases e
theorem Told.not {u : HO} (t : Told H cs) {b : Addr} (e : H b = some u) (ne : ∀ φ, u ≠ .ext φ) : b ∉ cs := fun m => by
  obtain ⟨o, e2⟩ := t b m
  rw [e] at e2; cases e2; exact ne _ rfl
theorem Told.obj (t : Told H cs) (x : HOk P w H h) {c : Addr} (m : c ∈ cs) : ∃ o, H c = some (CellO c o) ∧ h.get? c = some o := by
  obtain ⟨o, e⟩ := t c m
  exact ⟨o, e, (x c _ e).1⟩
theorem less_hok (t : Told H cs) (x : HOk P w H h) : HOk P w (lessC cs H) h := fun b u e => by
  by_cases m : b ∈ cs
  · rw [less_in m] at e; cases e
  · rw [less_out m] at e
    exact (x b u e).stay (fun _ _ _ q => q) (fun c q => by rw [less_out (t.not q fun _ z => by cases z)]; exact q) fun c xs q => by rw [less_out (t.not q fun _ z => by cases z)]; exact q
theorem more_hok (t : Told H cs) (x : HOk P w H' h') (n : ∀ c ∈ cs, H' c = none) (k : ∀ c ∈ cs, ∀ o, H c = some (CellO c o) → h'.get? c = some o) : HOk P w (moreC cs H H') h' := fun b u e => by
  have out : ∀ {c : Addr} {u : HO}, H' c = some u → c ∉ cs := fun {c u} q m => by rw [n c m] at q; cases q
  by_cases m : b ∈ cs
  · rw [more_in m] at e
    obtain ⟨o, eo⟩ := t b m
    rw [eo] at e; cases e
    have := k b m o eo
    exact ⟨this, ⟨o, this⟩, fun h1 h2 p st => st o p⟩
  · rw [more_out m] at e
    exact (x b u e).stay (fun _ _ _ q => q) (fun c q => by rw [more_out (out q)]; exact q) fun c xs q => by rw [more_out (out q)]; exact q
theorem un_more (t : Told H cs) (x : HOk P w H h) (u : Un fs [] (lessC cs H) H' h h') : Un fs [] H (moreC cs H H') h h' where
  keep := fun b o q n hb hx => u.keep b o q (less_none n) hb hx
  slot := fun b o q n hb hx => u.slot b o q (less_none n) hb hx
  free := fun b o q n hx => by rw [more_out (t.out n)]; exact u.free b o q (less_none n) hx
  there := u.there
  tups := fun b xs q => by
    have m := t.not q fun _ z => by cases z
    rw [more_out m]; exact u.tups b xs (by rw [less_out m]; exact q)
  frzs := fun b o z q => by
    have m := t.not q fun _ z => by cases z
    rw [more_out m]; exact u.frzs b o z (by rw [less_out m]; exact q)
  tbls := fun b ps q => by
    have m := t.not q fun _ z => by cases z
    rw [more_out m]; exact u.tbls b ps (by rw [less_out m]; exact q)
theorem ub_more {B : Heap} (t : Told H cs) (u : UB fs (lessC cs H) H' h B h') : UB fs H (moreC cs H H') h B h' where
  keep := fun b o q n hb => u.keep b o q (less_none n) hb
  slot := u.slot
  free := fun b o q n => by rw [more_out (t.out n)]; exact u.free b o q (less_none n)
  there := u.there
  tups := fun b xs q => by
    have m := t.not q fun _ z => by cases z
    rw [more_out m]; exact u.tups b xs (by rw [less_out m]; exact q)
  frzs := fun b o z q => by
    have m := t.not q fun _ z => by cases z
    rw [more_out m]; exact u.frzs b o z (by rw [less_out m]; exact q)
  tbls := fun b ps q => by
    have m := t.not q fun _ z => by cases z
    rw [more_out m]; exact u.tbls b ps (by rw [less_out m]; exact q)
end
/-- no cell is a frame that runs -/
theorem told_fs {P : Program} {w : World} {K : PySem.W.Frag} {mg : Str → Option Value} {base : Heap} {A : Around} {outer : List Env} {s : Shared} {H : Hp} {cs : List Addr} (e0 : Env0 P w K mg base A outer s H) (t : Told H cs) : ∀ c ∈ cs, c ∉ frs outer := fun c m hb => by
  obtain ⟨o, e⟩ := t c m
  rw [e0.frf c hb] at e; cases e
/-- the end of a call, the cells told again -/
theorem ce_more {P : Program} {w : World} {K : PySem.W.Frag} {mg : Str → Option Value} {base : Heap} {A : Around} {outer : List Env} {s s' : Shared} {H : Hp} {cs : List Addr} {Q : VK} {u : Value} (e0 : Env0 P w K mg base A outer s H) (t : Told H cs)
    (h : CE outer P w (lessC cs H) s (fun v H' => (∀ c ∈ cs, H' c = none) → Q v (moreC cs H H')) u s') : CE outer P w H s Q u s' := by
  obtain ⟨v, H', os, bare, un, hok, r, q⟩ := h
  have fs := told_fs e0 t
  have nH : ∀ c ∈ cs, H' c = none := fun c m => by
    obtain ⟨o, e, eo⟩ := t.obj e0.hok m
    exact un.free c o eo (less_in m) (by simp)
  refine ⟨v, moreC cs H H', os, bare, un_more t e0.hok un, more_hok t hok nH (fun c m o e => ?_), r, q nH⟩
  · exact un.keep c o (e0.hok c _ e).1 (less_in m) (fs c m) (by simp)
theorem cx_more {P : Program} {w : World} {K : PySem.W.Frag} {mg : Str → Option Value} {base : Heap} {A : Around} {outer : List Env} {s s' : Shared} {H : Hp} {cs : List Addr} {E : XK} {u : Value} (e0 : Env0 P w K mg base A outer s H) (t : Told H cs)
    (h : L2.CX P w outer (lessC cs H) s (fun cls d H' => (∀ c ∈ cs, H' c = none) → E cls d (moreC cs H H')) u s') : L2.CX P w outer H s E u s' := by
  obtain ⟨a, B, H', cls, d, ea, fl, hok, ub, na, os, ag, he⟩ := h
  have fs := told_fs e0 t
  have kp : ∀ c ∈ cs, ∀ o, H c = some (CellO c o) → B.get? c = some o := fun c m o e => ub.keep c o (e0.hok c _ e).1 (less_in m) (fs c m)
  have nH : ∀ c ∈ cs, H' c = none := fun c m => by
    obtain ⟨o, e, eo⟩ := t.obj e0.hok m
    exact ub.free c o eo (less_in m)
  refine ⟨a, B, moreC cs H H', cls, d, ea, fl, more_hok t hok nH kp, ub_more t ub, ?_, os, ag, he nH⟩
  have : a ∉ cs := fun m => by
    obtain ⟨o, e, eo⟩ := t.obj e0.hok m
    have h1 := kp a m o e
    rw [fl.2.1] at h1; cases h1
  rw [more_out this]; exact na
/-- a state at a call, without the cells -/
theorem env0_less {P : Program} {w : World} {K : PySem.W.Frag} {mg : Str → Option Value} {base : Heap} {A : Around} {outer : List Env} {s : Shared} {H : Hp} {cs : List Addr} (e0 : Env0 P w K mg base A outer s H) (t : Told H cs) : Env0 P w K mg base A outer s (lessC cs H) :=
  ⟨e0.frames, e0.mod, fun b o e => ⟨(e0.bs b o e).1, less_none (e0.bs b o e).2⟩, e0.bsz, e0.funs, fun b hb => less_none (e0.frf b hb), less_hok t e0.hok, e0.bare⟩
end CLX
set_option maxHeartbeats 4000000
namespace CLX
open PySem PySem.Spec PyProof.Rows L2 LamX
abbrev clFn (qual : Str) (params : Arguments) (body : Expr) (scope : Scope) (cl : List (Str × Addr)) (pm cdv ct dV : Value) : FuncData :=
  { PySem.W.kla_fn "<lambda>" qual params body scope cl pm cdv ct with defaults := dV }
abbrev clObj (qual : Str) (params : Arguments) (body : Expr) (scope : Scope) (cl : List (Str × Addr)) (pm : Value) (c' : Addr) (ct dV : Value) : Obj :=
  { cls := .type "function", data := .func (clFn qual params body scope cl pm (.ref c') ct dV) }
/-- the lambda's names: captured ones (N), globals, a parameter that has a default -/
structure ClS (scope : Scope) (N : List Str) : Prop where
  kind : scope.kind = .function
  co : scope.isCoroutine = false
  gen : scope.isGenerator = false
  cells : ∀ y ∈ scope.names, y.2 ≠ .cell
  free : ∀ y ∈ scope.names, y.2 = .free → y.1 ∈ N
  names : ∀ x ∈ N, scope.names.lookup x = some .free
  nd : N.Nodup
/-- what the captured names' cells hold -/
structure Caps (cl : List (Str × Addr)) (N : List Str) (H : Hp) (σ : L2.St) : Prop where
  has : ∀ x ∈ N, ∃ c, cl.lookup x = some c
  inj : ∀ x y c, cl.lookup x = some c → cl.lookup y = some c → x = y
  at_ : ∀ p ∈ cl, ∃ (i : Nat) (v : V) (o : Obj), N[i]? = some p.1 ∧ σ[i]? = some (some v) ∧ H p.2 = some (CellO p.2 o) ∧ IsCl v o
  len : σ.length = N.length
section
variable {P : Program} {w : World} {K : PySem.W.Frag} {mg : Str → Option Value} {base : Heap}
abbrev clEnv (qual : Str) (scope : Scope) (cl : List (Str × Addr)) (L f c' : Addr) : Env := PySem.W.envX qual scope L f (.ref c') cl
/-- the context of the lambda's body, entered at s -/
def clCx (P : Program) (w : World) (K : PySem.W.Frag) (mg : Str → Option Value) (base : Heap) (qual : Str) (scope : Scope) (N : List Str) (cl : List (Str × Addr)) (f c' : Addr) (A : Around) (outer : List Env) (s : Shared) (H : Hp) (E : XK) : Cx where
  prog := P
  w := w
  K := K
  mg := mg
  base := base
  A := A.deeper (clEnv qual scope cl s.heap.objs.size f c')
  N := N
  s_0 := s
  H_0 := H
  env := clEnv qual scope cl s.heap.objs.size f c'
  outer := outer
  stack := clEnv qual scope cl s.heap.objs.size f c' :: outer
  ex := []
  fn := fun _ => false
  calm := true
  pn := []
  xe := fun e s' => wpAny (model P w) (A.deeper (clEnv qual scope cl s.heap.objs.size f c')) (leaving (clEnv qual scope cl s.heap.objs.size f c') e) (fun _ s'' => L2.CX P w outer H s E e s'') (fun e' s'' => L2.CX P w outer H s E e' s'') s'
theorem cl_start {qual : Str} {scope : Scope} {N : List Str} {cl : List (Str × Addr)} {f c' : Addr} {A : Around} {outer : List Env} {s : Shared} {H : Hp} {E : XK} {σ : L2.St} {h₁ : Heap} {tk : Nat} {m : Str → Option Value} (e0 : Env0 P w K mg base A outer s H) (S : ClS scope N) (C : Caps cl N H σ) (hd : A.handled = none)
    (hns : h₁.Ns s.heap.objs.size m) (kp : ∀ b o, s.heap.get? b = some o → h₁.get? b = some o) :
    Inv (clCx P w K mg base qual scope N cl f c' A outer s (lessC (cl.map (·.2)) H) E) [] σ (lessC (cl.map (·.2)) H) { s with heap := h₁, toks := tk } := by
  have t : Told H (cl.map (·.2)) := fun c m => by
    obtain ⟨p, hp, e⟩ := List.mem_map.mp m
    obtain ⟨i, v, o, _, _, h3, _⟩ := C.at_ p hp
    rw [← e]; exact ⟨o, h3⟩
  have e1 := env0_less e0 t
  have noA : ∀ b : Addr, b ∉ (clCx P w K mg base qual scope N cl f c' A outer s (lessC (cl.map (·.2)) H) E).ex := fun b z => absurd (show b ∈ ([] : List Addr) from z) (by simp)
  have mem : ∀ {y c}, cl.lookup y = some c → (y, c) ∈ cl := fun {y c} e => PySem.mem_of_lookup e
  have cellAt : ∀ {y c}, cl.lookup y = some c → ∃ (i : Nat) (v : V) (u : Value), N[i]? = some y ∧ σ[i]? = some (some v) ∧ RelV v u ∧ h₁.IsCell c (some u) := fun {y c} e => by
    obtain ⟨i, v, o, h1, h2, h3, u, r, ho⟩ := C.at_ _ (mem e)
    exact ⟨i, v, u, h1, h2, r, o, kp _ _ (e0.hok _ _ h3).1, ho⟩
  have frL : scope.kind = .function := S.kind
  refine ⟨⟨e1.mod, S.kind, rfl, rfl, Nat.le_refl _, fun x y c q1 q2 => C.inj x y c q1 q2, fun y hy => ?_, fun y c z _ => ?_, fun _ => hd, Around.frames_deeper e1.frames, .inr ⟨rfl, rfl⟩, fun b z => absurd z (noA b), e1.bs, e1.bsz, fun b _ _ => noA b,
      fun b z => absurd z (noA b), e1.funs, e1.frf⟩,
    rfl, e1.bare, Un.kept kp, ⟨_, hns, fun i y v q1 q2 q3 => ?_⟩, fun y c e => ?_, e1.hok.fresh (Nat.le_refl _), fun y c e => ?_, fun q hq => absurd (show q ∈ ([] : List (Addr × Obj)) ++ [] from hq) (by simp), e1.hok.kept kp, C.len⟩
  · have hy : scope.names.lookup y = some .cell ∨ scope.names.lookup y = some .free := hy
    rcases hy with hy | hy
    · exact absurd rfl (S.cells _ (PySem.mem_of_lookup hy))
    · exact C.has y (S.free _ (PySem.mem_of_lookup hy) rfl)
  · have z : false = true := z
    cases z
  · have hN : N[i]? = some y := q1
    obtain ⟨c, hc⟩ := C.has y (List.mem_of_getElem? hN)
    obtain ⟨j, v', u, h1, h2, r, ic⟩ := cellAt hc
    have : i = j := nodup_ix S.nd hN h1
    subst this
    rw [q2] at h2; cases h2
    exact ⟨u, r, .inr ⟨.inr (S.names y (List.mem_of_getElem? hN)), c, hc, ic⟩⟩
  · obtain ⟨j, v', u, h1, h2, r, ic⟩ := cellAt (show cl.lookup y = some c from e)
    exact ⟨some u, ic⟩
  · exact less_in (List.mem_map.mpr ⟨(y, c), mem (show cl.lookup y = some c from e), rfl⟩)
/-- a function without arguments, as its caller knows it -/
def ClOk (P : Program) (w : World) (K : PySem.W.Frag) (mg : Str → Option Value) (base : Heap) (k : Nat) (f : Addr) (tl : XK → Hp → VK → Prop) : Prop :=
  ∀ (A : Around) (outer : List Env) (s : Shared) (H : Hp) (Q : VK) (E : XK), Room k A → Env0 P w K mg base A outer s H → tl E H Q →
    (∃ (oc : Value) (od : Option Addr) (fd : FuncData) (sl : Array (Option Value)), s.heap.get? f = some ⟨oc, od, .func fd, sl⟩) ∧ codeAny (model P w) A (.call (.ref f) ⟨[], []⟩) (CR (L2.CX P w) outer P w H s Q E) s
/-- what is bound at the call -/
def BindOk (P : Program) (w : World) (H : Hp) (scope : Scope) (fd : FuncData) : Prop :=
  ∀ s : Shared, HOk P w H s.heap → ∃ binds : List (Str × Value), BindsTo s fd ⟨[], []⟩ binds ∧ ∀ y ∈ binds, scope.names.lookup y.1 = some .local
/-- the lambda: what its body comes to -/
theorem cl_ok {qual : Str} {params : Arguments} {body : Expr} {scope : Scope} {N : List Str} {cl : List (Str × Addr)} {pm ct dV : Value} {f c' : Addr} {k : Nat} {tb : XK → TE} (S : ClS scope N)
    (hbody : ∀ (A : Around) (outer : List Env) (s : Shared) (H : Hp) (E : XK), Room k (A.deeper (clEnv qual scope cl s.heap.objs.size f c')) → PE (clCx P w K mg base qual scope N cl f c' A outer s H E) body (tb E)) :
    ClOk P w K mg base (k + 1) f (fun E H Q => H f = some (CellO f (clObj qual params body scope cl pm c' ct dV)) ∧ H c' = some (CodeO c' qual) ∧ BindOk P w H scope (clFn qual params body scope cl pm (.ref c') ct dV) ∧
      ∃ σ, Caps cl N H σ ∧ tb (fun cls d H' => (∀ c ∈ cl.map (·.2), H' c = none) → E cls d (moreC (cl.map (·.2)) H H')) σ (lessC (cl.map (·.2)) H) (fun v H' => (∀ c ∈ cl.map (·.2), H' c = none) → Q v (moreC (cl.map (·.2)) H H'))) := by
  intro A outer s H Q E hr e0 h
  obtain ⟨hf, hc, hb, σ, C, ht⟩ := h
  have t : Told H (cl.map (·.2)) := fun c m => by
    obtain ⟨p, hp, e⟩ := List.mem_map.mp m
    obtain ⟨i, v, o, _, _, h3, _⟩ := C.at_ p hp
    rw [← e]; exact ⟨o, h3⟩
  have of1 : s.heap.get? f = some (clObj qual params body scope cl pm c' ct dV) := (e0.hok f _ hf).1
  refine ⟨⟨_, _, _, _, of1⟩, ?_⟩
  obtain ⟨⟨oc, vs, tq, hoc, hdc, hvc⟩, _, _⟩ := e0.hok c' _ hc
  obtain ⟨binds, hbind, hloc⟩ := hb s e0.hok
  refine PySem.W.kla_callFunE hr.depth of1 rfl S.co S.gen rfl ⟨c', oc, vs, tq, rfl, hoc, hdc, hvc⟩ ?_
  refine hbind _ _ _ _ (wpAny_newFunctionEnv S.cells hloc (fun h₁ hns hsb => ⟨?_, ?_⟩) S.kind)
  · obtain ⟨mc, nl⟩ := (e0.mod.nolimit.keeps fun b o e => (e0.bs b o e).1)
    exact Heap.NoLimit.fresh ⟨mc, nl⟩ _ hsb
  · show codeAny _ _ (.expr body (clEnv qual scope cl s.heap.objs.size f c')) _ _
    have kp : ∀ b o, s.heap.get? b = some o → h₁.get? b = some o := fun b o e => hsb.extBut b o (Nat.ne_of_lt (Heap.lt_size e)) (Heap.get?_push_of_some _ e)
    have J := cl_start (qual := qual) (f := f) (c' := c') (E := fun cls d H' => (∀ c ∈ cl.map (·.2), H' c = none) → E cls d (moreC (cl.map (·.2)) H H')) (tk := s.toks + binds.length) e0 S C hr.hd hns kp
    refine PySem.W.kla_codeExpr (wpAny_mono ((hbody A outer s (lessC (cl.map (·.2)) H) _ (hr.deeper _)).run [] _ _ (lessC (cl.map (·.2)) H) _ J ht) (fun v s' hq => ?_) fun e s' hq => ?_)
    · obtain ⟨w', H', J', rv, q⟩ := hq
      exact ce_more e0 t ⟨w', H', J'.os, J'.bare, J'.base, J'.hok, rv, q⟩
    · exact wpAny_mono hq (fun _ s'' q => cx_more e0 t q) fun _ s'' q => cx_more e0 t q
end
end CLX
set_option maxHeartbeats 4000000
namespace CLX
open PySem PySem.Spec PyProof.Rows L2 LamX
section
variable {X : Cx} {pins : List (Addr × Obj)} {σ : L2.St} {H : Hp} {s : Shared} {k i : Nat} {a x : Str} {p p2 pos : Pos} {E : XK}
/-- x(), x a local name that holds a function without arguments -/
theorem pe_clcall (hN : X.N[i]? = some a) (hv : Vis X.env.scope a) (hr : Room k X.A) (hx : Passes (L2.CX X.prog X.w) X E) (hd : (a == ("__debug__" : Str)) = false := by decide) (hcd : (a == ("__classdict__" : Str)) = false := by decide) :
    PE X (.Call (.Name a p) [] [] p2) (fun σ H Q => ∃ f tl, σ[i]? = some (some (.ref f)) ∧ ClOk X.prog X.w X.K X.mg X.base k f tl ∧ tl E H Q) := by
  refine ⟨fun pins s σ H Q I h => ?_⟩
  obtain ⟨f, tl, hs, ok, ht⟩ := h
  refine wpAny_Call_Name_kw (thn ((pe_var (pos := p) (i := i) hN hv hd hcd).run pins s σ H (fun v H1 => v = .ref f ∧ H1 = H) I ⟨.ref f, hs, rfl, rfl⟩) fun u s1 ⟨v, H1, I1, r1, q1⟩ => ?_)
  obtain ⟨ev, eH⟩ := q1
  subst ev
  rw [eH] at I1
  obtain rfl : u = Value.ref f := r1
  obtain ⟨of, rc⟩ := ok X.A X.stack s1 H Q E hr I1.env0 ht
  refine PySem.W.callWith_F0 of ?_
  refine wpAny_call (codeAny_mono rc fun r s' hq => ?_)
  cases r with
  | error e => exact hx pins σ H s1 e s' I1 hq
  | ok fl =>
    cases fl with
    | ret u => exact I1.after hq
    | next => exact False.elim hq
    | brk => exact False.elim hq
    | cont => exact False.elim hq
def tellC (cs : List Addr) (os : Addr → Obj) (H : Hp) : Hp := fun b => if b ∈ cs then some (CellO b (os b)) else H b
theorem tell_in {cs : List Addr} {os : Addr → Obj} {H : Hp} {b : Addr} (h : b ∈ cs) : tellC cs os H b = some (CellO b (os b)) := if_pos h
theorem tell_out {cs : List Addr} {os : Addr → Obj} {H : Hp} {b : Addr} (h : b ∉ cs) : tellC cs os H b = H b := if_neg h
theorem tell_hok {P : Program} {w : World} {cs : List Addr} {os : Addr → Obj} {h : Heap} (x : HOk P w H h) (hc : ∀ c ∈ cs, H c = none ∧ h.get? c = some (os c)) : HOk P w (tellC cs os H) h := fun b u e => by
  have out : ∀ {c : Addr} {u : HO}, H c = some u → c ∉ cs := fun {c u} q m => by rw [(hc c m).1] at q; cases q
  by_cases m : b ∈ cs
  · rw [tell_in m] at e
    cases e
    exact ⟨(hc b m).2, ⟨_, (hc b m).2⟩, fun h1 h2 p st => st _ p⟩
  · rw [tell_out m] at e
    exact (x b u e).stay (fun _ _ _ q => q) (fun c q => by rw [tell_out (out q)]; exact q) fun c xs q => by rw [tell_out (out q)]; exact q
theorem env0_tell {cs : List Addr} {os : Addr → Obj} (I : Inv X pins σ H s) (hc : ∀ c ∈ cs, ∃ y, X.env.cells.lookup y = some c) (ho : ∀ c ∈ cs, s.heap.get? c = some (os c)) (hfn : ∀ y, X.fn y = true) : Env0 X.prog X.w X.K X.mg X.base X.A X.stack s (tellC cs os H) := by
  have e0 := I.env0
  have fr : ∀ c ∈ cs, H c = none := fun c m => by obtain ⟨y, e⟩ := hc c m; exact I.freeC y c e
  have big : ∀ c ∈ cs, X.s_0.heap.objs.size ≤ c := fun c m => by obtain ⟨y, e⟩ := hc c m; exact I.ok.cab y c (hfn y) e
  refine ⟨e0.frames, e0.mod, fun b o e => ⟨(e0.bs b o e).1, ?_⟩, e0.bsz, e0.funs, fun b hb => ?_, tell_hok e0.hok fun c m => ⟨fr c m, ho c m⟩, e0.bare⟩
  · have : b ∉ cs := fun m => absurd (Nat.lt_of_lt_of_le (Heap.lt_size (I.ok.bs b o e).1) (big b m)) (Nat.lt_irrefl _)
    rw [tell_out this]; exact (e0.bs b o e).2
  · have : b ∉ cs := fun m => by
      rcases List.mem_cons.mp (I.stkSub b hb) with z | z
      · obtain ⟨y, e⟩ := hc b m
        exact I.cne y b e z
      · obtain ⟨_, o, h1, _⟩ := I.ok.funs.mem z
        exact absurd (Nat.lt_of_lt_of_le (Heap.lt_size h1) (big b m)) (Nat.lt_irrefl _)
    rw [tell_out this]; exact e0.frf b hb
/-- behind such a call -/
theorem ce_less {P : Program} {w : World} {outer : List Env} {cs : List Addr} {os : Addr → Obj} {s' : Shared} {Q : VK} {u : Value} (hc : ∀ c ∈ cs, H c = none ∧ s.heap.get? c = some (os c)) (hfs : ∀ c ∈ cs, c ∉ frs outer)
    (h : CE outer P w (tellC cs os H) s (fun v H' => (∀ c ∈ cs, H' c = some (CellO c (os c))) ∧ Q v (lessC cs H')) u s') : CE outer P w H s Q u s' := by
  obtain ⟨v, H', hos, bare, un, hok, r, st, q⟩ := h
  have out : ∀ {c : Addr} {u : HO}, H c = some u → c ∉ cs := fun {c u} q m => by rw [(hc c m).1] at q; cases q
  have at_ : ∀ c ∈ cs, s'.heap.get? c = some (os c) := fun c m => (hok c _ (st c m)).1
  refine ⟨v, lessC cs H', hos, bare, ⟨fun b o q n hb hx => ?_, fun b o q n hb hx => ?_, fun b o q n hx => ?_, un.there, fun b xs q => ?_, fun b o z q => ?_, fun b ps q => ?_⟩, less_hok (fun c m => ⟨os c, st c m⟩) hok, r, q⟩
  · by_cases m : b ∈ cs
    · rw [(hc b m).2] at q
      rw [at_ b m]; exact q
    · exact un.keep b o q (by rw [tell_out m]; exact n) hb hx
  · by_cases m : b ∈ cs
    · exact absurd hb (hfs b m)
    · exact un.slot b o q (by rw [tell_out m]; exact n) hb hx
  · by_cases m : b ∈ cs
    · exact less_in m
    · exact less_none (un.free b o q (by rw [tell_out m]; exact n) hx)
  · rw [less_out (out q)]; exact un.tups b xs (by rw [tell_out (out q)]; exact q)
  · rw [less_out (out q)]; exact un.frzs b o z (by rw [tell_out (out q)]; exact q)
  · rw [less_out (out q)]; exact un.tbls b ps (by rw [tell_out (out q)]; exact q)
/-- f(e, ..), the frame's cells told -/
def tCallC (N : List Str) (cells : List (Str × Addr)) (sp : Sp) (t : TA) : TE := fun σ H Q => t σ H fun vs H1 => ∀ os : Addr → Obj, (∀ c ∈ cells.map (·.2), H1 c = none) →
  (∀ (i : Nat) (y : Str) (v : V) (c : Addr), N[i]? = some y → σ[i]? = some (some v) → cells.lookup y = some c → IsCl v (os c)) →
  sp vs (tellC (cells.map (·.2)) os H1) (fun v H2 => (∀ c ∈ cells.map (·.2), H2 c = some (CellO c (os c))) ∧ Q v (lessC (cells.map (·.2)) H2)) (fun _ _ _ => False)
theorem pe_callC {CX : CXT} {f : Addr} {fd : FuncData} {ps : List Str} {sp : Sp} {e : Expr} {es : List Expr} {t : TA} (F : FnOk X.prog X.w X.K X.mg X.base CX k f fd ps sp) (h0 : ∀ o H s E e s', CX o H s E e s' → False) (hr : Room k X.A) (hg : Gl X x) (hm : X.mg x = some (.ref f)) (hk : PySem.W.keepIn X.K (.ref f) = true) (hb : Binds X.K fd ps []) (hfn : ∀ y, X.fn y = true)
    (hnd : ∀ q ∈ X.env.cells, X.env.cells.lookup q.1 = some q.2) (hcell : ∀ q ∈ X.env.cells, X.env.scope.names.lookup q.1 = some .cell)
    (ha : PA X (e :: es) t) (hdb : (x == ("__debug__" : Str)) = false := by decide) (he : starEach (e :: es) X.env = (false, eval e X.env) :: starEach es X.env := by rfl) (hpl : (backTo pos (starEach es X.env)).any (·.1) = false := by rfl) :
    PE X (.Call (.Name x p) (e :: es) [] pos) (tCallC X.N X.env.cells sp t) := by
  refine ⟨fun pins s σ H Q I h => ?_⟩
  refine wpAny_Call_Name_kw (ld_glob I hg hm ?_ hdb)
  refine PySem.W.callWith_K (h₀ := X.base) I.ok.mod.kin hk (thn (ha.run pos pins s σ H _ I h) fun us s1 ⟨vs, H1, I1, r, q⟩ => ⟨I1.kIn, ?_⟩) he hpl
  let cs := X.env.cells.map (·.2)
  have hc : ∀ c ∈ cs, ∃ y, X.env.cells.lookup y = some c := fun c m => by
    obtain ⟨p, hp, e⟩ := List.mem_map.mp m
    exact ⟨p.1, by rw [hnd p hp, e]⟩
  let os : Addr → Obj := fun c => (s1.heap.get? c).getD { cls := .none, data := .plain }
  have ho : ∀ c ∈ cs, s1.heap.get? c = some (os c) := fun c m => by
    obtain ⟨y, e⟩ := hc c m
    obtain ⟨v, o, eo, _⟩ := I1.cell y c e
    show _ = some ((s1.heap.get? c).getD _)
    rw [eo]; rfl
  have hv : ∀ (i : Nat) (y : Str) (v : V) (c : Addr), X.N[i]? = some y → σ[i]? = some (some v) → X.env.cells.lookup y = some c → IsCl v (os c) := fun i y v c h1 h2 h3 => by
    obtain ⟨m, _, hl⟩ := I1.loc
    have kc := hcell _ (PySem.mem_of_lookup h3)
    obtain ⟨u, ru, l⟩ := hl i y v h1 h2 (.inr (.inl kc))
    rcases l with ⟨k1, _⟩ | ⟨_, c2, h4, o, eo, hd⟩
    · have k1 : X.env.scope.names.lookup y = some .local := k1
      rw [show X.env.scope.names.lookup y = some .cell from kc] at k1; cases k1
    · rw [h3] at h4; cases h4
      refine ⟨u, ru, ?_⟩
      show ((s1.heap.get? c).getD _).data = _
      rw [eo]; exact hd
  have q' := q os (fun c m => by obtain ⟨y, e⟩ := hc c m; exact I1.freeC y c e) hv
  have hl : us.length = ps.length := by rw [← r.length]; exact F.len _ _ _ _ q'
  have e0 := env0_tell (os := os) I1 hc ho hfn
  have hb2 := hb s1 us I1.kIn (by rw [List.append_nil]; exact hl)
  rw [List.append_nil] at hb2
  refine wpAny_call (codeAny_mono (F.run X.A X.stack s1 _ ⟨us, []⟩ us vs _ _ hr e0 hb2 r q') fun r s' hq => ?_)
  cases r with
  | error e =>
    exact (h0 _ _ _ _ _ _ hq).elim
  | ok fl =>
    cases fl with
    | ret u => exact I1.after (ce_less (fun c m => ⟨by obtain ⟨y, e⟩ := hc c m; exact I1.freeC y c e, ho c m⟩) (fun c m hb => by
        have := e0.frf c hb
        rw [tell_in m] at this; cases this) hq)
    | next => exact False.elim hq
    | brk => exact False.elim hq
    | cont => exact False.elim hq
end
end CLX
set_option maxHeartbeats 4000000
namespace CLX
open PySem PySem.Spec PyProof.Rows L2 LamX
section
variable {M : Model} {A : Around} {E : Value → Shared → Prop} {s : Shared} {name qual : Str} {params : Arguments} {body : Expr} {scope : Scope} {env : Env} {pos : Pos} {fl : Nat} {mg : Str → Option Value} {clos : List (Str × Addr)} {Q : Value → Shared → Prop} {dV : Value} {bm : Addr} {ob : Obj}
def Kp (h h' : Heap) : Prop := ∀ b o, h.get? b = some o → h'.get? b = some o
/-- the function's object, wherever its code comes from (R) -/
theorem cl_tail {R : Heap → Value → Heap → Prop} (hcl : closureFor scope env = pure clos) (hge0 : env.globals = mainGlobals) (hbm : mg "__builtins__" = some (.ref bm)) (hne : bm ≠ builtinsNs) (c1 : ob.cls = .type "module") (c2 : ob.dict = some builtinsNs) (c3 : ob.data = .plain)
    (hfc : ∀ (h1 : Heap) (Q' : Value → Shared → Prop), Kp s.heap h1 → s.heap.objs.size ≤ h1.objs.size → (∀ cv h' tk, R h1 cv h' → Q' cv { s with heap := h', toks := tk }) → wpAny M A (functionCode env pos fl name qual params scope (.expr body)) Q' E { s with heap := h1 })
    (hgl : ∀ h1 cv h', Kp s.heap h1 → R h1 cv h' → h'.Ns mainGlobals mg ∧ h'.get? bm = some ob)
    (h : ∀ (ct : Value) (h1 : Heap) (cv : Value) (h' : Heap) (tk : Tok), Kp s.heap h1 → s.heap.objs.size ≤ h1.objs.size → R h1 cv h' →
      Q (.ref h'.objs.size) { s with heap := h'.push { cls := .type "function", data := .func { PySem.W.kla_fn name qual params body scope clos ((mg "__name__").getD .none) cv ct with defaults := dV } }, toks := tk }) :
    wpAny M A (makeTail name qual params (.expr body) scope env dV .none none pos fl) Q E s := by
  unfold makeTail
  rw [hcl, hge0]
  refine wpAny_bind (wpAny_pure ?_)
  have fin : ∀ (ct : Value) (h1 : Heap), Kp s.heap h1 → s.heap.objs.size ≤ h1.objs.size → wpAny M A (do
      let code ← functionCode env pos fl name qual params scope (.expr body)
      let bs ← builtinsFor mainGlobals env.builtins
      let pm := (← nsGet mainGlobals "__name__").getD .none
      let doc ← pure Value.none
      newObj (.type "function") (.func { name, qualname := qual, params, body := .expr body, scope, globals := mainGlobals, closure := clos, closureTuple := ct, code, builtins := bs, defaults := dV, kwdefaults := .none, annotations := none, pyModule := pm, doc })) Q E { s with heap := h1 } := fun ct h1 k1 z1 => by
    refine wpAny_bind (hfc h1 _ k1 z1 fun cv h' tk r => ?_)
    obtain ⟨hg', hbo'⟩ := hgl h1 cv h' k1 r
    refine wpAny_bind (wpAny_builtinsFor hg' hbm hne hbo' c1 c2 c3 ?_)
    refine wpAny_bind (wpAny_nsGet hg' ?_)
    exact wpAny_bind (wpAny_pure (wpAny_newObj_type (h ct h1 cv h' tk k1 z1 r) (by size_fits)))
  cases clos with
  | nil =>
    simp only [List.isEmpty_nil, if_true]
    exact wpAny_bind (wpAny_pure (fin .none s.heap (fun _ _ e => e) (Nat.le_refl _)))
  | cons q r =>
    simp only [List.isEmpty_cons, Bool.false_eq_true, if_false]
    exact wpAny_bind (wpAny_newTextTuple (fin _ _ (fun b o e => Heap.get?_push_of_some _ e) (by rw [Heap.size_push]; omega)))
end
section
variable {X : Cx} {pins : List (Addr × Obj)} {σ : L2.St} {H : Hp} {s : Shared}
/-- what is known of a lambda once it is made -/
def IsLam (H : Hp) (qual : Str) (params : Arguments) (body : Expr) (scope : Scope) (cl : List (Str × Addr)) (dV : Value) (f : Addr) : Prop :=
  ∃ (c' : Addr) (pm ct : Value), H f = some (CellO f (clObj qual params body scope cl pm c' ct dV)) ∧ H c' = some (CodeO c' qual)
theorem IsLam.mono {H H' : Hp} {qual : Str} {params : Arguments} {body : Expr} {scope : Scope} {cl : List (Str × Addr)} {dV : Value} {f : Addr} (k : ∀ b o, H b = some o → H' b = some o) (h : IsLam H qual params body scope cl dV f) : IsLam H' qual params body scope cl dV f := by
  obtain ⟨c', pm, ct, h1, h2⟩ := h
  exact ⟨c', pm, ct, k _ _ h1, k _ _ h2⟩
/-- the table at P: each code object that it tells bears the name q and is known in G -/
def TabG (G H : Hp) (P : Addr) (q : Str) : Prop := ∃ ps : Array Value, H P = some (.tbl ps) ∧ TriplesOk ps.toList ∧ ∀ (pos : Pos) (cv : Value), codeAmong pos ps.toList = some cv → ∃ c, cv = .ref c ∧ G c = some (CodeO c q)
/-- what a lambda's making comes to: H to H1, what is shared from G to G1 -/
structure Made (P : Addr) (q : Str) (G H G1 H1 : Hp) : Prop where
  keep : ∀ b o, H b = some o → b ≠ P → H1 b = some o
  g : ∀ b o, G b = some o → G1 b = some o
  sub : ∀ b o, G1 b = some o → H1 b = some o
  new : ∀ b, G1 b ≠ none → G b = none → H b = none
  tab : TabG G1 H1 P q
theorem TabG.grow {G G1 H H1 : Hp} {P : Addr} {q : Str} (t : TabG G H P q) (g : ∀ b o, G b = some o → G1 b = some o) (k : ∀ ps, H P = some (.tbl ps) → H1 P = some (.tbl ps)) : TabG G1 H1 P q := by
  obtain ⟨ps, h1, h2, h3⟩ := t
  exact ⟨ps, k _ h1, h2, fun pos cv hc => let ⟨c, e1, e2⟩ := h3 pos cv hc; ⟨c, e1, g _ _ e2⟩⟩
theorem cl_make {G : Hp} {c P : Addr} {params : Arguments} {body : Expr} {scope : Scope} {pos : Pos} {E : Value → Shared → Prop} {Q : Value → Shared → Prop} {dV : Value} (I : Inv X pins σ H s) (TB : TabB X.base X.mg c P) (hcode : X.env.code = .ref c)
    (hT : TabG G H P (X.env.qual ++ "<lambda>")) (hG : ∀ b o, G b = some o → H b = some o) (GP : G P = none) (hfree : ∀ y ∈ scope.names, y.2 = .free → ∃ c, X.env.cells.lookup y.1 = some c)
    (h : ∀ (f : Addr) (G1 H1 : Hp) (s' : Shared), Inv X pins σ H1 s' → Made P (X.env.qual ++ "<lambda>") G H G1 H1 → IsLam G1 (X.env.qual ++ "<lambda>") params body scope (cloFrom X.env.cells scope.names []) dV f → Q (.ref f) s') :
    wpAny (model X.prog X.w) X.A (makeTail "<lambda>" (X.env.qual ++ "<lambda>") params (.expr body) scope X.env dV .none none pos pos.line) Q E s := by
  obtain ⟨ps, hP, ht, ha⟩ := hT
  have bP : s.heap.BuiltinsAt X.mg P := TB.bm.keeps I.bk
  have C : PySem.W.CodeHd s.heap c P := TB.code.keeps I.bk
  have hg : s.heap.Ns mainGlobals X.mg := I.mod.glob.keeps I.bk
  have hP' : s.heap.get? P = some { cls := .none, data := .fields ps } := I.hok P _ hP
  obtain ⟨bm, ob, hbm, hne0, _, hneP, hbo, c1, c2, c3⟩ := bP
  have gn : ∀ {b : Addr}, H b = none → G b = none := fun {b} e => by
    cases q : G b with
    | none => rfl
    | some o => rw [hG b o q] at e; cases e
  have gne : ∀ {b d : Addr} {o : HO}, G b = some o → H d = none → b ≠ d := fun {b d o} e n z => by rw [z, gn n] at e; cases e
  cases hc : codeAmong pos ps.toList with
  | none =>
    refine cl_tail (R := fun h1 cv h' => Kp s.heap h1 ∧ s.heap.objs.size ≤ h1.objs.size ∧ ∃ c', cv = .ref c' ∧ Heap.ExtBut P h1 h' ∧ h1.objs.size ≤ c' ∧ c' < h'.objs.size ∧ h'.CodeRec (.ref c') (X.env.qual ++ "<lambda>") ∧ h'.get? P = some (PySem.W.tabObj (ps ++ #[rawInt pos.line, rawInt pos.col, .ref c'])))
      (closure_ok hfree) I.ok.glob hbm hne0 c1 c2 c3 (fun h1 Q' k1 z1 hq => ?_) (fun h1 cv h' k1 r => ?_) fun ct h1 cv h' tk k1 z1 r => ?_
    · refine wpAny_functionCodeX (P := P) (ps := ps) hcode ((C.keeps k1).code (k1 _ _ hP') ht) ((C.keeps k1).tab (k1 _ _ hP')) hc fun c' h' tk hx hge hlt _ hrec htb _ => ?_
      exact hq _ h' tk ⟨k1, z1, c', rfl, hx, hge, hlt, hrec, htb.2⟩
    · obtain ⟨_, _, c', rfl, hx, _, _, _, _⟩ := r
      exact ⟨(hg.keeps k1).extBut hx TB.gP, hx _ _ hneP (k1 _ _ hbo)⟩
    · obtain ⟨_, _, c', rfl, hx, hge, hlt, hrec, htb⟩ := r
      obtain ⟨c2', oc, vs, t, e2, hoc, hd, hv⟩ := hrec
      cases e2
      have hge' : s.heap.objs.size ≤ c' := Nat.le_trans z1 hge
      have hsz : s.heap.objs.size ≤ h'.objs.size := Nat.le_trans hge' (Nat.le_of_lt hlt)
      have nC : H c' = none := I.hok.fresh hge'
      have nF : H h'.objs.size = none := I.hok.fresh hsz
      have nFc : h'.objs.size ≠ c' := Nat.ne_of_gt hlt
      have I1 := inv_table (t' := tk) (more := #[rawInt pos.line, rawInt pos.col, .ref c']) (h' := h') I hP (fun b o hb e => hx b o hb (k1 _ _ e)) htb hge' ⟨oc, vs, t, hoc, hd, hv⟩
      have I2 := I1.laid (a := h'.objs.size) (o := CellO h'.objs.size (clObj (X.env.qual ++ "<lambda>") params body scope (cloFrom X.env.cells scope.names []) ((X.mg "__name__").getD .none) c' ct dV)) (t' := tk)
        (h' := h'.push (clObj (X.env.qual ++ "<lambda>") params body scope (cloFrom X.env.cells scope.names []) ((X.mg "__name__").getD .none) c' ct dV)) (fun b o e => Heap.get?_push_of_some _ e) (Nat.le_refl _) ⟨Heap.get?_push_size _ rfl, ⟨_, Heap.get?_push_size _ rfl⟩, fun h1 h2 p st => st _ p⟩
      have eL : (ps ++ #[rawInt pos.line, rawInt pos.col, .ref c']).toList = ps.toList ++ [rawInt pos.line, rawInt pos.col, .ref c'] := by simp
      refine h h'.objs.size (upd (upd G c' (CodeO c' (X.env.qual ++ "<lambda>"))) h'.objs.size (CellO h'.objs.size (clObj (X.env.qual ++ "<lambda>") params body scope (cloFrom X.env.cells scope.names []) ((X.mg "__name__").getD .none) c' ct dV))) _ _ I2
        ⟨fun b o e n => by rw [upd_ne (ne_of_none e nF), upd_ne (ne_of_none e nC), upd_ne n]; exact e, fun b o e => by rw [upd_ne (gne e nF), upd_ne (gne e nC)]; exact e, fun b o e => ?_, fun b e n => ?_, ?_⟩ ⟨c', _, ct, upd_same, by rw [upd_ne (Ne.symm nFc), upd_same]⟩
      · by_cases h1 : b = h'.objs.size
        · subst h1; rw [upd_same] at e ⊢; exact e
        · rw [upd_ne h1] at e ⊢
          by_cases h2 : b = c'
          · subst h2; rw [upd_same] at e ⊢; exact e
          · rw [upd_ne h2] at e ⊢
            rw [upd_ne (fun z => by rw [z, GP] at e; cases e)]
            exact hG b o e
      · by_cases h1 : b = h'.objs.size
        · rw [h1]; exact nF
        · rw [upd_ne h1] at e
          by_cases h2 : b = c'
          · rw [h2]; exact nC
          · rw [upd_ne h2] at e; exact absurd n e
      · refine ⟨_, by rw [upd_ne (ne_of_none hP nF), upd_ne (ne_of_none hP nC), upd_same], by rw [eL]; exact PySem.TriplesOk_snoc _ _ _ _ ht, fun p' cv hcv => ?_⟩
        rw [eL] at hcv
        rcases among_app _ ht hcv with z | z
        · obtain ⟨c0, e1, e2⟩ := ha p' cv z
          exact ⟨c0, e1, by rw [upd_ne (gne e2 nF), upd_ne (gne e2 nC)]; exact e2⟩
        · exact ⟨c', z, by rw [upd_ne (Ne.symm nFc), upd_same]⟩
  | some cv0 =>
    obtain ⟨c', e, hco⟩ := ha pos cv0 hc
    subst e
    refine cl_tail (R := fun h1 cv h' => Kp s.heap h1 ∧ s.heap.objs.size ≤ h1.objs.size ∧ cv = .ref c' ∧ h' = h1)
      (closure_ok hfree) I.ok.glob hbm hne0 c1 c2 c3 (fun h1 Q' k1 z1 hq => ?_) (fun h1 cv h' k1 r => ?_) fun ct h1 cv h' tk k1 z1 r => ?_
    · exact wpAny_functionCode_hit (P := P) (ps := ps) hcode ((C.keeps k1).code (k1 _ _ hP') ht) hc (hq _ h1 s.toks ⟨k1, z1, rfl, rfl⟩)
    · obtain ⟨_, _, _, rfl⟩ := r
      exact ⟨hg.keeps k1, k1 _ _ hbo⟩
    · obtain ⟨_, _, rfl, rfl⟩ := r
      have nf : H h'.objs.size = none := I.hok.fresh z1
      have I1 : Inv X pins σ H { s with heap := h', toks := tk } := I.kept k1
      have I2 := I1.laid (a := h'.objs.size) (o := CellO h'.objs.size (clObj (X.env.qual ++ "<lambda>") params body scope (cloFrom X.env.cells scope.names []) ((X.mg "__name__").getD .none) c' ct dV)) (t' := tk)
        (h' := h'.push (clObj (X.env.qual ++ "<lambda>") params body scope (cloFrom X.env.cells scope.names []) ((X.mg "__name__").getD .none) c' ct dV)) (fun b o e => Heap.get?_push_of_some _ e) (Nat.le_refl _) ⟨Heap.get?_push_size _ rfl, ⟨_, Heap.get?_push_size _ rfl⟩, fun h1 h2 p st => st _ p⟩
      have up : ∀ {J : Hp} {b : Addr} {o : HO} {u : HO}, b ≠ h'.objs.size → J b = some o → (upd J h'.objs.size u) b = some o := fun {J b o u} n e => by rw [upd_ne n]; exact e
      refine h h'.objs.size (upd G h'.objs.size (CellO h'.objs.size (clObj (X.env.qual ++ "<lambda>") params body scope (cloFrom X.env.cells scope.names []) ((X.mg "__name__").getD .none) c' ct dV))) _ _ I2
        ⟨fun b o e _ => up (ne_of_none e nf) e, fun b o e => up (gne e nf) e, fun b o e => ?_, fun b e n => ?_, ps, up (ne_of_none hP nf) hP, ht, fun p' cv hcv => ?_⟩ ⟨c', _, ct, upd_same, up (gne hco nf) hco⟩
      · by_cases h1 : b = h'.objs.size
        · subst h1; rw [upd_same] at e ⊢; exact e
        · rw [upd_ne h1] at e ⊢; exact hG b o e
      · by_cases h1 : b = h'.objs.size
        · rw [h1]; exact nf
        · rw [upd_ne h1] at e; exact absurd n e
      · obtain ⟨c0, e1, e2⟩ := ha p' cv hcv
        exact ⟨c0, e1, up (gne e2 nf) e2⟩
end
end CLX
set_option maxHeartbeats 4000000
namespace CLX
open PySem PySem.Spec PyProof.Rows L2 LamX
def DflOk (H : Hp) (params : Arguments) (dV : Value) : Prop := (params.defaults = [] ∧ dV = .none) ∨ (params.defaults ≠ [] ∧ ∃ (d : Addr) (n : Int), dV = .ref d ∧ H d = some (.tup [.int n]))
theorem DflOk.mono {H H' : Hp} {params : Arguments} {dV : Value} (k : ∀ b o, H b = some o → H' b = some o) (h : DflOk H params dV) : DflOk H' params dV := by
  rcases h with h | ⟨n, d, m, e, q⟩
  · exact .inl h
  · exact .inr ⟨n, d, m, e, k _ _ q⟩
/-- what is known of a lambda's value -/
def IsLm (H : Hp) (qual : Str) (params : Arguments) (body : Expr) (scope : Scope) (cl : List (Str × Addr)) (f : Addr) : Prop := ∃ dV, IsLam H qual params body scope cl dV f ∧ DflOk H params dV
theorem IsLm.mono {H H' : Hp} {qual : Str} {params : Arguments} {body : Expr} {scope : Scope} {cl : List (Str × Addr)} {f : Addr} (k : ∀ b o, H b = some o → H' b = some o) (h : IsLm H qual params body scope cl f) : IsLm H' qual params body scope cl f := by
  obtain ⟨dV, h1, h2⟩ := h
  exact ⟨dV, h1.mono k, h2.mono k⟩
/-- how its parameter is bound -/
structure LamBind (params : Arguments) (scope : Scope) : Prop where
  none : params.defaults = [] → ∀ (q : Str) (body : Expr) (cl : List (Str × Addr)) (pm cv ct : Value), bindArgs (clFn q params body scope cl pm cv ct .none) ⟨[], []⟩ = pure []
  one : params.defaults ≠ [] → ∃ x, scope.names.lookup x = some .local ∧ ∀ (q : Str) (body : Expr) (cl : List (Str × Addr)) (pm cv ct : Value) (d : Addr), ∃ k, bindArgs (clFn q params body scope cl pm cv ct (.ref d)) ⟨[], []⟩ = seqItems? (.ref d) >>= k ∧ ∀ v, k (some #[v]) = pure [(x, v)]
theorem LamBind.ok {P : Program} {w : World} {H : Hp} {params : Arguments} {scope : Scope} {dV : Value} {q : Str} {body : Expr} {cl : List (Str × Addr)} {pm cv ct : Value} (L : LamBind params scope) (D : DflOk H params dV) : BindOk P w H scope (clFn q params body scope cl pm cv ct dV) := by
  intro s hok
  rcases D with ⟨h, rfl⟩ | ⟨h, d, n, rfl, hd⟩
  · exact ⟨[], .of_eq (L.none h q body cl pm cv ct), fun y m => nomatch m⟩
  · obtain ⟨x, hx, hk⟩ := L.one h
    obtain ⟨k, e, ek⟩ := hk q body cl pm cv ct d
    obtain ⟨_, its, r, ob, eo, _, m, ed⟩ := hok d _ hd
    obtain ⟨u, rfl, t, rfl⟩ := vals1 r
    refine ⟨[(x, .int n t)], fun M A E Q hq => ?_, fun y m => by rw [List.mem_singleton.mp m]; exact hx⟩
    rw [e]
    refine wpAny_bind (wpAny_seqItems eo ed ?_)
    rw [ek]
    exact wpAny_pure hq
section
variable {X : Cx}
def tLm (P : Addr) (qual : Str) (params : Arguments) (body : Expr) (scope : Scope) (cl : List (Str × Addr)) : TE := fun _ H Q => ∃ G, TabG G H P qual ∧ (∀ b o, G b = some o → H b = some o) ∧ G P = none ∧
  ∀ (f : Addr) (G1 H1 : Hp), Made P qual G H G1 H1 → IsLm G1 qual params body scope cl f → Q (.ref f) H1
/-- the lambda's parameters: none, or one of a whole number as its default -/
inductive LamDef (X : Cx) (params : Arguments) : Prop
  | none (h : defaultsOf params X.env = ([], [])) (h2 : params.defaults = [])
  | one {e : Expr} {n : Int} (h : defaultsOf params X.env = ([eval e X.env], [])) (h2 : params.defaults ≠ []) (he : PE X e (tC (.int n)))
theorem pe_lm {c P : Addr} {params : Arguments} {body : Expr} {scope : Scope} {pos : Pos} (TB : TabB X.base X.mg c P) (hcode : X.env.code = .ref c)
    (hfree : ∀ y ∈ scope.names, y.2 = .free → ∃ c, X.env.cells.lookup y.1 = some c) (D : LamDef X params) : PE X (.Lambda params body scope pos) (tLm P (X.env.qual ++ "<lambda>") params body scope (cloFrom X.env.cells scope.names [])) := by
  refine ⟨fun pins s σ H Q I h => ?_⟩
  obtain ⟨G, hT, hG, GP, h⟩ := h
  cases D with
  | none hd h2 =>
    refine PySem.W.kla_eval hd ?_
    rw [makeFunction_eq]
    simp only [List.zip_nil_right, List.filterMap_nil, List.isEmpty_nil, if_true, pure_bind]
    exact cl_make I TB hcode hT hG GP hfree fun f G1 H1 s' I1 m il => ⟨.ref f, H1, I1, rfl, h f G1 H1 m ⟨.none, il, .inl ⟨h2, rfl⟩⟩⟩
  | @one e n hd h2 he =>
    rw [arm_eval_Lambda, hd]
    show wpAny _ _ (do let dv ← evalAll [eval e X.env]; let kdv ← holding dv (evalAllOpt []); makeFunction "<lambda>" (X.env.qual ++ "<lambda>") params (.expr body) scope X.env dv kdv [] pos pos.line) _ _ s
    refine wpAny_bind ?_
    show wpAny _ _ (do let v ← eval e X.env; return v :: (← holding [v] (evalAll []))) _ _ s
    refine wpAny_bind (thn (he.run pins s σ H (fun v H1 => v = .int n ∧ H1 = H) I ⟨rfl, rfl⟩) fun u s1 ⟨v, H1, I1, r1, q1⟩ => ?_)
    obtain ⟨rfl, eH⟩ := q1
    rw [eH] at I1
    refine wpAny_bind (wpAny_holding (wpAny_pure (wpAny_pure ?_)))
    refine wpAny_bind (wpAny_holding (wpAny_pure ?_))
    rw [makeFunction_eq]
    simp only [List.zip_nil_right, List.filterMap_nil, List.isEmpty_nil, List.isEmpty_cons, Bool.false_eq_true, if_false, if_true, pure_bind]
    refine wpAny_bind (wpAny_newTextTuple ?_)
    have nd : H s1.heap.objs.size = none := I1.hok.fresh (Nat.le_refl _)
    have ng : G s1.heap.objs.size = none := by
      cases q : G s1.heap.objs.size with
      | none => rfl
      | some o => rw [hG _ o q] at nd; cases nd
    have I2 := I1.laid (a := s1.heap.objs.size) (o := .tup [.int n]) (t' := s1.toks) (h' := s1.heap.push { cls := .type "tuple", data := .seq [u].toArray }) (fun b o e => Heap.get?_push_of_some _ e) (Nat.le_refl _)
      ⟨(by show 1 ≤ sizeLine; decide), [u], .cons r1 .nil, _, Heap.get?_push_size _ rfl, rfl, _, rfl⟩
    have up : ∀ {J : Hp} {b : Addr} {o : HO}, J s1.heap.objs.size = none → J b = some o → (upd J s1.heap.objs.size (.tup [.int n])) b = some o := fun {J b o} n e => by rw [upd_ne (ne_of_none e n)]; exact e
    obtain ⟨ps, hP, _, _⟩ := id hT
    have nP : P ≠ s1.heap.objs.size := ne_of_none hP nd
    exact cl_make (G := upd G s1.heap.objs.size (.tup [.int n])) I2 TB hcode (hT.grow (fun b o e => up ng e) fun ps e => up nd e) (fun b o e => by
        by_cases hb : b = s1.heap.objs.size
        · subst hb; rw [upd_same] at e ⊢; exact e
        · rw [upd_ne hb] at e ⊢; exact hG b o e) (by rw [upd_ne nP]; exact GP) hfree fun f G1 H1 s' I3 m il =>
      ⟨.ref f, H1, I3, rfl, h f G1 H1 ⟨fun b o e n => m.keep b o (up nd e) n, fun b o e => m.g b o (up ng e), m.sub, fun b e n => by
        by_cases hb : b = s1.heap.objs.size
        · rw [hb]; exact nd
        · have := m.new b e (by rw [upd_ne hb]; exact n)
          rw [upd_ne hb] at this; exact this, m.tab⟩ ⟨_, il, .inr ⟨h2, s1.heap.objs.size, n, rfl, m.g _ _ upd_same⟩⟩⟩
end
end CLX
set_option maxHeartbeats 4000000
namespace L2
open PySem PySem.Spec PyProof.Rows
end L2
set_option maxHeartbeats 6400000
namespace PySem
end PySem
namespace L2
open PySem PySem.Spec PyProof.Rows
end L2
set_option maxHeartbeats 6400000
namespace L2
open PySem PySem.Spec PyProof.Rows PySem.W PySem.SeqAt
theorem ReadsAll.nth {h : Heap} : ∀ {us : List Value} {ds : List PyData} {as : List Addr} {i : Nat} {u : Value}, ReadsAll h us ds as → us[i]? = some u → ∃ d bs, ds[i]? = some d ∧ Reads h u d bs
  | _, _, _, _, _, .nil, e => by simp at e
  | _, _, _, 0, _, .cons r _, e => by simp at e; subst e; exact ⟨_, _, rfl, r⟩
  | _, _, _, i + 1, u, .cons _ t, e => by
    obtain ⟨d, bs, h1, h2⟩ := ReadsAll.nth (i := i) (u := u) t (by simpa using e)
    exact ⟨d, bs, by simpa using h1, h2⟩
end L2
set_option maxHeartbeats 6400000
namespace PySem
open PyProof.Rows
end PySem
set_option maxHeartbeats 6400000
namespace L2
open PySem PySem.Spec PyProof.Rows
end L2
set_option maxHeartbeats 4000000
namespace L2
open PySem PySem.Spec PyProof.Rows
end L2
set_option maxHeartbeats 4000000
namespace L2
open PySem PySem.Spec PyProof.Rows
section
variable {X : Cx}
def rTupF (K : PySem.W.Frag) : List V → Hp → VK → Prop := fun vs H Q => ∃ (l : Addr) (ys : List V), vs = [V.ref l] ∧ SqL K H l ys ∧ ∀ (q : Addr) (ob : Obj), H q = none → ob.dict = none → Q (.ref q) (upd H q (.frz ob (.tup ys)))
theorem cr_tupF : CallR X (.type "tuple") (rTupF X.K) := by
  intro pins s σ H vs us Q I r h
  obtain ⟨l, ys, rfl, hl, k⟩ := h
  rw [Vals.ref1 r]
  obtain ⟨its, rv, il, zl⟩ := I.list hl
  have n := rv.length
  refine call_tuple_list il.isList (fun h2 kp => ?_) (by simp only [List.size_toArray]; omega)
  have J : Inv X pins σ H { s with heap := h2 } := I.kept (t' := s.toks) kp
  have e := Heap.get?_push_size h2 (o := { cls := .type "tuple", data := .seq its.toArray }) rfl
  exact ⟨.ref h2.objs.size, upd H h2.objs.size (.frz { cls := .type "tuple", data := .seq its.toArray } (.tup ys)), J.laid (t' := s.toks) (fun _ _ w => Heap.get?_push_of_some _ w) (Nat.le_refl _) ⟨e, zl, its, rv, IsTup.new _ _⟩, rfl,
    k _ _ (J.hok.fresh (Nat.le_refl _)) rfl⟩
/-- a tuple without a dict -/
def TupQ (K : PySem.W.Frag) (H : Hp) (a : Addr) (xs : List V) : Prop := (∃ ob : Obj, H a = some (.frz ob (.tup xs)) ∧ ob.dict = none) ∨
  ∃ (o : Obj) (its : Array Value) (n : Nat), K.lookup a = some o ∧ o.cls = .type "tuple" ∧ o.dict = none ∧ o.data = .seq its n ∧ its.size ≤ sizeLine ∧ Vals xs its.toList
theorem TupQ.sq {H : Hp} {a : Addr} {xs : List V} {K : PySem.W.Frag} (t : TupQ K H a xs) : SqT K H a xs := by
  rcases t with ⟨_, e, _⟩ | ⟨o, its, n, h1, h2, _, h3, h4, h5⟩
  · exact .inl (.inr ⟨_, e⟩)
  · exact .inr ⟨o, its, n, h1, h2, h3, h4, h5⟩
theorem TupQ.mono {F F' : Hp} {a : Addr} {xs : List V} {K : PySem.W.Frag} (k : ∀ b o, F b = some o → F' b = some o) (h : TupQ K F a xs) : TupQ K F' a xs := h.imp (fun ⟨ob, e, d⟩ => ⟨ob, k _ _ e, d⟩) id
def wholeI (n : Nat) (lo hi : Option Int) : Prop := HT.sIx n 0 lo = 0 ∧ HT.sIx n n hi = n
def rSlF (K : PySem.W.Frag) : V → Option Int → Option Int → Hp → VK → Prop := fun x lo hi H Q => ∃ (a : Addr) (xs : List V), x = .ref a ∧ SqT K H a xs ∧
  (wholeI xs.length lo hi → Q (.ref a) H) ∧ (¬ wholeI xs.length lo hi → ∀ (q : Addr) (ob : Obj), H q = none → ob.dict = none → Q (.ref q) (upd H q (.frz ob (.tup (cutV xs lo hi)))))
theorem sl_tupF : SlR X (rSlF X.K) := by
  intro pins s σ H x v w1 w2 lo hi sl Q I rx hsl p1 p2 h
  obtain ⟨a, xs, rfl, ht, k1, k2⟩ := h
  cases rx
  obtain ⟨its, rv, it, zt⟩ := I.tuple ht
  have n : its.toArray.size = xs.length := by rw [List.size_toArray]; exact rv.length.symm
  refine ⟨"tuple", _, PyProof.Rows.slot_tuple_getitem.lookup, it.typeIs, ?_⟩
  by_cases hw : wholeI xs.length lo hi
  · exact getItem_tuple_whole it hsl p1 p2 (by rw [n]; exact hw) ⟨.ref a, H, I, rfl, k1 hw⟩
  · refine HT.getItem_tuple_cut it hsl p1 p2 (by rw [n]; exact hw) ?_ (by rw [n]; exact zt)
    rw [n]
    have rc := (rv.drop (HT.sIx xs.length 0 lo)).take (HT.sIx xs.length xs.length hi - HT.sIx xs.length 0 lo)
    exact ⟨.ref s.heap.objs.size, upd H s.heap.objs.size (.frz _ (.tup (cutV xs lo hi))), I.laid (t' := s.toks) (fun _ _ w => Heap.get?_push_of_some _ w) (Nat.le_refl _) ⟨Heap.get?_push_size s.heap rfl, Nat.le_trans (cutV_length xs lo hi) zt, _, rc, IsTup.new _ _⟩, rfl,
      k2 hw _ _ (I.hok.fresh (Nat.le_refl _)) rfl⟩
/-- tuple(list), tuple(tuple) -/
def rTupQ (K : PySem.W.Frag) : List V → Hp → VK → Prop := fun vs H Q => ∃ (l : Addr) (ys : List V), vs = [V.ref l] ∧ ((SqL K H l ys ∧ ∀ (q : Addr) (ob : Obj), H q = none → ob.dict = none → Q (.ref q) (upd H q (.frz ob (.tup ys)))) ∨ (SqT K H l ys ∧ Q (.ref l) H))
theorem cr_tupQ : CallR X (.type "tuple") (rTupQ X.K) := by
  intro pins s σ H vs us Q I r h
  obtain ⟨l, ys, rfl, h | ⟨h1, h2⟩⟩ := h
  · exact cr_tupF pins s σ H _ us Q I r ⟨l, ys, rfl, h.1, h.2⟩
  · exact call_tupleT pins s σ H _ us Q I r ⟨l, ys, rfl, h1, h2⟩
/-- t + u -/
def rCatF (K : PySem.W.Frag) : R2 := fun x y H Q => ∃ a b xs ys, x = .ref a ∧ y = .ref b ∧ SqT K H a xs ∧ SqT K H b ys ∧ xs.length + ys.length ≤ sizeLine ∧
  (xs = [] → Q (.ref b) H) ∧ (xs ≠ [] → ys = [] → Q (.ref a) H) ∧ (xs ≠ [] → ys ≠ [] → ∀ (p : Addr) (ob : Obj), H p = none → ob.dict = none → Q (.ref p) (upd H p (.frz ob (.tup (xs ++ ys)))))
theorem op_catF : OpR X (binaryOp .Add) (rCatF X.K) := by
  intro pins s σ H x y v u Q I rx ry h
  obtain ⟨a, b, xs, ys, rfl, rfl, ha, hb, hz, q0, q1, q2⟩ := h
  cases rx
  cases ry
  obtain ⟨its, r1, p1, _⟩ := I.tuple ha
  obtain ⟨its2, r2, p2, _⟩ := I.tuple hb
  by_cases hx : xs = []
  · subst hx
    cases r1
    exact cat_tup0 p1 p2 ⟨.ref b, H, I, rfl, q0 rfl⟩
  · refine HT.cat_tup p1 p2 (fun z => hx (r1.nil_iff.mp z)) (fun z => ⟨.ref a, H, I, rfl, q1 hx (r2.nil_iff.mp z)⟩) (fun z => ?_) (by rw [← r1.length, ← r2.length]; exact hz)
    exact ⟨.ref s.heap.objs.size, upd H s.heap.objs.size (.frz _ (.tup (xs ++ ys))), I.laid (t' := s.toks) (fun b ob q => Heap.get?_push_of_some _ q) (Nat.le_refl _) ⟨Heap.get?_push_size s.heap rfl, by rw [List.length_append]; exact hz, _, r1.append r2, IsTup.new _ _⟩, rfl,
      q2 hx (fun w => z (r2.nil_iff.mpr w)) _ _ (I.hok.fresh (Nat.le_refl _)) rfl⟩
/-- (a, b) -/
def tTupF (t : TA) : TE := fun σ H Q => t σ H fun xs H1 => xs.length ≤ sizeLine ∧ ∀ (p : Addr) (ob : Obj), H1 p = none → ob.dict = none → Q (.ref p) (upd H1 p (.frz ob (.tup xs)))
variable {o e : Expr} {es : List Expr} {to : TE} {t : TA} {apos cpos pos : Pos} {name : Str} {id : String} {r : V → List V → Hp → VK → Prop}
theorem pe_tupF {x1} (h : PA X es t) : PE X (.Tuple es x1 pos) (tTupF t) := by
  refine ⟨fun pins s σ H Q I hq => ?_⟩
  refine wpAny_Tuple_spliced (thn (h.run pos pins s σ H _ I hq) fun us s1 ⟨xs, H1, I1, r, z, q⟩ => ⟨by rw [← r.length]; exact z, ?_⟩)
  have hf : H1 s1.heap.objs.size = none := I1.hok.fresh (Nat.le_refl _)
  exact ⟨.ref s1.heap.objs.size, upd H1 s1.heap.objs.size (.frz _ (.tup xs)), I1.laid (t' := s1.toks) (fun b u e => Heap.get?_push_of_some _ e) (Nat.le_refl _) ⟨Heap.get?_push_size _ rfl, z, us, r, ⟨_, Heap.get?_push_size _ rfl, rfl, _, rfl⟩⟩, rfl, q _ _ hf rfl⟩
end
end L2
set_option maxHeartbeats 4000000
namespace Mv
open PySem PySem.Spec PyProof.Rows L2
/-- any other thing: what it is to be laid at v, the addresses fp its own -/
structure Xt where
  At : PySem.W.Frag → Hp → Hp → V → List Addr → Prop
  frame : ∀ {K : PySem.W.Frag} {F F' H H' : Hp} {v : V} {fp : List Addr}, (∀ b o, F b = some o → F' b = some o) → (∀ b o, F' b = some o → H' b = some o) → At K F H v fp → (∀ a ∈ fp, ∀ o, H a = some o → H' a = some o) → At K F' H' v fp
  there : ∀ {K : PySem.W.Frag} {F H : Hp} {v : V} {fp : List Addr}, At K F H v fp → ∀ a ∈ fp, ∃ o, H a = some o
inductive S where
  | dat (d : PyData)
  | con (v : V)
  | ext (x : Xt)
  | lst (xs : List S)
  | dct (l : Bool) (kvs : List (Key × S))
  | ins (C : Nat) (ss : List S)
def setSnd {α β : Type} (l : List (α × β)) (i : Nat) (b : β) : List (α × β) :=
  match l, i with
  | [], _ => []
  | (a, _) :: r, 0 => (a, b) :: r
  | p :: r, i + 1 => p :: setSnd r i b
theorem setSnd_fst {α β : Type} (b : β) : ∀ (l : List (α × β)) (i : Nat), (setSnd l i b).map (·.1) = l.map (·.1)
  | [], _ => rfl
  | _ :: _, 0 => rfl
  | p :: r, i + 1 => by simp only [setSnd, List.map_cons, setSnd_fst b r i]
theorem setSnd_snd {α β : Type} (b : β) : ∀ (l : List (α × β)) (i : Nat), (setSnd l i b).map (·.2) = (l.map (·.2)).set i b
  | [], _ => rfl
  | _ :: _, 0 => rfl
  | p :: r, i + 1 => by simp only [setSnd, List.map_cons, setSnd_snd b r i, List.set_cons_succ]
def S.kids : S → List S
  | .lst xs => xs
  | .dct _ kvs => kvs.map (·.2)
  | .ins _ ss => ss
  | _ => []
def S.setKid (s : S) (i : Nat) (t : S) : S :=
  match s with
  | .lst xs => .lst (xs.set i t)
  | .dct l kvs => .dct l (setSnd kvs i t)
  | .ins C ss => .ins C (ss.set i t)
  | s => s
theorem S.kids_setKid (s t : S) (i : Nat) : (s.setKid i t).kids = s.kids.set i t := by
  cases s with
  | dat d => simp [S.setKid, S.kids]
  | con v => simp [S.setKid, S.kids]
  | ext x => simp [S.setKid, S.kids]
  | lst xs => rfl
  | dct l kvs => exact setSnd_snd t kvs i
  | ins C ss => rfl
def S.get : S → List Nat → Option S
  | s, [] => some s
  | s, i :: p => match s.kids[i]? with
    | some t => S.get t p
    | none => none
def S.put : S → List Nat → S → S
  | _, [], t => t
  | s, i :: p, t => match s.kids[i]? with
    | some u => s.setKid i (S.put u p t)
    | none => s
/-- classes by numbers, the errors' too -/
def clsNm : Nat → Str
  | 0 => "Board" | 1 => "House" | 2 => "Asker" | 3 => "World" | 4 => "Tally"
  | 10 => "DrainError" | 11 => "BadHouse" | 12 => "Known" | 13 => "NoHouse" | 14 => "TooMany" | 15 => "LastHouse" | 16 => "BadAsker" | 17 => "BadEdition" | 18 => "BadAsk" | 19 => "Busy" | 20 => "NoLetter" | 21 => "BadCount" | 22 => "BadText"
  | _ => "?"
def clsFld : Nat → List Str
  | 0 => ["now", "lacking", "planned", "known"]
  | 1 => ["name", "now", "owned", "held", "giving", "takings", "newest", "last_answers", "done"]
  | 2 => ["name", "now", "number", "under_way", "last"]
  | 3 => ["board", "first_book", "house_named", "asker_named", "road", "all_deeds", "all_answers"]
  | 4 => ["grown", "numbers", "make"]
  | _ => []
def clsOf (K : PySem.W.Frag) (c : Nat) (C : Addr) : Prop := PySem.W.nsIn K mainGlobals (clsNm c) = some (some (.ref C))
theorem clsOf.one {K : PySem.W.Frag} {c : Nat} {C D : Addr} (h : clsOf K c C) (g : clsOf K c D) : C = D := by
  unfold clsOf at h g
  rw [h] at g
  cases g
  rfl
/-- an object's parts -/
def kidsV : HO → List V
  | .lst vs => vs
  | .dK kvs => kvs.map (·.2)
  | .frz _ (.dK kvs) => kvs.map (·.2)
  | .ins _ _ fs => fs.map (·.2)
  | _ => []
def Head (K : PySem.W.Frag) (H : Hp) (a : Addr) : HO → S → List Addr → Prop
  | .lst _, .lst _, ex => ex = []
  | .dK kvs, .dct false kss, ex => ex = [] ∧ kvs.map (·.1) = kss.map (·.1)
  | .ins C dx fs, .ins c ss, ex => clsOf K c C ∧ ex = [dx] ∧ H dx = some (.own a) ∧ fs.map (·.1) = (clsFld c).take ss.length ∧ ss.length ≤ (clsFld c).length
  | _, _, _ => False
theorem Head.setKid {K : PySem.W.Frag} {H : Hp} {a : Addr} {o : HO} {s : S} {ex : List Addr} (h : Head K H a o s ex) (i : Nat) (t : S) : Head K H a o (s.setKid i t) ex := by
  unfold S.setKid
  cases s with
  | dat d => exact h
  | con v => exact h
  | ext x => exact h
  | lst xs => cases o with
    | lst vs => exact h
    | frz o u => cases u <;> exact h.elim
    | _ => exact h.elim
  | dct l kvs => cases o with
    | dK k => cases l with
      | false => exact ⟨h.1, h.2.trans (setSnd_fst t kvs i).symm⟩
      | true => exact h.elim
    | frz o u => cases u <;> exact h.elim
    | _ => exact h.elim
  | ins C fs => cases o with
    | ins C' dx gs => exact ⟨h.1, h.2.1, h.2.2.1, by rw [List.length_set]; exact h.2.2.2⟩
    | frz o u => cases u <;> exact h.elim
    | _ => exact h.elim
theorem Head.keep {K : PySem.W.Frag} {H H' : Hp} {a : Addr} {o : HO} {s : S} {ex : List Addr} (h : Head K H a o s ex) (k : ∀ b ∈ ex, ∀ u, H b = some u → H' b = some u) : Head K H' a o s ex := by
  cases s with
  | dat d => cases o <;> first | exact h.elim | (rename_i u; cases u <;> exact h.elim)
  | con v => cases o <;> first | exact h.elim | (rename_i u; cases u <;> exact h.elim)
  | ext x => cases o <;> first | exact h.elim | (rename_i u; cases u <;> exact h.elim)
  | lst xs => cases o with
    | lst vs => exact h
    | frz o u => cases u <;> exact h.elim
    | _ => exact h.elim
  | dct l kvs => cases o with
    | dK k => cases l <;> exact h
    | frz o u => cases u <;> exact h.elim
    | _ => exact h.elim
  | ins C fs => cases o with
    | ins C' dx gs =>
      obtain ⟨h1, h2, h3, h4⟩ := h
      exact ⟨h1, h2, k dx (by rw [h2]; exact List.mem_cons_self) _ h3, h4⟩
    | frz o u => cases u <;> exact h.elim
    | _ => exact h.elim
mutual
inductive Dq (K : PySem.W.Frag) (H : Hp) : V → PyData → Prop
  | non : Dq K H .non .none
  | bl (b : Bool) : Dq K H (.bl b) (.bool b)
  | int (i : Int) : Dq K H (.int i) (.int i)
  | str (x : Str) : Dq K H (.str x) (.str x)
  | lst {a : Addr} {xs : List V} {ds : List PyData} : SqL K H a xs → DqAll K H xs ds → Dq K H (.ref a) (.list ds)
  | tup {a : Addr} {xs : List V} {ds : List PyData} : TupQ K H a xs → DqAll K H xs ds → Dq K H (.ref a) (.tuple ds)
inductive DqAll (K : PySem.W.Frag) (H : Hp) : List V → List PyData → Prop
  | nil : DqAll K H [] []
  | cons {v : V} {vs : List V} {d : PyData} {ds : List PyData} : Dq K H v d → DqAll K H vs ds → DqAll K H (v :: vs) (d :: ds)
end
mutual
theorem Dq.dp {K : PySem.W.Frag} {H : Hp} : ∀ {v : V} {d : PyData}, Dq K H v d → Dp K H v d
  | _, _, .non => .non
  | _, _, .bl b => .bl b
  | _, _, .int i => .int i
  | _, _, .str x => .str x
  | _, _, .lst h t => .lst h (DqAll.dp t)
  | _, _, .tup h t => .tup h.sq (DqAll.dp t)
theorem DqAll.dp {K : PySem.W.Frag} {H : Hp} : ∀ {vs : List V} {ds : List PyData}, DqAll K H vs ds → DpAll K H vs ds
  | _, _, .nil => .nil
  | _, _, .cons h t => .cons (Dq.dp h) (DqAll.dp t)
end
mutual
inductive Own (K : PySem.W.Frag) (F H : Hp) : V → S → List Addr → Prop
  | dat {v : V} {d : PyData} : Dq K F v d → Own K F H v (.dat d) []
  | con {v : V} : Own K F H v (.con v) []
  | ext {v : V} {x : Xt} {fp : List Addr} : x.At K F H v fp → Own K F H v (.ext x) fp
  | node {a : Addr} {o : HO} {s : S} {ex fp : List Addr} : H a = some o → Head K H a o s ex → OwnL K F H (kidsV o) s.kids fp → Own K F H (.ref a) s (a :: (ex ++ fp))
  | lck {a : Addr} {o : Obj} {kvs : List (Key × V)} {kss : List (Key × S)} {fp : List Addr} : F a = some (.frz o (.dK kvs)) → H a = some (.frz o (.dK kvs)) → kvs.map (·.1) = kss.map (·.1) → OwnL K F H (kvs.map (·.2)) (kss.map (·.2)) fp → Own K F H (.ref a) (.dct true kss) fp
inductive OwnL (K : PySem.W.Frag) (F H : Hp) : List V → List S → List Addr → Prop
  | nil : OwnL K F H [] [] []
  | cons {v : V} {vs : List V} {s : S} {ss : List S} {fp fq : List Addr} : Own K F H v s fp → OwnL K F H vs ss fq → OwnL K F H (v :: vs) (s :: ss) (fp ++ fq)
end
variable {K : PySem.W.Frag} {F F' H H' : Hp} {v : V} {vs : List V} {s t : S} {ss : List S} {fp fq : List Addr}
theorem Rd.mono {a : Addr} {u : HO} (k : ∀ b o, F b = some o → F' b = some o) (h : Rd F a u) : Rd F' a u := by
  rcases h with h | ⟨o, h⟩
  · exact .inl (k _ _ h)
  · exact .inr ⟨o, k _ _ h⟩
theorem SqL.mono {a : Addr} {xs : List V} (k : ∀ b o, F b = some o → F' b = some o) (h : SqL K F a xs) : SqL K F' a xs := h.imp (Rd.mono k) id
theorem SqT.mono {a : Addr} {xs : List V} (k : ∀ b o, F b = some o → F' b = some o) (h : SqT K F a xs) : SqT K F' a xs := h.imp (Rd.mono k) id
mutual
theorem Dq.mono (k : ∀ b o, F b = some o → F' b = some o) : ∀ {v : V} {d : PyData}, Dq K F v d → Dq K F' v d
  | _, _, .non => .non
  | _, _, .bl b => .bl b
  | _, _, .int i => .int i
  | _, _, .str x => .str x
  | _, _, .lst h t => .lst (SqL.mono k h) (DqAll.mono k t)
  | _, _, .tup h t => .tup (TupQ.mono k h) (DqAll.mono k t)
theorem DqAll.mono (k : ∀ b o, F b = some o → F' b = some o) : ∀ {vs : List V} {ds : List PyData}, DqAll K F vs ds → DqAll K F' vs ds
  | _, _, .nil => .nil
  | _, _, .cons h t => .cons (Dq.mono k h) (DqAll.mono k t)
end
mutual
theorem Own.frame (kF : ∀ b o, F b = some o → F' b = some o) (sub : ∀ b o, F' b = some o → H' b = some o) : ∀ {v : V} {s : S} {fp : List Addr}, Own K F H v s fp → (∀ a ∈ fp, ∀ o, H a = some o → H' a = some o) → Own K F' H' v s fp
  | _, _, _, .dat d, _ => .dat (Dq.mono kF d)
  | _, _, _, .con, _ => .con
  | _, _, _, .ext (x := x) h, k => .ext (x.frame kF sub h k)
  | _, _, _, .node h hd t, k => .node (k _ List.mem_cons_self _ h) (hd.keep fun b m u e => k b (List.mem_cons_of_mem _ (List.mem_append_left _ m)) u e)
      (OwnL.frame kF sub t fun b m o e => k b (List.mem_cons_of_mem _ (List.mem_append_right _ m)) o e)
  | _, _, _, .lck hf hh hk t, k => .lck (kF _ _ hf) (sub _ _ (kF _ _ hf)) hk (OwnL.frame kF sub t k)
theorem OwnL.frame (kF : ∀ b o, F b = some o → F' b = some o) (sub : ∀ b o, F' b = some o → H' b = some o) : ∀ {vs : List V} {ss : List S} {fp : List Addr}, OwnL K F H vs ss fp → (∀ a ∈ fp, ∀ o, H a = some o → H' a = some o) → OwnL K F' H' vs ss fp
  | _, _, _, .nil, _ => .nil
  | _, _, _, .cons h t, k => .cons (Own.frame kF sub h fun a m => k a (List.mem_append_left _ m)) (OwnL.frame kF sub t fun a m => k a (List.mem_append_right _ m))
end
theorem Head.ex_there {a : Addr} {o : HO} {ex : List Addr} (h : Head K H a o s ex) : ∀ b ∈ ex, ∃ u, H b = some u := by
  intro b m
  cases s with
  | dat d => cases o <;> first | exact h.elim | (rename_i u; cases u <;> exact h.elim)
  | con v => cases o <;> first | exact h.elim | (rename_i u; cases u <;> exact h.elim)
  | ext x => cases o <;> first | exact h.elim | (rename_i u; cases u <;> exact h.elim)
  | lst xs => cases o <;> first | exact h.elim | (rw [show ex = [] from h] at m; cases m) | (rename_i u; cases u <;> exact h.elim)
  | dct l kvs => cases o with
    | dK k => cases l with
      | false => rw [h.1] at m; cases m
      | true => exact h.elim
    | frz o u => cases u <;> exact h.elim
    | _ => exact h.elim
  | ins C fs => cases o with
    | ins C' dx gs =>
      rw [h.2.1] at m
      rw [List.mem_singleton.mp m]
      exact ⟨_, h.2.2.1⟩
    | frz o u => cases u <;> exact h.elim
    | _ => exact h.elim
mutual
theorem Own.there : ∀ {v : V} {s : S} {fp : List Addr}, Own K F H v s fp → ∀ a ∈ fp, ∃ o, H a = some o
  | _, _, _, .dat d, _, m => nomatch m
  | _, _, _, .con, _, m => nomatch m
  | _, _, _, .ext (x := x) h, _, m => x.there h _ m
  | _, _, _, .node h hd t, b, m => by
    rcases List.mem_cons.mp m with rfl | m
    · exact ⟨_, h⟩
    · rcases List.mem_append.mp m with m | m
      · exact hd.ex_there b m
      · exact OwnL.there t b m
  | _, _, _, .lck hf hh hk t, b, m => OwnL.there t b m
theorem OwnL.there : ∀ {vs : List V} {ss : List S} {fp : List Addr}, OwnL K F H vs ss fp → ∀ a ∈ fp, ∃ o, H a = some o
  | _, _, _, .nil, _, m => nomatch m
  | _, _, _, .cons h t, b, m => by
    rcases List.mem_append.mp m with m | m
    · exact Own.there h b m
    · exact OwnL.there t b m
end
theorem Head.con_no {a : Addr} {o : HO} {ex : List Addr} (h : Head K H a o (.con v) ex) : False := by
  cases o <;> first | exact h | (rename_i u; cases u <;> exact h)
theorem Head.dat_no {d : PyData} {a : Addr} {o : HO} {ex : List Addr} (h : Head K H a o (.dat d) ex) : False := by
  cases o <;> first | exact h | (rename_i u; cases u <;> exact h)
theorem Own.con_inv {w : V} (h : Own K F H w s fp) (e : s = .con v) : w = v ∧ fp = [] := by
  cases h with
  | dat _ => cases e
  | con => cases e; exact ⟨rfl, rfl⟩
  | ext => cases e
  | node h hd t => subst e; exact hd.con_no.elim
  | lck => cases e
theorem Own.dat_inv {d : PyData} (h : Own K F H v s fp) (e : s = .dat d) : Dq K F v d ∧ fp = [] := by
  cases h with
  | dat q => cases e; exact ⟨q, rfl⟩
  | con => cases e
  | ext => cases e
  | node h hd t => subst e; exact hd.dat_no.elim
  | lck => cases e
theorem Head.ext_no {x : Xt} {a : Addr} {o : HO} {ex : List Addr} (h : Head K H a o (.ext x) ex) : False := by
  cases o <;> first | exact h | (rename_i u; cases u <;> exact h)
theorem Own.ext_inv {x : Xt} (h : Own K F H v s fp) (e : s = .ext x) : x.At K F H v fp := by
  cases h with
  | dat _ => cases e
  | con => cases e
  | ext q => cases e; exact q
  | node h hd t => subst e; exact hd.ext_no.elim
  | lck => cases e
theorem OwnL.length : ∀ {vs : List V} {ss : List S} {fp : List Addr}, OwnL K F H vs ss fp → vs.length = ss.length
  | _, _, _, .nil => rfl
  | _, _, _, .cons _ t => by simp only [List.length_cons, OwnL.length t]
theorem OwnL.append : ∀ {vs ws : List V} {ss ts : List S} {fp fq : List Addr}, OwnL K F H vs ss fp → OwnL K F H ws ts fq → OwnL K F H (vs ++ ws) (ss ++ ts) (fp ++ fq)
  | _, _, _, _, _, _, .nil, h => h
  | _, _, _, _, _, _, .cons a t, h => by
    rw [List.append_assoc]
    exact .cons a (OwnL.append t h)
/-- one of them taken out: its place holds its root alone -/
theorem OwnL.take : ∀ {vs : List V} {ss : List S} {fp : List Addr} {i : Nat} {s : S}, OwnL K F H vs ss fp → ss[i]? = some s →
    ∃ v fp1 fp2, vs[i]? = some v ∧ Own K F H v s fp1 ∧ OwnL K F H vs (ss.set i (.con v)) fp2 ∧ fp.Perm (fp1 ++ fp2)
  | _, _, _, i, _, .nil, e => by simp at e
  | _, _, _, 0, s, .cons (v := v) (fp := fp1) (fq := fp2) h t, e => by
    simp only [List.getElem?_cons_zero, Option.some.injEq] at e
    subst e
    exact ⟨v, fp1, fp2, rfl, h, .cons (fp := []) .con t, List.Perm.refl _⟩
  | _, _, _, i + 1, s, .cons (fp := fpa) h t, e => by
    obtain ⟨v, fp1, fp2, e1, o, l, p⟩ := OwnL.take (i := i) (s := s) t (by simpa using e)
    refine ⟨v, fp1, fpa ++ fp2, by simpa using e1, o, .cons h l, ?_⟩
    refine (List.Perm.append_left fpa p).trans ?_
    rw [← List.append_assoc, ← List.append_assoc]
    exact List.Perm.append_right fp2 List.perm_append_comm
theorem OwnL.put : ∀ {vs : List V} {ss : List S} {fp : List Addr} {i : Nat} {v : V} {s : S} {fq : List Addr}, OwnL K F H vs ss fp → ss[i]? = some (.con v) → Own K F H v s fq →
    ∃ fr, OwnL K F H vs (ss.set i s) fr ∧ fr.Perm (fq ++ fp)
  | _, _, _, i, _, _, _, .nil, e, _ => by simp at e
  | _, _, _, 0, v, s, fq, .cons h t, e, o => by
    simp only [List.getElem?_cons_zero, Option.some.injEq] at e
    subst e
    obtain ⟨rfl, rfl⟩ := h.con_inv rfl
    exact ⟨_, .cons o t, List.Perm.refl _⟩
  | _, _, _, i + 1, v, s, fq, .cons (fp := fpa) h t, e, o => by
    obtain ⟨fr, l, p⟩ := OwnL.put (i := i) t (by simpa using e) o
    refine ⟨fpa ++ fr, .cons h l, ?_⟩
    refine (List.Perm.append_left fpa p).trans ?_
    rw [← List.append_assoc, ← List.append_assoc]
    exact List.Perm.append_right _ List.perm_append_comm
end Mv
set_option maxHeartbeats 4000000
namespace Mv
open PySem PySem.Spec PyProof.Rows L2
variable {K : PySem.W.Frag} {F F' H H' : Hp} {v u : V} {vs : List V} {s t : S} {ss : List S} {fp fq : List Addr}
theorem S.get_nil (s : S) : s.get [] = some s := by cases s <;> rfl
theorem S.get_cons (s : S) (i : Nat) (p : List Nat) : s.get (i :: p) = (match s.kids[i]? with | some t => t.get p | none => none) := by cases s <;> rfl
theorem S.put_nil (s t : S) : s.put [] t = t := by cases s <;> rfl
theorem S.put_cons (s t : S) (i : Nat) (p : List Nat) : s.put (i :: p) t = (match s.kids[i]? with | some u => s.setKid i (u.put p t) | none => s) := by cases s <;> rfl
theorem S.get_put : ∀ (p : List Nat) (s t u : S), s.get p = some u → (s.put p t).get p = some t
  | [], s, t, u, _ => by rw [S.put_nil, S.get_nil]
  | i :: p, s, t, u, h => by
    rw [S.get_cons] at h
    rw [S.put_cons, S.get_cons]
    cases e : s.kids[i]? with
    | none => rw [e] at h; cases h
    | some w =>
      rw [e] at h
      have hi := (List.getElem?_eq_some_iff.mp e).1
      simp only [S.kids_setKid, List.getElem?_set_self hi]
      exact S.get_put p w t u h
theorem setSnd_set {α β : Type} (b c : β) : ∀ (l : List (α × β)) (i : Nat), setSnd (setSnd l i b) i c = setSnd l i c
  | [], _ => rfl
  | _ :: _, 0 => rfl
  | p :: r, i + 1 => by simp only [setSnd, setSnd_set b c r i]
theorem setSnd_comm {α β : Type} (b c : β) : ∀ (l : List (α × β)) (i j : Nat), i ≠ j → setSnd (setSnd l i b) j c = setSnd (setSnd l j c) i b
  | [], _, _, _ => rfl
  | _ :: _, 0, 0, h => absurd rfl h
  | _ :: _, 0, _ + 1, _ => rfl
  | _ :: _, _ + 1, 0, _ => rfl
  | p :: r, i + 1, j + 1, h => by simp only [setSnd, setSnd_comm b c r i j (fun e => h (by rw [e]))]
theorem S.setKid_set (s t u : S) (i : Nat) : (s.setKid i t).setKid i u = s.setKid i u := by
  cases s with
  | dat d => rfl
  | con v => rfl
  | ext v => rfl
  | lst xs => simp [S.setKid]
  | dct l kvs => simp only [S.setKid, setSnd_set]
  | ins C fs => simp [S.setKid]
theorem S.setKid_comm (s t u : S) {i j : Nat} (h : i ≠ j) : (s.setKid i t).setKid j u = (s.setKid j u).setKid i t := by
  cases s with
  | dat d => rfl
  | con v => rfl
  | ext v => rfl
  | lst xs => simp only [S.setKid, List.set_comm _ _ h]
  | dct l kvs => simp only [S.setKid, setSnd_comm _ _ _ _ _ h]
  | ins C fs => simp only [S.setKid, List.set_comm _ _ h]
theorem S.put_put : ∀ (p : List Nat) (s t u : S), (s.put p t).put p u = s.put p u
  | [], s, t, u => by rw [S.put_nil, S.put_nil]
  | i :: p, s, t, u => by
    cases e : s.kids[i]? with
    | none => simp only [S.put_cons, e]
    | some w =>
      have hi := (List.getElem?_eq_some_iff.mp e).1
      simp only [S.put_cons, e, S.kids_setKid, List.getElem?_set_self hi, S.setKid_set, S.put_put p w t u]
/-- neither lies in the other -/
def apart : List Nat → List Nat → Bool
  | i :: p, j :: q => i != j || apart p q
  | _, _ => false
theorem apart_symm : ∀ (p q : List Nat), apart p q = apart q p
  | [], [] => rfl
  | [], _ :: _ => rfl
  | _ :: _, [] => rfl
  | i :: p, j :: q => by
    simp only [apart, apart_symm p q]
    rw [show (i != j) = (j != i) from bne_comm]
theorem S.get_put_apart : ∀ (p q : List Nat) (s t : S), apart p q = true → (s.put p t).get q = s.get q
  | [], _, _, _, h => by simp [apart] at h
  | _ :: _, [], _, _, h => by simp [apart] at h
  | i :: p, j :: q, s, t, h => by
    rw [S.put_cons, S.get_cons, S.get_cons]
    cases e : s.kids[i]? with
    | none => rfl
    | some w =>
      have hi := (List.getElem?_eq_some_iff.mp e).1
      simp only [S.kids_setKid]
      by_cases ij : i = j
      · subst ij
        simp only [List.getElem?_set_self hi, e]
        simp only [apart, bne_self_eq_false, Bool.false_or] at h
        exact S.get_put_apart p q w t h
      · rw [List.getElem?_set_ne ij]
theorem S.put_comm : ∀ (p q : List Nat) (s t u : S), apart p q = true → (s.put p t).put q u = (s.put q u).put p t
  | [], _, _, _, _, h => by simp [apart] at h
  | _ :: _, [], _, _, _, h => by simp [apart] at h
  | i :: p, j :: q, s, t, u, h => by
    by_cases ij : i = j
    · subst ij
      simp only [apart, bne_self_eq_false, Bool.false_or] at h
      cases e : s.kids[i]? with
      | none => simp only [S.put_cons, e]
      | some w =>
        have hi := (List.getElem?_eq_some_iff.mp e).1
        simp only [S.put_cons, e, S.kids_setKid, List.getElem?_set_self hi, S.setKid_set, S.put_comm p q w t u h]
    · have ji : j ≠ i := fun z => ij z.symm
      cases e : s.kids[i]? with
      | none =>
        cases e2 : s.kids[j]? with
        | none => simp only [S.put_cons, e, e2]
        | some w => simp only [S.put_cons, e, e2, S.kids_setKid, List.getElem?_set_ne ji]
      | some w =>
        cases e2 : s.kids[j]? with
        | none => simp only [S.put_cons, e, e2, S.kids_setKid, List.getElem?_set_ne ij]
        | some x => simp only [S.put_cons, e, e2, S.kids_setKid, List.getElem?_set_ne ij, List.getElem?_set_ne ji, S.setKid_comm _ _ _ ij]
def follow (H : Hp) : V → List Nat → Option V
  | v, [] => some v
  | .ref a, i :: p => match H a with
    | some o => match (kidsV o)[i]? with
      | some w => follow H w p
      | none => none
    | none => none
  | _, _ => none
theorem follow_nil (H : Hp) (v : V) : follow H v [] = some v := by cases v <;> rfl
theorem follow_node {a : Addr} {o : HO} {w : V} {i : Nat} {p : List Nat} (h : H a = some o) (e : (kidsV o)[i]? = some w) : follow H (.ref a) (i :: p) = follow H w p := by
  simp only [follow, h, e]
theorem Own.takeP : ∀ (p : List Nat) {v : V} {s t : S} {fp : List Addr}, Own K F H v s fp → s.get p = some t →
    ∃ u fp1 fp2, follow H v p = some u ∧ Own K F H u t fp1 ∧ Own K F H v (s.put p (.con u)) fp2 ∧ fp.Perm (fp1 ++ fp2)
  | [], v, s, t, fp, o, e => by
    rw [S.get_nil] at e
    cases e
    exact ⟨v, fp, [], follow_nil H v, o, by rw [S.put_nil]; exact .con, by simp⟩
  | i :: p, v, s, t, fp, o, e => by
    rw [S.get_cons] at e
    cases o with
    | dat d => simp [S.kids] at e
    | con => simp [S.kids] at e
    | ext => simp [S.kids] at e
    | @node a ob _ ex fp h hd l =>
      cases ek : s.kids[i]? with
      | none => rw [ek] at e; cases e
      | some w =>
        rw [ek] at e
        obtain ⟨x, f1, f2, e1, o1, l2, pm⟩ := l.take ek
        obtain ⟨u, g1, g2, e2, o2, o3, pm2⟩ := Own.takeP p o1 e
        have hi := (List.getElem?_eq_some_iff.mp ek).1
        obtain ⟨fr, l3, pm3⟩ := l2.put (i := i) (v := x) (by rw [List.getElem?_set_self hi]) o3
        rw [List.set_set] at l3
        refine ⟨u, g1, a :: (ex ++ fr), by rw [follow_node h e1]; exact e2, o2, ?_, ?_⟩
        · rw [S.put_cons, ek]
          exact .node h (hd.setKid i _) (by rw [S.kids_setKid]; exact l3)
        · -- a :: (ex ++ fp) ~ g1 ++ a :: (ex ++ fr)
          have p1 : fp.Perm (g1 ++ fr) := (pm.trans (List.Perm.append_right f2 pm2)).trans (by rw [List.append_assoc]; exact List.Perm.append_left g1 pm3.symm)
          have p2 : (ex ++ fp).Perm (g1 ++ (ex ++ fr)) := by
            refine (List.Perm.append_left ex p1).trans ?_
            rw [← List.append_assoc, ← List.append_assoc]
            exact List.Perm.append_right fr List.perm_append_comm
          exact (List.Perm.cons a p2).trans List.perm_middle.symm
    | @lck a ob kvs kss _ hf h hk l =>
      cases ek : (kss.map (·.2))[i]? with
      | none => rw [show (S.dct true kss).kids = kss.map (·.2) from rfl, ek] at e; cases e
      | some w =>
        rw [show (S.dct true kss).kids = kss.map (·.2) from rfl, ek] at e
        obtain ⟨x, f1, f2, e1, o1, l2, pm⟩ := l.take ek
        obtain ⟨u, g1, g2, e2, o2, o3, pm2⟩ := Own.takeP p o1 e
        have hi := (List.getElem?_eq_some_iff.mp ek).1
        obtain ⟨fr, l3, pm3⟩ := l2.put (i := i) (v := x) (by rw [List.getElem?_set_self hi]) o3
        rw [List.set_set, ← setSnd_snd] at l3
        refine ⟨u, g1, fr, by rw [follow_node h e1]; exact e2, o2, ?_, ?_⟩
        · rw [S.put_cons, show (S.dct true kss).kids = kss.map (·.2) from rfl, ek]
          exact .lck hf h (by rw [hk]; exact (setSnd_fst _ kss i).symm) l3
        · exact (pm.trans (List.Perm.append_right f2 pm2)).trans (by rw [List.append_assoc]; exact List.Perm.append_left g1 pm3.symm)
theorem Own.putP : ∀ (p : List Nat) {v u : V} {s t : S} {fp fq : List Addr}, Own K F H v s fp → s.get p = some (.con u) → Own K F H u t fq →
    ∃ fr, Own K F H v (s.put p t) fr ∧ fr.Perm (fq ++ fp)
  | [], v, u, s, t, fp, fq, o, e, q => by
    rw [S.get_nil] at e
    have e := Option.some.inj e
    obtain ⟨rfl, rfl⟩ := o.con_inv e
    exact ⟨fq, by rw [S.put_nil]; exact q, by simp⟩
  | i :: p, v, u, s, t, fp, fq, o, e, q => by
    rw [S.get_cons] at e
    cases o with
    | dat d => simp [S.kids] at e
    | con => simp [S.kids] at e
    | ext => simp [S.kids] at e
    | @node a ob _ ex fp h hd l =>
      cases ek : s.kids[i]? with
      | none => rw [ek] at e; cases e
      | some w =>
        rw [ek] at e
        obtain ⟨x, f1, f2, e1, o1, l2, pm⟩ := l.take ek
        obtain ⟨g, o2, pm2⟩ := Own.putP p o1 e q
        have hi := (List.getElem?_eq_some_iff.mp ek).1
        obtain ⟨fr, l3, pm3⟩ := l2.put (i := i) (v := x) (by rw [List.getElem?_set_self hi]) o2
        rw [List.set_set] at l3
        refine ⟨a :: (ex ++ fr), ?_, ?_⟩
        · rw [S.put_cons, ek]
          exact .node h (hd.setKid i _) (by rw [S.kids_setKid]; exact l3)
        · have p1 : fr.Perm (fq ++ fp) := pm3.trans ((List.Perm.append_right f2 pm2).trans (by rw [List.append_assoc]; exact List.Perm.append_left fq pm.symm))
          have p2 : (ex ++ fr).Perm (fq ++ (ex ++ fp)) := by
            refine (List.Perm.append_left ex p1).trans ?_
            rw [← List.append_assoc, ← List.append_assoc]
            exact List.Perm.append_right fp List.perm_append_comm
          exact (List.Perm.cons a p2).trans List.perm_middle.symm
    | @lck a ob kvs kss _ hf h hk l =>
      cases ek : (kss.map (·.2))[i]? with
      | none => rw [show (S.dct true kss).kids = kss.map (·.2) from rfl, ek] at e; cases e
      | some w =>
        rw [show (S.dct true kss).kids = kss.map (·.2) from rfl, ek] at e
        obtain ⟨x, f1, f2, e1, o1, l2, pm⟩ := l.take ek
        obtain ⟨g, o2, pm2⟩ := Own.putP p o1 e q
        have hi := (List.getElem?_eq_some_iff.mp ek).1
        obtain ⟨fr, l3, pm3⟩ := l2.put (i := i) (v := x) (by rw [List.getElem?_set_self hi]) o2
        rw [List.set_set, ← setSnd_snd] at l3
        refine ⟨fr, ?_, ?_⟩
        · rw [S.put_cons, show (S.dct true kss).kids = kss.map (·.2) from rfl, ek]
          exact .lck hf h (by rw [hk]; exact (setSnd_fst _ kss i).symm) l3
        · exact pm3.trans ((List.Perm.append_right f2 pm2).trans (by rw [List.append_assoc]; exact List.Perm.append_left fq pm.symm))
/-- a path within what is owned stays while that stays -/
theorem Own.follow_keep (kf : ∀ b o, F b = some o → H' b = some o) : ∀ (p : List Nat) {v : V} {s t : S} {fp : List Addr}, Own K F H v s fp → s.get p = some t → (∀ a ∈ fp, ∀ o, H a = some o → H' a = some o) → follow H' v p = follow H v p
  | [], v, _, _, _, _, _, _ => by rw [follow_nil, follow_nil]
  | i :: p, v, s, t, fp, o, e, k => by
    rw [S.get_cons] at e
    cases o with
    | dat d => simp [S.kids] at e
    | con => simp [S.kids] at e
    | ext => simp [S.kids] at e
    | @node a ob _ ex fp h hd l =>
      cases ek : s.kids[i]? with
      | none => rw [ek] at e; cases e
      | some w =>
        rw [ek] at e
        obtain ⟨x, f1, f2, e1, o1, l2, pm⟩ := l.take ek
        rw [follow_node h e1, follow_node (k a List.mem_cons_self _ h) e1]
        exact Own.follow_keep kf p o1 e fun b m => k b (List.mem_cons_of_mem _ (List.mem_append_right _ (pm.mem_iff.mpr (List.mem_append_left _ m))))
    | @lck a ob kvs kss _ hf h hk l =>
      cases ek : (kss.map (·.2))[i]? with
      | none => rw [show (S.dct true kss).kids = kss.map (·.2) from rfl, ek] at e; cases e
      | some w =>
        rw [show (S.dct true kss).kids = kss.map (·.2) from rfl, ek] at e
        obtain ⟨x, f1, f2, e1, o1, l2, pm⟩ := l.take ek
        rw [follow_node h e1, follow_node (kf a _ hf) e1]
        exact Own.follow_keep kf p o1 e fun b m => k b (pm.mem_iff.mpr (List.mem_append_left _ m))
end Mv
set_option maxHeartbeats 4000000
namespace Mv
open PySem PySem.Spec PyProof.Rows L2
variable {K : PySem.W.Frag} {F F' H H' : Hp} {v u : V} {vs : List V} {s t : S} {ss : List S} {fp fq : List Addr}
inductive Sl where
  | no
  | own (s : S)
  | bor (p : List Nat)
abbrev En := List Sl
abbrev Ro := List (Option V)
def slS : Option V → Sl → S
  | _, .own s => s
  | v, _ => .con (v.getD .non)
def rootV (ρ : Ro) : List V := ρ.map fun v => v.getD .non
def rootS : Ro → En → List S
  | v :: ρ, e :: E => slS v e :: rootS ρ E
  | _, _ => []
def eget (E : En) : List Nat → Option S
  | i :: p => match E[i]? with
    | some (Sl.own s) => s.get p
    | _ => none
  | [] => none
def eput (E : En) (p : List Nat) (t : S) : En :=
  match p with
  | i :: p => match E[i]? with
    | some (Sl.own s) => E.set i (.own (s.put p t))
    | _ => E
  | [] => E
def within (p q : List Nat) : Bool := p.isPrefixOf q && p.length != q.length
def kill1 (p : List Nat) : Sl → Sl
  | .bor q => if within p q then .no else .bor q
  | e => e
def ekill (E : En) (p : List Nat) : En := E.map (kill1 p)
def followE (H : Hp) (ρ : Ro) : List Nat → Option V
  | i :: p => match ρ[i]? with
    | some (some v) => follow H v p
    | _ => none
  | [] => none
theorem rootS_get : ∀ {ρ : Ro} {E : En} {i : Nat} {s : S}, E.length = ρ.length → E[i]? = some (Sl.own s) → (rootS ρ E)[i]? = some s
  | [], [], _, _, _, h => by simp at h
  | _ :: _, [], _, _, l, _ => by simp at l
  | [], _ :: _, _, _, l, _ => by simp at l
  | v :: ρ, e :: E, 0, s, l, h => by
    simp only [List.getElem?_cons_zero, Option.some.injEq] at h
    subst h; rfl
  | v :: ρ, e :: E, i + 1, s, l, h => by
    simp only [rootS, List.getElem?_cons_succ]
    exact rootS_get (by simpa using l) (by simpa using h)
theorem rootS_set : ∀ {ρ : Ro} {E : En} {i : Nat} {s : S}, E.length = ρ.length → rootS ρ (E.set i (.own s)) = (rootS ρ E).set i s
  | [], [], _, _, _ => by simp [rootS]
  | _ :: _, [], _, _, l => by simp at l
  | [], _ :: _, _, _, l => by simp at l
  | v :: ρ, e :: E, 0, s, l => rfl
  | v :: ρ, e :: E, i + 1, s, l => by
    simp only [rootS, List.set_cons_succ]
    rw [rootS_set (by simpa using l)]
structure Core (K : PySem.W.Frag) (F H : Hp) (ρ : Ro) (E : En) (fp : List Addr) : Prop where
  len : E.length = ρ.length
  own : ∃ fq, OwnL K F H (rootV ρ) (rootS ρ E) fq ∧ fp.Perm fq
  set : ∀ (i : Nat) (s : S), E[i]? = some (Sl.own s) → ∃ v, ρ[i]? = some (some v)
variable {ρ : Ro} {E : En}
theorem Core.frame (c : Core K F H ρ E fp) (kF : ∀ b o, F b = some o → F' b = some o) (sub : ∀ b o, F' b = some o → H' b = some o) (k : ∀ a ∈ fp, ∀ o, H a = some o → H' a = some o) : Core K F' H' ρ E fp :=
  ⟨c.len, let ⟨f, o, q⟩ := c.own; ⟨f, o.frame kF sub fun a m => k a (q.mem_iff.mpr m), q⟩, c.set⟩
theorem Core.there (c : Core K F H ρ E fp) : ∀ a ∈ fp, ∃ o, H a = some o := fun a m => let ⟨f, o, q⟩ := c.own; o.there a (q.mem_iff.mp m)
theorem eput_len (E : En) (p : List Nat) (t : S) : (eput E p t).length = E.length := by
  unfold eput
  split
  · split <;> simp
  · rfl
theorem eget_some {p : List Nat} (h : eget E p = some t) : ∃ i q s, p = i :: q ∧ E[i]? = some (Sl.own s) ∧ s.get q = some t := by
  cases p with
  | nil => cases h
  | cons i q =>
    unfold eget at h
    cases e : E[i]? with
    | none => simp only [e] at h; cases h
    | some sl => cases sl with
      | own s => simp only [e] at h; exact ⟨i, q, s, rfl, e, h⟩
      | no => simp only [e] at h; cases h
      | bor r => simp only [e] at h; cases h
theorem Core.take {p : List Nat} (c : Core K F H ρ E fp) (h : eget E p = some t) :
    ∃ u fp1 fp2, followE H ρ p = some u ∧ Own K F H u t fp1 ∧ Core K F H ρ (eput E p (.con u)) fp2 ∧ fp.Perm (fp1 ++ fp2) := by
  obtain ⟨i, q, s, rfl, ei, hq⟩ := eget_some h
  obtain ⟨f, o, pm⟩ := c.own
  obtain ⟨x, f1, f2, e1, o1, l2, pm1⟩ := o.take (rootS_get c.len ei)
  obtain ⟨u, g1, g2, e2, o2, o3, pm2⟩ := Own.takeP q o1 hq
  obtain ⟨y, ey⟩ := c.set i s ei
  have hx : x = y := by
    unfold rootV at e1
    rw [List.getElem?_map, ey] at e1
    simpa using e1.symm
  subst hx
  have hi : i < (rootS ρ E).length := (List.getElem?_eq_some_iff.mp (rootS_get c.len ei)).1
  obtain ⟨fr, l3, pm3⟩ := l2.put (i := i) (v := x) (by rw [List.getElem?_set_self hi]) o3
  rw [List.set_set] at l3
  refine ⟨u, g1, fr, by simp only [followE, ey]; exact e2, o2, ⟨by rw [eput_len]; exact c.len, ⟨fr, ?_, List.Perm.refl _⟩, fun j w hj => ?_⟩, ?_⟩
  · simp only [eput, ei]
    rw [rootS_set c.len]
    exact l3
  · simp only [eput, ei] at hj
    by_cases ij : i = j
    · subst ij; exact ⟨x, ey⟩
    · rw [List.getElem?_set_ne ij] at hj
      exact c.set j w hj
  · exact pm.trans ((pm1.trans (List.Perm.append_right f2 pm2)).trans (by rw [List.append_assoc]; exact List.Perm.append_left g1 pm3.symm))
theorem Core.put {p : List Nat} (c : Core K F H ρ E fp) (h : eget E p = some (.con u)) (q : Own K F H u t fq) : Core K F H ρ (eput E p t) (fq ++ fp) := by
  obtain ⟨i, r, s, rfl, ei, hq⟩ := eget_some h
  obtain ⟨f, o, pm⟩ := c.own
  obtain ⟨x, f1, f2, e1, o1, l2, pm1⟩ := o.take (rootS_get c.len ei)
  obtain ⟨g, o2, pm2⟩ := Own.putP r o1 hq q
  have hi : i < (rootS ρ E).length := (List.getElem?_eq_some_iff.mp (rootS_get c.len ei)).1
  obtain ⟨fr, l3, pm3⟩ := l2.put (i := i) (v := x) (by rw [List.getElem?_set_self hi]) o2
  rw [List.set_set] at l3
  refine ⟨by rw [eput_len]; exact c.len, ⟨fr, ?_, ?_⟩, fun j w hj => ?_⟩
  · simp only [eput, ei]
    rw [rootS_set c.len]
    exact l3
  · refine (List.Perm.append_left fq (pm.trans pm1)).trans ?_
    rw [← List.append_assoc]
    exact (List.Perm.append_right f2 pm2.symm).trans pm3.symm
  · simp only [eput, ei] at hj
    by_cases ij : i = j
    · subst ij; exact c.set i s ei
    · rw [List.getElem?_set_ne ij] at hj
      exact c.set j w hj
theorem Core.follow_keep {p : List Nat} (c : Core K F H ρ E fp) (kf : ∀ b o, F b = some o → H' b = some o) (h : eget E p = some t) (k : ∀ a ∈ fp, ∀ o, H a = some o → H' a = some o) : followE H' ρ p = followE H ρ p := by
  obtain ⟨i, q, s, rfl, ei, hq⟩ := eget_some h
  obtain ⟨f, o, pm⟩ := c.own
  obtain ⟨x, f1, f2, e1, o1, l2, pm1⟩ := o.take (rootS_get c.len ei)
  obtain ⟨y, ey⟩ := c.set i s ei
  have hx : x = y := by
    unfold rootV at e1
    rw [List.getElem?_map, ey] at e1
    simpa using e1.symm
  subst hx
  simp only [followE, ey]
  exact o1.follow_keep kf q hq fun a m => k a (pm.mem_iff.mpr (pm1.mem_iff.mpr (List.mem_append_left _ m)))
theorem eget_eput {p : List Nat} (h : eget E p = some s) : eget (eput E p t) p = some t := by
  obtain ⟨i, q, w, rfl, ei, hq⟩ := eget_some h
  have hi : i < E.length := (List.getElem?_eq_some_iff.mp ei).1
  simp only [eput, ei, eget, List.getElem?_set_self hi]
  exact S.get_put q w t s hq
theorem eput_eput {p : List Nat} {a b : S} : eput (eput E p a) p b = eput E p b := by
  cases p with
  | nil => rfl
  | cons i q =>
    cases e : E[i]? with
    | none => simp only [eput, e]
    | some sl => cases sl with
      | own s =>
        have hi : i < E.length := (List.getElem?_eq_some_iff.mp e).1
        simp only [eput, e, List.getElem?_set_self hi, List.set_set, S.put_put]
      | no => simp only [eput, e]
      | bor r => simp only [eput, e]
theorem eget_apart {p q : List Nat} (h : apart p q = true) : eget (eput E p t) q = eget E q := by
  cases p with
  | nil => simp [apart] at h
  | cons i p => cases q with
    | nil => simp [apart] at h
    | cons j q =>
      simp only [eput]
      split
      · next s hs =>
        have hi : i < E.length := (List.getElem?_eq_some_iff.mp hs).1
        by_cases ij : i = j
        · subst ij
          simp only [apart, bne_self_eq_false, Bool.false_or] at h
          simp only [eget, List.getElem?_set_self hi, hs]
          exact S.get_put_apart p q s t h
        · simp only [eget, List.getElem?_set_ne ij]
      · rfl
theorem eput_comm {p q : List Nat} {a b : S} (h : apart p q = true) : eput (eput E p a) q b = eput (eput E q b) p a := by
  cases p with
  | nil => simp [apart] at h
  | cons i p => cases q with
    | nil => simp [apart] at h
    | cons j q =>
      by_cases ij : i = j
      · subst ij
        simp only [apart, bne_self_eq_false, Bool.false_or] at h
        cases e : E[i]? with
        | none => simp only [eput, e]
        | some sl => cases sl with
          | own s =>
            have hi : i < E.length := (List.getElem?_eq_some_iff.mp e).1
            simp only [eput, e, List.getElem?_set_self hi, List.set_set, S.put_comm p q s a b h]
          | no => simp only [eput, e]
          | bor r => simp only [eput, e]
      · have ji : j ≠ i := fun z => ij z.symm
        cases e : E[i]? with
        | none => cases e2 : E[j]? with
          | none => simp only [eput, e, e2]
          | some sl => cases sl <;> simp only [eput, e, e2, List.getElem?_set_ne ij, List.getElem?_set_ne ji]
        | some sl => cases sl with
          | own s => cases e2 : E[j]? with
            | none => simp only [eput, e, e2, List.getElem?_set_ne ij, List.getElem?_set_ne ji]
            | some sl2 => cases sl2 <;> simp only [eput, e, e2, List.getElem?_set_ne ij, List.getElem?_set_ne ji] <;> rw [List.set_comm _ _ ij]
          | no => cases e2 : E[j]? with
            | none => simp only [eput, e, e2]
            | some sl2 => cases sl2 <;> simp only [eput, e, e2, List.getElem?_set_ne ij, List.getElem?_set_ne ji]
          | bor r => cases e2 : E[j]? with
            | none => simp only [eput, e, e2]
            | some sl2 => cases sl2 <;> simp only [eput, e, e2, List.getElem?_set_ne ij, List.getElem?_set_ne ji]
theorem ekill_get (p q : List Nat) : eget (ekill E p) q = eget E q := by
  cases q with
  | nil => rfl
  | cons i q =>
    simp only [eget, ekill, List.getElem?_map]
    cases e : E[i]? with
    | none => rfl
    | some sl => cases sl with
      | no => rfl
      | own s => rfl
      | bor r =>
        simp only [Option.map_some, kill1]
        split <;> first | rfl | (split at * <;> simp_all)
theorem rootS_kill (p : List Nat) : ∀ (ρ : Ro) (E : En), rootS ρ (ekill E p) = rootS ρ E
  | [], _ => by simp [rootS]
  | _ :: _, [] => rfl
  | v :: ρ, e :: E => by
    have ih := rootS_kill p ρ E
    unfold ekill at ih
    simp only [ekill, List.map_cons, rootS, ih]
    congr 1
    cases e with
    | no => rfl
    | own s => rfl
    | bor r => simp only [kill1]; split <;> rfl
theorem Core.kill (c : Core K F H ρ E fp) (p : List Nat) : Core K F H ρ (ekill E p) fp := by
  refine ⟨by unfold ekill; rw [List.length_map]; exact c.len, by rw [rootS_kill]; exact c.own, fun i s h => ?_⟩
  unfold ekill at h
  rw [List.getElem?_map] at h
  cases e : E[i]? with
  | none => rw [e] at h; cases h
  | some sl =>
    rw [e] at h
    cases sl with
    | no => cases h
    | own w => cases h; exact c.set i _ e
    | bor r =>
      simp only [Option.map_some, kill1, Option.some.injEq] at h
      split at h <;> cases h
end Mv
set_option maxHeartbeats 4000000
namespace Mv
open PySem PySem.Spec PyProof.Rows L2
variable {K : PySem.W.Frag} {F F' F1 F2 H H' H1 H2 : Hp} {v u : V} {vs : List V} {s t : S} {ss : List S} {fp fq fr fp' fp1 fp2 : List Addr} {ρ : Ro} {E E' : En}
theorem apart_or : ∀ (p q : List Nat), within p q = false → p = q ∨ apart p q = true ∨ within q p = true
  | [], [], _ => .inl rfl
  | [], j :: q, h => by simp [within] at h
  | i :: p, [], _ => .inr (.inr (by simp [within]))
  | i :: p, j :: q, h => by
    by_cases ij : i = j
    · subst ij
      have h' : within p q = false := by simpa [within] using h
      rcases apart_or p q h' with e | e | e
      · exact .inl (by rw [e])
      · exact .inr (.inl (by simp [apart, e]))
      · exact .inr (.inr (by simpa [within] using e))
    · exact .inr (.inl (by simp [apart, ij]))
theorem S.get_put_above : ∀ (q p : List Nat) (s t u : S), within q p = true → s.get p = some u → ((s.put p t).get q).isSome = true
  | [], p, s, t, u, _, _ => by rw [S.get_nil]; rfl
  | j :: q, [], s, t, u, h, _ => by simp [within] at h
  | j :: q, i :: p, s, t, u, h, hg => by
    rw [S.get_cons] at hg
    cases e : s.kids[i]? with
    | none => rw [e] at hg; cases hg
    | some w =>
      rw [e] at hg
      have hi := (List.getElem?_eq_some_iff.mp e).1
      have ij : j = i := by
        simp only [within, List.isPrefixOf, Bool.and_eq_true, beq_iff_eq] at h
        exact h.1.1
      subst ij
      have h' : within q p = true := by simpa [within] using h
      rw [S.put_cons, S.get_cons]
      simp only [e, S.kids_setKid, List.getElem?_set_self hi]
      exact S.get_put_above q p w t u h' hg
theorem eget_above {u : S} {q p : List Nat} (q0 : q ≠ []) (h : within q p = true) (hg : eget E p = some u) : (eget (eput E p t) q).isSome = true := by
  obtain ⟨i, r, s, rfl, ei, hr⟩ := eget_some hg
  cases q with
  | nil => exact absurd rfl q0
  | cons j q =>
    have ij : j = i := by
      simp only [within, List.isPrefixOf, Bool.and_eq_true, beq_iff_eq] at h
      exact h.1.1
    subst ij
    have h' : within q r = true := by simpa [within] using h
    have hi : j < E.length := (List.getElem?_eq_some_iff.mp ei).1
    simp only [eput, ei, eget, List.getElem?_set_self hi]
    exact S.get_put_above q r s t u h' hr
structure Rep (K : PySem.W.Frag) (F H : Hp) (ρ : Ro) (E : En) (fp : List Addr) : Prop where
  core : Core K F H ρ E fp
  sub : ∀ a o, F a = some o → H a = some o
  nd : fp.Nodup
  off : ∀ a ∈ fp, F a = none
  bor : ∀ (i : Nat) (p : List Nat), E[i]? = some (Sl.bor p) → ∃ v, ρ[i]? = some (some v) ∧ followE H ρ p = some v ∧ (eget E p).isSome = true
/-- from (F, H), of which fp is ours, to (F', H'), of which fp' is ours -/
structure Grow (F H : Hp) (fp : List Addr) (F' H' : Hp) (fp' : List Addr) : Prop where
  f : ∀ a o, F a = some o → F' a = some o
  sub : ∀ a o, F' a = some o → H' a = some o
  keep : ∀ a o, H a = some o → a ∉ fp → H' a = some o
  new : ∀ a ∈ fp', a ∈ fp ∨ H a = none
  off : ∀ a, H a ≠ none → a ∉ fp → F a = none → F' a = none
theorem Grow.refl (sub : ∀ a o, F a = some o → H a = some o) (fp : List Addr) : Grow F H fp F H fp := ⟨fun _ _ h => h, sub, fun _ _ h _ => h, fun _ m => .inl m, fun _ _ _ h => h⟩
theorem Grow.trans (g : Grow F H fp F1 H1 fp1) (h : Grow F1 H1 fp1 F2 H2 fp2) : Grow F H fp F2 H2 fp2 := by
  have out : ∀ a, H a ≠ none → a ∉ fp → a ∉ fp1 := fun a h0 n m => (g.new a m).elim n h0
  refine ⟨fun a o e => h.f a o (g.f a o e), h.sub, fun a o e n => h.keep a o (g.keep a o e n) (out a (by rw [e]; exact fun z => nomatch z) n), fun a m => ?_, fun a h0 n e => ?_⟩
  · rcases h.new a m with q | q
    · exact g.new a q
    · by_cases n : a ∈ fp
      · exact .inl n
      · refine .inr ?_
        cases e : H a with
        | none => rfl
        | some o => rw [g.keep a o e n] at q; cases q
  · obtain ⟨o, eo⟩ := Option.ne_none_iff_exists'.mp h0
    exact h.off a (by rw [g.keep a o eo n]; exact fun z => nomatch z) (out a h0 n) (g.off a h0 n e)
/-- more is ours -/
theorem Grow.wide (g : Grow F H fp F' H' fp') (h1 : ∀ a ∈ fp, a ∈ fq) (h2 : ∀ a ∈ fr, a ∈ fq ∨ H a = none) : Grow F H fq F' H' fr :=
  ⟨g.f, g.sub, fun a o e n => g.keep a o e fun m => n (h1 a m), h2, fun a h0 n e => g.off a h0 (fun m => n (h1 a m)) e⟩
theorem Grow.less (g : Grow F H fp F' H' fp') (h2 : ∀ a ∈ fr, a ∈ fp') : Grow F H fp F' H' fr := ⟨g.f, g.sub, g.keep, fun a m => g.new a (h2 a m), g.off⟩
/-- one new object -/
theorem Grow.alloc (sub : ∀ a o, F a = some o → H a = some o) {p : Addr} {o : HO} (hp : H p = none) : Grow F H [] F (upd H p o) [p] := by
  refine ⟨fun _ _ h => h, fun a u e => ?_, fun a u e _ => ?_, fun a m => .inr (by rw [List.mem_singleton.mp m]; exact hp), fun _ _ _ h => h⟩
  · rw [upd_ne (ne_of_none (sub a u e) hp)]; exact sub a u e
  · rw [upd_ne (ne_of_none e hp)]; exact e
/-- one new object, shared from the start -/
theorem Grow.share (sub : ∀ a o, F a = some o → H a = some o) {p : Addr} {o : HO} (hp : H p = none) : Grow F H [] (upd F p o) (upd H p o) [] := by
  have hf : F p = none := by
    cases e : F p with
    | none => rfl
    | some u => rw [sub p u e] at hp; cases hp
  refine ⟨fun a u e => ?_, fun a u e => ?_, fun a u e _ => ?_, (fun _ m => nomatch m), fun a h0 _ e => ?_⟩
  · rw [upd_ne (ne_of_none e hf)]; exact e
  · by_cases ap : a = p
    · subst ap; rw [upd_same] at e ⊢; exact e
    · rw [upd_ne ap] at e ⊢; exact sub a u e
  · rw [upd_ne (ne_of_none e hp)]; exact e
  · rw [upd_ne (fun z => h0 (by rw [z]; exact hp))]; exact e
theorem Rep.there (r : Rep K F H ρ E fp) : ∀ a ∈ fp, ∃ o, H a = some o := r.core.there
/-- all that was goes on while none of ours is touched -/
theorem Rep.grow (r : Rep K F H ρ E fp) (g : Grow F H [] F' H' fr) : Rep K F' H' ρ E fp := by
  have k : ∀ a ∈ fp, ∀ o, H a = some o → H' a = some o := fun a _ o e => g.keep a o e (fun m => nomatch m)
  refine ⟨r.core.frame g.f g.sub k, g.sub, r.nd, fun a m => ?_, fun i p h => ?_⟩
  · obtain ⟨o, e⟩ := r.there a m
    exact g.off a (by rw [e]; exact fun z => nomatch z) (fun m => nomatch m) (r.off a m)
  · obtain ⟨v, h1, h2, h3⟩ := r.bor i p h
    obtain ⟨t, ht⟩ := Option.isSome_iff_exists.mp h3
    exact ⟨v, h1, by rw [r.core.follow_keep (fun b o e => g.sub b o (g.f b o e)) ht k]; exact h2, h3⟩
/-- the like, where something else of ours changed -/
theorem Own.grow (o : Own K F H v s fq) (g : Grow F H fp F' H' fp') (d : ∀ a ∈ fq, a ∉ fp) : Own K F' H' v s fq := o.frame g.f g.sub fun a m u e => g.keep a u e (d a m)
/-- THE PLACE p, apart from all else; what is put there goes with all else (X: what else of ours may change, Y: what else becomes ours) -/
theorem Rep.focus2 {p : List Nat} (r : Rep K F H ρ E fp) (h : eget E p = some t) :
    ∃ u fp1 fp2, followE H ρ p = some u ∧ Own K F H u t fp1 ∧ fp.Perm (fp1 ++ fp2) ∧
      ∀ F' H' t' fq X Y, Grow F H (X ++ fp1) F' H' (Y ++ fq) → (∀ a ∈ X, a ∉ fp) → Own K F' H' u t' fq → (Y ++ fq).Nodup → (∀ a ∈ fq, F' a = none) →
        Rep K F' H' ρ (ekill (eput E p t') p) (fq ++ fp2) ∧ (Y ++ (fq ++ fp2)).Nodup ∧ Grow F H (X ++ fp) F' H' (Y ++ (fq ++ fp2)) := by
  obtain ⟨u, fp1, fp2, h1, h2, c, pm⟩ := r.core.take h
  have nd : (fp1 ++ fp2).Nodup := pm.nodup_iff.mp r.nd
  have in1 : ∀ a ∈ fp1, a ∈ fp := fun a m => pm.mem_iff.mpr (List.mem_append_left _ m)
  have in2 : ∀ a ∈ fp2, a ∈ fp := fun a m => pm.mem_iff.mpr (List.mem_append_right _ m)
  refine ⟨u, fp1, fp2, h1, h2, pm, fun F' H' t' fq X Y g dX o n off => ?_⟩
  have dj : ∀ a ∈ fp2, a ∉ X ++ fp1 := fun a m2 m1 => by
    rcases List.mem_append.mp m1 with m | m
    · exact dX a m (in2 a m2)
    · exact (List.nodup_append.mp nd).2.2 a m a m2 rfl
  have k : ∀ a ∈ fp2, ∀ o, H a = some o → H' a = some o := fun a m o e => g.keep a o e (dj a m)
  have c1 : Core K F' H' ρ (eput E p (.con u)) fp2 := c.frame g.f g.sub k
  have c2 : Core K F' H' ρ (eput E p t') (fq ++ fp2) := by
    have := c1.put (eget_eput h) o
    rw [eput_eput] at this
    exact this
  have there2 : ∀ a ∈ fp2, ∃ o, H a = some o := fun a m => r.there a (in2 a m)
  have notnew : ∀ a ∈ fp2, a ∉ Y ++ fq := fun a m m2 => by
    obtain ⟨o, eo⟩ := there2 a m
    rcases g.new a m2 with z | z
    · exact dj a m z
    · rw [eo] at z; cases z
  have ndq : (fq ++ fp2).Nodup := List.nodup_append.mpr ⟨(List.nodup_append.mp n).2.1, (List.nodup_append.mp nd).2.1, fun a m b m2 e => by
    subst e; exact notnew a m2 (List.mem_append_right _ m)⟩
  refine ⟨⟨c2.kill p, g.sub, ndq, fun a m => ?_, fun i q hb => ?_⟩, ?_, ?_⟩
  · rcases List.mem_append.mp m with m | m
    · exact off a m
    · obtain ⟨o, eo⟩ := there2 a m
      exact g.off a (by rw [eo]; exact fun z => nomatch z) (dj a m) (r.off a (in2 a m))
  · -- what is borrowed
    have hb' : E[i]? = some (Sl.bor q) ∧ within p q = false := by
      unfold ekill at hb
      rw [List.getElem?_map] at hb
      cases e : (eput E p t')[i]? with
      | none => rw [e] at hb; cases hb
      | some sl =>
        rw [e] at hb
        cases sl with
        | no => cases hb
        | own w => cases hb
        | bor w =>
          simp only [Option.map_some, kill1, Option.some.injEq] at hb
          have hw : within p w = false ∧ w = q := by
            cases hh : within p w with
            | true => rw [hh] at hb; simp at hb
            | false => rw [hh] at hb; simp at hb; exact ⟨rfl, hb⟩
          obtain ⟨hw1, rfl⟩ := hw
          refine ⟨?_, hw1⟩
          obtain ⟨j, r', s', rfl, ej, _⟩ := eget_some h
          simp only [eput, ej] at e
          by_cases ij : j = i
          · subst ij
            have hj := (List.getElem?_eq_some_iff.mp ej).1
            rw [List.getElem?_set_self hj] at e
            cases e
          · rw [List.getElem?_set_ne ij] at e
            exact e
    obtain ⟨hb', hw⟩ := hb'
    obtain ⟨v, e1, e2, e3⟩ := r.bor i q hb'
    obtain ⟨w, ew⟩ := Option.isSome_iff_exists.mp e3
    refine ⟨v, e1, ?_, ?_⟩
    · have : ∃ w', eget (eput E p (.con u)) q = some w' := by
        rcases apart_or p q hw with e | e | e
        · subst e; exact ⟨_, eget_eput h⟩
        · exact ⟨w, by rw [eget_apart e]; exact ew⟩
        · have q0 : q ≠ [] := fun z => by rw [z] at ew; cases ew
          exact Option.isSome_iff_exists.mp (eget_above q0 e h)
      obtain ⟨w', ew'⟩ := this
      rw [c.follow_keep (fun b o e => g.sub b o (g.f b o e)) ew' k]; exact e2
    · rw [ekill_get]
      rcases apart_or p q hw with e | e | e
      · subst e; rw [eget_eput h]; rfl
      · rw [eget_apart e]; exact e3
      · have q0 : q ≠ [] := fun z => by rw [z] at ew; cases ew
        exact eget_above q0 e h
  · exact List.nodup_append.mpr ⟨(List.nodup_append.mp n).1, ndq, fun a m b m2 e => by
      subst e
      rcases List.mem_append.mp m2 with m2 | m2
      · exact (List.nodup_append.mp n).2.2 a m a m2 rfl
      · exact notnew a m2 (List.mem_append_left _ m)⟩
  · refine g.wide (fun a m => ?_) fun a m => ?_
    · rcases List.mem_append.mp m with m | m
      · exact List.mem_append_left _ m
      · exact List.mem_append_right _ (in1 a m)
    · rcases List.mem_append.mp m with m | m
      · rcases g.new a (List.mem_append_left _ m) with z | z
        · exact .inl (List.mem_append.mpr ((List.mem_append.mp z).imp id (in1 a)))
        · exact .inr z
      · rcases List.mem_append.mp m with m | m
        · rcases g.new a (List.mem_append_right _ m) with z | z
          · exact .inl (List.mem_append.mpr ((List.mem_append.mp z).imp id (in1 a)))
          · exact .inr z
        · exact .inl (List.mem_append_right _ (in2 a m))
end Mv
set_option maxHeartbeats 4000000
namespace Mv
open PySem PySem.Spec PyProof.Rows L2
variable {K : PySem.W.Frag} {F F' F1 F2 H H' H1 H2 : Hp} {v u x y : V} {vs : List V} {s t : S} {ss : List S} {fp fq fr fp' fp1 fp2 f1 f2 : List Addr} {ρ as : Ro} {E E' : En} {n : Nat}
mutual
def S.toD : S → Option PyData
  | .dat d => some d
  | .lst xs => (S.toDs xs).map .list
  | _ => none
def S.toDs : List S → Option (List PyData)
  | [] => some []
  | s :: ss => match S.toD s, S.toDs ss with
    | some d, some ds => some (d :: ds)
    | _, _ => none
end
mutual
theorem Own.dp (sub : ∀ a o, F a = some o → H a = some o) : ∀ (s : S) {v : V} {fp : List Addr} {d : PyData}, Own K F H v s fp → s.toD = some d → Dq K H v d
  | .dat d, v, fp, d', o, e => by
    simp only [S.toD, Option.some.injEq] at e
    subst e
    exact Dq.mono sub (o.dat_inv rfl).1
  | .lst xs, v, fp, d', o, e => by
    simp only [S.toD, Option.map_eq_some_iff] at e
    obtain ⟨ds, e, rfl⟩ := e
    cases o with
    | @node a ob _ ex fq h hd l =>
      cases ob with
      | lst vs => exact .lst (.inl (.inl h)) (Own.dps sub xs l e)
      | frz o u => cases u <;> exact hd.elim
      | _ => exact hd.elim
  | .con _, _, _, _, _, e => by simp [S.toD] at e
  | .ext _, _, _, _, _, e => by simp [S.toD] at e
  | .dct _ _, _, _, _, _, e => by simp [S.toD] at e
  | .ins _ _, _, _, _, _, e => by simp [S.toD] at e
theorem Own.dps (sub : ∀ a o, F a = some o → H a = some o) : ∀ (ss : List S) {vs : List V} {fp : List Addr} {ds : List PyData}, OwnL K F H vs ss fp → S.toDs ss = some ds → DqAll K H vs ds
  | [], vs, fp, ds, o, e => by
    simp only [S.toDs, Option.some.injEq] at e
    subst e
    cases o
    exact .nil
  | s :: ss, vs, fp, ds, o, e => by
    cases o with
    | cons a l =>
      simp only [S.toDs] at e
      split at e
      · next d ds' e1 e2 =>
        cases e
        exact .cons (Own.dp sub s a e1) (Own.dps sub ss l e2)
      · cases e
end
inductive Rs where
  | val (s : S)
  | pl (p : List Nat)
def RsAt (K : PySem.W.Frag) (F H : Hp) (ρ : Ro) (E : En) (v : V) : Rs → List Addr → Prop
  | .val s, fr => Own K F H v s fr
  | .pl p, fr => fr = [] ∧ followE H ρ p = some v ∧ (eget E p).isSome = true
def Rs.full (E : En) : Rs → Option PyData
  | .val s => s.toD
  | .pl p => (eget E p).bind S.toD
/-- what it is, whole -/
def Rs.at (E : En) : Rs → Option S
  | .val s => some s
  | .pl p => eget E p
theorem Rs.full_at {r : Rs} : r.full E = (r.at E).bind S.toD := by cases r <;> rfl
theorem Grow.seq0 (g : Grow F H [] F1 H1 f1) (h : Grow F1 H1 [] F2 H2 f2) : Grow F H [] F2 H2 (f1 ++ f2) := by
  have g' := g.less (fr := []) (fun _ m => nomatch m)
  have gh := g'.trans h
  refine ⟨gh.f, gh.sub, gh.keep, fun a m => ?_, gh.off⟩
  rcases List.mem_append.mp m with m | m
  · exact g.new a m
  · exact gh.new a m
theorem Grow.drop (g : Grow F H [] F1 H1 f1) : Grow F H [] F1 H1 [] := g.less fun _ m => nomatch m
theorem RsAt.grow {r : Rs} (R : Rep K F H ρ E fp) (a : RsAt K F H ρ E v r fr) (g : Grow F H [] F' H' f1) : RsAt K F' H' ρ E v r fr := by
  cases r with
  | val s => exact Own.grow (show Own K F H v s fr from a) g (fun _ _ m => nomatch m)
  | pl p =>
    obtain ⟨a1, a2, a3⟩ := a
    obtain ⟨t, ht⟩ := Option.isSome_iff_exists.mp a3
    exact ⟨a1, by rw [R.core.follow_keep (fun b o e => g.sub b o (g.f b o e)) ht fun a _ o e => g.keep a o e (fun m => nomatch m)]; exact a2, a3⟩
/-- the whole of it, laid somewhere -/
theorem RsAt.own {r : Rs} (R : Rep K F H ρ E fp) (a : RsAt K F H ρ E v r fr) (h : r.at E = some s) : ∃ fq, Own K F H v s fq := by
  cases r with
  | val t =>
    cases h
    exact ⟨fr, a⟩
  | pl p =>
    obtain ⟨a1, a2, a3⟩ := a
    obtain ⟨u, f1, f2, e1, o, _⟩ := R.core.take (show eget E p = some s from h)
    rw [a2] at e1
    cases e1
    exact ⟨f1, o⟩
theorem RsAt.dp {r : Rs} {d : PyData} (R : Rep K F H ρ E fp) (a : RsAt K F H ρ E v r fr) (h : r.full E = some d) : Dq K H v d := by
  rw [Rs.full_at] at h
  obtain ⟨s, hs, hd⟩ := Option.bind_eq_some_iff.mp h
  obtain ⟨fq, o⟩ := a.own R hs
  exact Own.dp R.sub s o hd
/-- what an expression comes to, nothing of ours changed -/
def EvP (K : PySem.W.Frag) (n : Nat) (as : Ro) (te : TE) (d : En → Option Rs) : Prop :=
  ∀ {F H : Hp} {σ : L2.St} {E : En} {fp : List Addr}, σ.length = n → Rep K F H (σ ++ as) E fp → ∀ {r : Rs}, d E = some r → ∀ {Q : VK},
    (∀ v F' H' fr, Grow F H [] F' H' fr → RsAt K F' H' (σ ++ as) E v r fr → fr.Nodup → (∀ a ∈ fr, F' a = none) → Q v H') → te σ H Q
def EvT (K : PySem.W.Frag) (n : Nat) (as : Ro) (tt : TT) (d : En → Option Bool) : Prop :=
  ∀ {F H : Hp} {σ : L2.St} {E : En} {fp : List Addr}, σ.length = n → Rep K F H (σ ++ as) E fp → ∀ {b : Bool}, d E = some b → ∀ {Q : Bool → Hp → Prop},
    (∀ F' H', Grow F H [] F' H' [] → Q b H') → tt σ H Q
/-- several, from the left -/
inductive RsAll (K : PySem.W.Frag) (F H : Hp) (ρ : Ro) (E : En) : List V → List Rs → List Addr → Prop
  | nil : RsAll K F H ρ E [] [] []
  | cons {v : V} {vs : List V} {r : Rs} {rs : List Rs} {f g : List Addr} : RsAt K F H ρ E v r f → RsAll K F H ρ E vs rs g → RsAll K F H ρ E (v :: vs) (r :: rs) (f ++ g)
def EvA (K : PySem.W.Frag) (n : Nat) (as : Ro) (ta : TA) (d : En → Option (List Rs)) : Prop :=
  ∀ {F H : Hp} {σ : L2.St} {E : En} {fp : List Addr}, σ.length = n → Rep K F H (σ ++ as) E fp → ∀ {rs : List Rs}, d E = some rs → ∀ {Q : List V → Hp → Prop},
    (∀ vs F' H' fr, Grow F H [] F' H' fr → RsAll K F' H' (σ ++ as) E vs rs fr → fr.Nodup → (∀ a ∈ fr, F' a = none) → Q vs H') → ta σ H Q
theorem Own.fresh (o : RsAt K F H ρ E v r fr) (g : Grow F H [] F1 H1 f1) (z : ∀ a ∈ fr, ∃ o, H a = some o) : ∀ a ∈ fr, ∀ b ∈ f1, a ≠ b := fun a m b m1 e => by
  subst e
  obtain ⟨o, eo⟩ := z a m
  rcases g.new a m1 with q | q
  · cases q
  · rw [eo] at q; cases q
theorem RsAt.there {r : Rs} (a : RsAt K F H ρ E v r fr) : ∀ b ∈ fr, ∃ o, H b = some o := by
  cases r with
  | val s => exact Own.there (show Own K F H v s fr from a)
  | pl p =>
    obtain ⟨a1, _⟩ := a
    subst a1
    exact fun _ m => nomatch m
theorem nodup_two (n1 : f1.Nodup) (n2 : f2.Nodup) (d : ∀ a ∈ f1, ∀ b ∈ f2, a ≠ b) : (f1 ++ f2).Nodup := List.nodup_append.mpr ⟨n1, n2, d⟩
def isSc : PyData → Bool
  | .none => true | .bool _ => true | .int _ => true | .str _ => true
  | _ => false
def scV : PyData → V
  | .bool b => .bl b | .int i => .int i | .str x => .str x
  | _ => .non
theorem scV_dp {d : PyData} (h : isSc d = true) : Dq K F (scV d) d := by
  cases d with
  | none => exact .non
  | bool b => exact .bl b
  | int i => exact .int i
  | str x => exact .str x
  | _ => cases h
theorem Dq.sc {d : PyData} (h : Dq K F v d) (s : isSc d = true) : v = scV d := by
  cases h <;> first | rfl | cases s
def dVar (i : Nat) (E : En) : Option Rs := match E[i]? with
  | some (.own (.dat d)) => some (.val (.dat d))
  | some (.own (.con v)) => some (.val (.con v))
  | some (.own s) => some (.pl [i])
  | some (.bor p) => some (.pl p)
  | _ => none
def dC (d : PyData) (_ : En) : Option Rs := some (.val (.dat d))
def dOp (f : PyData → PyData → Option PyData) (da db : En → Option Rs) (E : En) : Option Rs := match da E, db E with
  | some a, some b => match a.full E, b.full E with
    | some a, some b => (f a b).map fun c => .val (.dat c)
    | _, _ => none
  | _, _ => none
def dTest (d : En → Option Rs) (E : En) : Option Bool := match d E with
  | some (.val (.dat (.bool b))) => some b
  | _ => none
def dOr (dt du : En → Option Bool) (E : En) : Option Bool := match dt E with
  | some false => du E
  | o => o
def dNot (dt : En → Option Bool) (E : En) : Option Bool := (dt E).map (!·)
def dIfE (dt : En → Option Bool) (da db : En → Option Rs) (E : En) : Option Rs := match dt E with
  | some true => da E
  | some false => db E
  | none => none
def dNil (_ : En) : Option (List Rs) := some []
def dCons (da : En → Option Rs) (dr : En → Option (List Rs)) (E : En) : Option (List Rs) := match da E, dr E with
  | some a, some r => some (a :: r)
  | _, _ => none
section
variable {te ta tb : TE} {d da db : En → Option Rs}
theorem p_var {i : Nat} (hi : i < n) : EvP K n as (tVar i) (dVar i) := by
  intro F H σ E fp L R r e Q q
  unfold dVar at e
  have main : ∀ v, (σ ++ as)[i]? = some (some v) → σ[i]? = some (some v) := fun v h => by rwa [List.getElem?_append_left (by omega)] at h
  cases he : E[i]? with
  | none => rw [he] at e; cases e
  | some sl =>
    rw [he] at e
    cases sl with
    | no => cases e
    | bor p =>
      cases e
      obtain ⟨v, h1, h2, h3⟩ := R.bor i p he
      exact ⟨v, main v h1, q v F H [] (.refl R.sub []) ⟨rfl, h2, h3⟩ List.nodup_nil (fun _ m => nomatch m)⟩
    | own s =>
      obtain ⟨v, h1⟩ := R.core.set i s he
      have g : eget E [i] = some s := by simp only [eget, he, S.get_nil]
      obtain ⟨u, g1, g2, e1, o, c, _⟩ := R.core.take g
      have eu : u = v := by simp only [followE, h1, follow_nil] at e1; exact (Option.some.inj e1).symm
      subst eu
      have pl : some (Rs.pl [i]) = some r → Q u H := fun e' => by
        have e2 := Option.some.inj e'
        subst e2
        exact q u F H [] (.refl R.sub []) ⟨rfl, e1, by rw [g]; rfl⟩ List.nodup_nil (fun _ m => nomatch m)
      refine ⟨u, main u h1, ?_⟩
      cases s with
      | dat d =>
        cases e
        exact q u F H [] (.refl R.sub []) (.dat (o.dat_inv rfl).1) List.nodup_nil (fun _ m => nomatch m)
      | con w =>
        cases e
        obtain ⟨rfl, _⟩ := o.con_inv rfl
        exact q u F H [] (.refl R.sub []) .con List.nodup_nil (fun _ m => nomatch m)
      | lst _ => exact pl e
      | dct _ _ => exact pl e
      | ins _ _ => exact pl e
      | ext _ => exact pl e
theorem p_c {d : PyData} (h : isSc d = true := by rfl) : EvP K n as (tC (scV d)) (dC d) := by
  intro F H σ E fp L R r e Q q
  cases e
  exact q _ F H [] (.refl R.sub []) (.dat (scV_dp h)) List.nodup_nil (fun _ m => nomatch m)
/-- a rule for two values, the answer without parts -/
def Rv2 (K : PySem.W.Frag) (r : R2) (f : PyData → PyData → Option PyData) : Prop :=
  ∀ {H : Hp} {x y : V} {a b c : PyData}, Dq K H x a → Dq K H y b → f a b = some c → ∀ {Q : VK}, (isSc c = true → Q (scV c) H) → r x y H Q
theorem p_op {r : R2} {f : PyData → PyData → Option PyData} (hr : Rv2 K r f) (ha : EvP K n as ta da) (hb : EvP K n as tb db) :
    EvP K n as (tOp r ta tb) (dOp f da db) := by
  intro F H σ E fp L R r' e Q q
  unfold dOp at e
  split at e
  · next a b ea eb =>
    split at e
    · next a' b' ea' eb' =>
      obtain ⟨c, ec, rfl⟩ := Option.map_eq_some_iff.mp e
      refine ha L R ea fun x F1 H1 f1 g1 r1 n1 o1 => hb L (R.grow g1) eb fun y F2 H2 f2 g2 r2 n2 o2 => ?_
      have R2 := (R.grow g1).grow g2
      refine hr ((r1.grow (R.grow g1) g2).dp R2 ea') (r2.dp R2 eb') ec fun hc => ?_
      exact q _ F2 H2 [] ((g1.seq0 g2).drop) (.dat (scV_dp hc)) List.nodup_nil (fun _ m => nomatch m)
    · cases e
  · cases e
theorem p_test (h : EvP K n as te d) : EvT K n as (tTest te) (dTest d) := by
  intro F H σ E fp L R b e Q q
  unfold dTest at e
  split at e
  · next c ed =>
    cases e
    refine h L R ed fun v F1 H1 f1 g1 r1 n1 o1 => ?_
    have := (Own.dat_inv (show Own K F1 H1 v _ f1 from r1) rfl).1
    cases this
    exact ⟨b, rfl, q F1 H1 g1.drop⟩
  · cases e
theorem p_tB (h : EvP K n as te d) : EvT K n as (tB te) (dTest d) := p_test h
variable {tt uu : TT} {dt du : En → Option Bool}
theorem p_or (ht : EvT K n as tt dt) (hu : EvT K n as uu du) : EvT K n as (tOr tt uu) (dOr dt du) := by
  intro F H σ E fp L R b e Q q
  unfold dOr at e
  cases h : dt E with
  | none => rw [h] at e; cases e
  | some c =>
    rw [h] at e
    refine ht L R h fun F1 H1 g1 => ?_
    cases c with
    | false => exact iteF (hu L (R.grow g1) e fun F2 H2 g2 => q F2 H2 (g1.seq0 g2))
    | true =>
      cases e
      exact iteT (q F1 H1 g1)
theorem p_not (ht : EvT K n as tt dt) : EvT K n as (tNot tt) (dNot dt) := by
  intro F H σ E fp L R b e Q q
  obtain ⟨c, h, rfl⟩ := Option.map_eq_some_iff.mp e
  exact ht L R h fun F1 H1 g1 => q F1 H1 g1
theorem p_ifE (ht : EvT K n as tt dt) (ha : EvP K n as ta da) (hb : EvP K n as tb db) : EvP K n as (tIf tt ta tb) (dIfE dt da db) := by
  intro F H σ E fp L R r e Q q
  unfold dIfE at e
  cases h : dt E with
  | none => rw [h] at e; cases e
  | some c =>
    rw [h] at e
    refine ht L R h fun F1 H1 g1 => ?_
    cases c with
    | true => exact iteT (ha L (R.grow g1) e fun v F2 H2 f2 g2 a2 n2 o2 => q v F2 H2 f2 (g1.seq0 g2) a2 n2 o2)
    | false => exact iteF (hb L (R.grow g1) e fun v F2 H2 f2 g2 a2 n2 o2 => q v F2 H2 f2 (g1.seq0 g2) a2 n2 o2)
/-- arguments -/
theorem p_nil : EvA K n as tNil dNil := by
  intro F H σ E fp L R r e Q q
  cases e
  exact q [] F H [] (.refl R.sub []) .nil List.nodup_nil (fun _ m => nomatch m)
variable {tr : TA} {dr : En → Option (List Rs)}
theorem p_cons (ha : EvP K n as ta da) (hr : EvA K n as tr dr) : EvA K n as (tCons ta tr) (dCons da dr) := by
  intro F H σ E fp L R r e Q q
  unfold dCons at e
  split at e
  · next a r ea er =>
    cases e
    refine ha L R ea fun x F1 H1 f1 g1 r1 n1 o1 => hr L (R.grow g1) er fun xs F2 H2 f2 g2 r2 n2 o2 => ?_
    refine q _ F2 H2 (f1 ++ f2) (g1.seq0 g2) (.cons (r1.grow (R.grow g1) g2) r2) (nodup_two n1 n2 (Own.fresh r1 g2 r1.there)) fun a m => ?_
    rcases List.mem_append.mp m with m | m
    · obtain ⟨o, eo⟩ := r1.there a m
      exact g2.off a (by rw [eo]; exact fun z => nomatch z) (fun z => nomatch z) (o1 a m)
    · exact o2 a m
  · cases e
end
end Mv
set_option maxHeartbeats 4000000
namespace Mv
open PySem PySem.Spec PyProof.Rows L2
variable {K : PySem.W.Frag} {F F' F1 F2 H H' H1 H2 : Hp} {v u x y : V} {vs : List V} {s t : S} {ss : List S} {fp fq fr fp' fp1 fp2 f1 f2 : List Addr} {ρ as : Ro} {E E' : En} {n : Nat}
variable {te ta tb tc : TE} {d da db dc : En → Option Rs} {tr : TA} {dr : En → Option (List Rs)}
theorem DqAll.nth : ∀ {vs : List V} {ds : List PyData} {i : Nat} {d : PyData}, DqAll K F vs ds → ds[i]? = some d → ∃ v, vs[i]? = some v ∧ Dq K F v d
  | _, _, _, _, .nil, e => by simp at e
  | _, _, 0, d, .cons h _, e => by
    simp only [List.getElem?_cons_zero, Option.some.injEq] at e
    subst e
    exact ⟨_, rfl, h⟩
  | _, _, i + 1, d, .cons _ t, e => by
    obtain ⟨v, h1, h2⟩ := DqAll.nth (i := i) t (by simpa using e)
    exact ⟨v, by simpa using h1, h2⟩
theorem DqAll.len : ∀ {vs : List V} {ds : List PyData}, DqAll K F vs ds → vs.length = ds.length
  | _, _, .nil => rfl
  | _, _, .cons _ t => by simp only [List.length_cons, DqAll.len t]
theorem Dq.list_inv {ds : List PyData} (h : Dq K F v (.list ds)) : ∃ a xs, v = .ref a ∧ SqL K F a xs ∧ DqAll K F xs ds := by
  cases h with
  | lst a b => exact ⟨_, _, rfl, a, b⟩
theorem Dq.tuple_inv {ds : List PyData} (h : Dq K F v (.tuple ds)) : ∃ a xs, v = .ref a ∧ SqT K F a xs ∧ DqAll K F xs ds := by
  cases h with
  | tup a b => exact ⟨_, _, rfl, a.sq, b⟩
theorem Own.lst_inv (o : Own K F H v s fp) (e : s = .lst ss) : ∃ a vs fq, v = .ref a ∧ H a = some (.lst vs) ∧ OwnL K F H vs ss fq ∧ fp = a :: fq := by
  cases o with
  | dat _ => cases e
  | con => cases e
  | ext => cases e
  | @node a ob _ ex fq h hd l =>
    subst e
    cases ob with
    | lst vs =>
      have : ex = [] := hd
      subst this
      exact ⟨a, vs, fq, rfl, h, l, rfl⟩
    | frz o u => cases u <;> exact hd.elim
    | _ => exact hd.elim
  | lck => cases e
theorem ixN_at {n : Nat} {i : Int} {j : Nat} (h : ixN n i = some j) : j < n := (ixN_seq h).2.1
/-- one part of what stands at a result: data itself, else its place -/
def Rs.kid (r : Rs) (j : Nat) (s : S) : Option Rs := match s, r with
  | .dat d, _ => some (.val (.dat d))
  | _, .pl p => some (.pl (p ++ [j]))
  | _, _ => none
theorem followE_snoc {p : List Nat} {a : Addr} {o : HO} {j : Nat} {w : V} (h : followE H ρ p = some (.ref a)) (e : H a = some o) (k : (kidsV o)[j]? = some w) : followE H ρ (p ++ [j]) = some w := by
  have go : ∀ (p : List Nat) (v : V), follow H v p = some (.ref a) → follow H v (p ++ [j]) = some w := by
    intro p
    induction p with
    | nil =>
      intro v h
      rw [follow_nil] at h
      cases h
      rw [List.nil_append, follow_node e k, follow_nil]
    | cons i p ih =>
      intro v h
      cases v with
      | ref b =>
        rw [List.cons_append]
        simp only [follow] at h
        split at h
        · next ob hb =>
          split at h
          · next x hx => rw [follow_node hb hx]; exact ih _ h
          · cases h
        · cases h
      | _ => cases h
  cases p with
  | nil => cases h
  | cons i p =>
    rw [List.cons_append]
    unfold followE at h ⊢
    dsimp only at h ⊢
    split at h
    · exact go p _ h
    · cases h
theorem S.get_snoc {j : Nat} {k : S} : ∀ (p : List Nat) {s t : S}, s.get p = some t → t.kids[j]? = some k → s.get (p ++ [j]) = some k
  | [], s, t, h, e => by
    rw [S.get_nil] at h
    cases h
    rw [List.nil_append, S.get_cons, e]
    exact S.get_nil k
  | i :: p, s, t, h, e => by
    rw [S.get_cons] at h
    rw [List.cons_append, S.get_cons]
    split at h
    · exact S.get_snoc p h e
    · cases h
theorem eget_snoc {p : List Nat} {j : Nat} {k : S} (h : eget E p = some t) (e : t.kids[j]? = some k) : eget E (p ++ [j]) = some k := by
  obtain ⟨i, q, s, rfl, ei, hq⟩ := eget_some h
  simp only [List.cons_append, eget, ei]
  exact S.get_snoc q hq e
/-- a part of an owned node, as a result -/
theorem RsAt.kid {r r' : Rs} {a : Addr} {o : HO} {j : Nat} {w : V} {f : List Addr} (R : Rep K F H ρ E fp) (h : RsAt K F H ρ E (.ref a) r fr) (ea : r.at E = some t) (ho : H a = some o) (hk : (kidsV o)[j]? = some w) (hs : t.kids[j]? = some s) (ow : Own K F H w s f) (e : r.kid j s = some r') :
    RsAt K F H ρ E w r' [] := by
  cases s with
  | dat d =>
    cases r <;> (cases e; exact .dat (ow.dat_inv rfl).1)
  | _ => cases r with
    | val _ => cases e
    | pl p =>
      cases e
      obtain ⟨_, h2, h3⟩ := h
      exact ⟨rfl, followE_snoc h2 ho hk, by rw [eget_snoc ea hs]; rfl⟩
theorem OwnL.nth : ∀ {vs : List V} {ss : List S} {fp : List Addr} {i : Nat} {s : S}, OwnL K F H vs ss fp → ss[i]? = some s → ∃ v f, vs[i]? = some v ∧ Own K F H v s f
  | _, _, _, _, _, .nil, e => by simp at e
  | _, _, _, 0, s, .cons h _, e => by
    simp only [List.getElem?_cons_zero, Option.some.injEq] at e
    subst e
    exact ⟨_, _, rfl, h⟩
  | _, _, _, i + 1, s, .cons _ t, e => by
    obtain ⟨v, f, h1, h2⟩ := OwnL.nth (i := i) t (by simpa using e)
    exact ⟨v, f, by simpa using h1, h2⟩
def dIxL (da db : En → Option Rs) (E : En) : Option Rs := match da E, db E with
  | some r, some (.val (.dat (.int i))) => match r.at E with
    | some (.lst ss) => match ixN ss.length i with
      | some j => match ss[j]? with
        | some s => r.kid j s
        | none => none
      | none => none
    | some (.dat (.list ds)) => match ixN ds.length i with
      | some j => (ds[j]?).map fun d => .val (.dat d)
      | none => none
    | _ => none
  | _, _ => none
theorem p_ixL (ha : EvP K n as ta da) (hb : EvP K n as tb db) : EvP K n as (tOp (rIxL K) ta tb) (dIxL da db) := by
  intro F H σ E fp L R r' e Q q
  unfold dIxL at e
  split at e
  · next r i ea eb =>
    refine ha L R ea fun x F1 H1 f1 g1 r1 n1 o1 => hb L (R.grow g1) eb fun y F2 H2 f2 g2 r2 n2 o2 => ?_
    have R2 := (R.grow g1).grow g2
    have r1' := r1.grow (R.grow g1) g2
    have gg := (g1.seq0 g2).drop
    cases (Own.dat_inv (show Own K F2 H2 y _ f2 from r2) rfl).1
    split at e
    · next ss es =>
      split at e
      · next j ej =>
        split at e
        · next s hs =>
          obtain ⟨fq, o⟩ := r1'.own R2 es
          obtain ⟨a, vs, fq', rfl, hH, l, _⟩ := o.lst_inv rfl
          obtain ⟨w, f, hw, ow⟩ := l.nth hs
          refine ⟨a, vs, i, w, rfl, rfl, .inl (.inl hH), by unfold atI; rw [l.length, ej]; exact hw, ?_⟩
          exact q w F2 H2 [] gg (r1'.kid R2 es hH hw hs ow e) List.nodup_nil (fun _ m => nomatch m)
        · cases e
      · cases e
    · next ds es =>
      split at e
      · next j ej =>
        obtain ⟨d, hd, rfl⟩ := Option.map_eq_some_iff.mp e
        obtain ⟨fq, o⟩ := r1'.own R2 es
        obtain ⟨a, xs, rfl, hq, da⟩ := Mv.Dq.list_inv (o.dat_inv rfl).1
        obtain ⟨w, hw, dw⟩ := Mv.DqAll.nth da hd
        refine ⟨a, xs, i, w, rfl, rfl, SqL.mono R2.sub hq, by unfold atI; rw [Mv.DqAll.len da, ej]; exact hw, ?_⟩
        exact q w F2 H2 [] gg (.dat dw) List.nodup_nil (fun _ m => nomatch m)
      · cases e
    · cases e
  · cases e
def dIxT (da db : En → Option Rs) (E : En) : Option Rs := match da E, db E with
  | some r, some (.val (.dat (.int i))) => match r.at E with
    | some (.dat (.tuple ds)) => match ixN ds.length i with
      | some j => (ds[j]?).map fun d => .val (.dat d)
      | none => none
    | _ => none
  | _, _ => none
theorem p_ixT (ha : EvP K n as ta da) (hb : EvP K n as tb db) : EvP K n as (tOp (rIxT K) ta tb) (dIxT da db) := by
  intro F H σ E fp L R r' e Q q
  unfold dIxT at e
  split at e
  · next r i ea eb =>
    refine ha L R ea fun x F1 H1 f1 g1 r1 n1 o1 => hb L (R.grow g1) eb fun y F2 H2 f2 g2 r2 n2 o2 => ?_
    have R2 := (R.grow g1).grow g2
    have r1' := r1.grow (R.grow g1) g2
    cases (Own.dat_inv (show Own K F2 H2 y _ f2 from r2) rfl).1
    split at e
    · next ds es =>
      split at e
      · next j ej =>
        obtain ⟨d, hd, rfl⟩ := Option.map_eq_some_iff.mp e
        obtain ⟨fq, o⟩ := r1'.own R2 es
        obtain ⟨a, xs, rfl, hq, da⟩ := Mv.Dq.tuple_inv (o.dat_inv rfl).1
        obtain ⟨w, hw, dw⟩ := Mv.DqAll.nth da hd
        refine ⟨a, xs, i, w, rfl, rfl, SqT.mono R2.sub hq, by unfold atI; rw [Mv.DqAll.len da, ej]; exact hw, ?_⟩
        exact q w F2 H2 [] (g1.seq0 g2).drop (.dat dw) List.nodup_nil (fun _ m => nomatch m)
      · cases e
    · cases e
  · cases e
def dAndV (da db : En → Option Rs) (E : En) : Option Rs := match da E with
  | some (.val (.dat (.bool true))) => db E
  | some (.val (.dat (.bool false))) => some (.val (.dat (.bool false)))
  | _ => none
def dOrV (da db : En → Option Rs) (E : En) : Option Rs := match da E with
  | some (.val (.dat (.bool false))) => db E
  | some (.val (.dat (.bool true))) => some (.val (.dat (.bool true)))
  | _ => none
def dNotV (da : En → Option Rs) (E : En) : Option Rs := match da E with
  | some (.val (.dat (.bool b))) => some (.val (.dat (.bool (!b))))
  | _ => none
theorem p_andV (ha : EvP K n as ta da) (hb : EvP K n as tb db) : EvP K n as (tAndV ta tb) (dAndV da db) := by
  intro F H σ E fp L R r e Q q
  unfold dAndV at e
  split at e
  · next ea =>
    refine ha L R ea fun x F1 H1 f1 g1 r1 n1 o1 => ?_
    cases (Own.dat_inv (show Own K F1 H1 x _ f1 from r1) rfl).1
    exact ⟨true, rfl, iteT (hb L (R.grow g1) e fun v F2 H2 f2 g2 a2 n2 o2 => q v F2 H2 f2 (g1.drop.seq0 g2) a2 n2 o2)⟩
  · next ea =>
    cases e
    refine ha L R ea fun x F1 H1 f1 g1 r1 n1 o1 => ?_
    cases (Own.dat_inv (show Own K F1 H1 x _ f1 from r1) rfl).1
    exact ⟨false, rfl, iteF (q _ F1 H1 [] g1.drop (.dat (.bl false)) List.nodup_nil (fun _ m => nomatch m))⟩
  · cases e
theorem p_orV (ha : EvP K n as ta da) (hb : EvP K n as tb db) : EvP K n as (tOrV ta tb) (dOrV da db) := by
  intro F H σ E fp L R r e Q q
  unfold dOrV at e
  split at e
  · next ea =>
    refine ha L R ea fun x F1 H1 f1 g1 r1 n1 o1 => ?_
    cases (Own.dat_inv (show Own K F1 H1 x _ f1 from r1) rfl).1
    exact ⟨false, rfl, iteF (hb L (R.grow g1) e fun v F2 H2 f2 g2 a2 n2 o2 => q v F2 H2 f2 (g1.drop.seq0 g2) a2 n2 o2)⟩
  · next ea =>
    cases e
    refine ha L R ea fun x F1 H1 f1 g1 r1 n1 o1 => ?_
    cases (Own.dat_inv (show Own K F1 H1 x _ f1 from r1) rfl).1
    exact ⟨true, rfl, iteT (q _ F1 H1 [] g1.drop (.dat (.bl true)) List.nodup_nil (fun _ m => nomatch m))⟩
  · cases e
theorem p_notV (ha : EvP K n as ta da) : EvP K n as (tNotV ta) (dNotV da) := by
  intro F H σ E fp L R r e Q q
  unfold dNotV at e
  split at e
  · next b ea =>
    cases e
    refine ha L R ea fun x F1 H1 f1 g1 r1 n1 o1 => ?_
    cases (Own.dat_inv (show Own K F1 H1 x _ f1 from r1) rfl).1
    exact ⟨b, rfl, q _ F1 H1 [] g1.drop (.dat (.bl _)) List.nodup_nil (fun _ m => nomatch m)⟩
  · cases e
def dChain (f g : PyData → PyData → Option PyData) (da db dc : En → Option Rs) (E : En) : Option Rs := match da E, db E, dc E with
  | some a, some b, some c => match a.full E, b.full E, c.full E with
    | some a, some b, some c => match f a b, g b c with
      | some (.bool k), some (.bool l) => some (.val (.dat (.bool (k && l))))
      | _, _ => none
    | _, _, _ => none
  | _, _, _ => none
theorem p_chain {r r' : R2} {f g : PyData → PyData → Option PyData} (hr : Rv2 K r f) (hr' : Rv2 K r' g) (ha : EvP K n as ta da) (hb : EvP K n as tb db) (hc : EvP K n as tc dc) : EvP K n as (tChain r r' ta tb tc) (dChain f g da db dc) := by
  intro F H σ E fp L R r0 e Q q
  unfold dChain at e
  split at e
  · next a b c ea eb ec =>
    split at e
    · next a' b' c' ea' eb' ec' =>
      split at e
      · next k l ek el =>
        cases e
        refine ha L R ea fun x F1 H1 f1 g1 r1 n1 o1 => hb L (R.grow g1) eb fun y F2 H2 f2 g2 r2 n2 o2 => ?_
        have R2 := (R.grow g1).grow g2
        refine hr ((r1.grow (R.grow g1) g2).dp R2 ea') (r2.dp R2 eb') ek fun _ => ?_
        refine ⟨k, rfl, ?_⟩
        cases k with
        | true =>
          refine iteT (hc L R2 ec fun z F3 H3 f3 g3 r3 n3 o3 => ?_)
          have R3 := R2.grow g3
          refine hr' ((r2.grow R2 g3).dp R3 eb') (r3.dp R3 ec') el fun _ => ?_
          exact q _ F3 H3 [] ((g1.seq0 g2).drop.seq0 g3).drop (.dat (.bl _)) List.nodup_nil (fun _ m => nomatch m)
        | false => exact iteF (q _ F2 H2 [] (g1.seq0 g2).drop (.dat (.bl false)) List.nodup_nil (fun _ m => nomatch m))
      · cases e
    · cases e
  · cases e
end Mv
set_option maxHeartbeats 4000000
namespace Mv
open PySem PySem.Spec PyProof.Rows L2
variable {K : PySem.W.Frag} {F F' F1 F2 H H' H1 H2 : Hp} {v u x y : V} {vs : List V} {s t : S} {ss : List S} {fp fq fr fp' fp1 fp2 f1 f2 : List Addr} {ρ as : Ro} {E E' : En} {n : Nat}
variable {W : Value → Option Addr → L2.St → Hp → Prop} {te ta tb tc : TE} {d da db dc : En → Option Rs} {tr : TA} {dr : En → Option (List Rs)} {tt : TT} {dt : En → Option Bool}
def EvE (K : PySem.W.Frag) (n : Nat) (as : Ro) (te : TE) (d : En → Option (S × En)) : Prop :=
  ∀ {F H : Hp} {σ : L2.St} {E : En} {fp : List Addr}, σ.length = n → Rep K F H (σ ++ as) E fp → ∀ {s : S} {E' : En}, d E = some (s, E') → ∀ {Q : VK},
    (∀ v F' H' fr fp', Grow F H fp F' H' (fr ++ fp') → Rep K F' H' (σ ++ as) E' fp' → Own K F' H' v s fr → (fr ++ fp').Nodup → (∀ a ∈ fr, F' a = none) → Q v H') → te σ H Q
def EvTE (K : PySem.W.Frag) (n : Nat) (as : Ro) (tt : TT) (d : En → Option (Bool × En)) : Prop :=
  ∀ {F H : Hp} {σ : L2.St} {E : En} {fp : List Addr}, σ.length = n → Rep K F H (σ ++ as) E fp → ∀ {b : Bool} {E' : En}, d E = some (b, E') → ∀ {Q : Bool → Hp → Prop},
    (∀ F' H' fp', Grow F H fp F' H' fp' → Rep K F' H' (σ ++ as) E' fp' → Q b H') → tt σ H Q
abbrev WXm := Value → Option Addr → L2.St → Hp → Prop
inductive Out where
  | nx (E : En)
  | rt (s : S) (E : En)
  | bk (E : En)
  | ct (E : En)
  | ex (c : Nat) (E : En)
def Out.go (K : PySem.W.Frag) (n : Nat) (as : Ro) (W : WXm) (F H : Hp) (fp : List Addr) (D : Ends) : Out → Prop
  | .nx E' => ∀ (σ' : L2.St) F' H' fp', σ'.length = n → Grow F H fp F' H' fp' → Rep K F' H' (σ' ++ as) E' fp' → D.nx σ' H'
  | .bk E' => ∀ (σ' : L2.St) F' H' fp', σ'.length = n → Grow F H fp F' H' fp' → Rep K F' H' (σ' ++ as) E' fp' → D.bk σ' H'
  | .ct E' => ∀ (σ' : L2.St) F' H' fp', σ'.length = n → Grow F H fp F' H' fp' → Rep K F' H' (σ' ++ as) E' fp' → D.ct σ' H'
  | .ex c E' => ∀ (C : Addr) (σ' : L2.St) F' H' fp', clsOf K c C → σ'.length = n → Grow F H fp F' H' fp' → Rep K F' H' (σ' ++ as) E' fp' → W (.ref C) none σ' H'
  | .rt s E' => ∀ v (σ' : L2.St) F' H' fr fp', σ'.length = n → Grow F H fp F' H' (fr ++ fp') → Rep K F' H' (σ' ++ as) E' fp' → Own K F' H' v s fr → (fr ++ fp').Nodup → (∀ a ∈ fr, F' a = none) → D.rt v H'
theorem Out.go.grow {o : Out} {D : Ends} (h : o.go K n as W F H fp D) (g : Grow F H fp F1 H1 fp1) : o.go K n as W F1 H1 fp1 D := by
  cases o with
  | rt s E' => exact fun v σ' F' H' fr fp' L g' R o nd of => h v σ' F' H' fr fp' L (g.trans g') R o nd of
  | ex c E' => exact fun C σ' F' H' fp' hC L g' R => h C σ' F' H' fp' hC L (g.trans g') R
  | _ => exact fun σ' F' H' fp' L g' R => h σ' F' H' fp' L (g.trans g') R
def EvS (K : PySem.W.Frag) (n : Nat) (as : Ro) (W : WXm) (ts : TS) (d : En → Option Out) : Prop :=
  ∀ {F H : Hp} {σ : L2.St} {E : En} {fp : List Addr}, σ.length = n → Rep K F H (σ ++ as) E fp → ∀ {o : Out}, d E = some o → ∀ {D : Ends}, o.go K n as W F H fp D → ts D σ H
theorem Rep.apart_new (R : Rep K F H ρ E fp) (g : Grow F H [] F' H' fr) (nd : fr.Nodup) : (fr ++ fp).Nodup :=
  nodup_two nd R.nd fun a m b m2 e => by
    subst e
    obtain ⟨o, eo⟩ := R.there a m2
    rcases g.new a m with q | q
    · cases q
    · rw [eo] at q; cases q
theorem Grow.ours (g : Grow F H [] F' H' fr) (fp : List Addr) : Grow F H fp F' H' (fr ++ fp) :=
  g.wide (fun _ m => nomatch m) fun a m => by
    rcases List.mem_append.mp m with m | m
    · exact .inr ((g.new a m).elim (fun z => nomatch z) id)
    · exact .inl m
def ePure (d : En → Option Rs) (E : En) : Option (S × En) := match d E with
  | some (.val s) => some (s, E)
  | _ => none
theorem e_pure (h : EvP K n as te d) : EvE K n as te (ePure d) := by
  intro F H σ E fp L R s E' e Q q
  unfold ePure at e
  split at e
  · next t ed =>
    cases e
    exact h L R ed fun v F1 H1 fr g a nd of => q v F1 H1 fr fp (g.ours fp) (R.grow g) a (R.apart_new g nd) of
  · cases e
def ePureT (d : En → Option Bool) (E : En) : Option (Bool × En) := (d E).map (·, E)
theorem e_pureT (h : EvT K n as tt dt) : EvTE K n as tt (ePureT dt) := by
  intro F H σ E fp L R b E' e Q q
  obtain ⟨c, ec, e2⟩ := Option.map_eq_some_iff.mp e
  cases e2
  exact h L R ec fun F1 H1 g => q F1 H1 fp ((g.ours fp).less fun a m => List.mem_append_right _ m) (R.grow g)
variable {de df : En → Option (S × En)} {dte dtf : En → Option (Bool × En)} {uu : TT}
def eTest (d : En → Option (S × En)) (E : En) : Option (Bool × En) := match d E with
  | some (.dat (.bool b), E') => some (b, E')
  | _ => none
theorem e_test (h : EvE K n as te de) : EvTE K n as (tTest te) (eTest de) := by
  intro F H σ E fp L R b E' e Q q
  unfold eTest at e
  split at e
  · next c E2 ed =>
    cases e
    refine h L R ed fun v F1 H1 fr fp1 g R1 o nd of => ?_
    cases (o.dat_inv rfl).1
    exact ⟨b, rfl, q F1 H1 fp1 (g.less fun a m => List.mem_append_right _ m) R1⟩
  · cases e
theorem e_tB (h : EvE K n as te de) : EvTE K n as (tB te) (eTest de) := e_test h
def eAnd (dt du : En → Option (Bool × En)) (E : En) : Option (Bool × En) := match dt E with
  | some (true, E') => du E'
  | o => o
theorem e_and (ht : EvTE K n as tt dte) (hu : EvTE K n as uu dtf) : EvTE K n as (tAnd tt uu) (eAnd dte dtf) := by
  intro F H σ E fp L R b E' e Q q
  unfold eAnd at e
  cases h : dte E with
  | none => rw [h] at e; cases e
  | some c =>
    obtain ⟨c, E1⟩ := c
    rw [h] at e
    refine ht L R h fun F1 H1 fp1 g1 R1 => ?_
    cases c with
    | true => exact iteT (hu L R1 e fun F2 H2 fp2 g2 R2 => q F2 H2 fp2 (g1.trans g2) R2)
    | false =>
      cases e
      exact iteF (q F1 H1 fp1 g1 R1)
def eOr (dt du : En → Option (Bool × En)) (E : En) : Option (Bool × En) := match dt E with
  | some (false, E') => du E'
  | o => o
theorem e_or (ht : EvTE K n as tt dte) (hu : EvTE K n as uu dtf) : EvTE K n as (tOr tt uu) (eOr dte dtf) := by
  intro F H σ E fp L R b E' e Q q
  unfold eOr at e
  cases h : dte E with
  | none => rw [h] at e; cases e
  | some c =>
    obtain ⟨c, E1⟩ := c
    rw [h] at e
    refine ht L R h fun F1 H1 fp1 g1 R1 => ?_
    cases c with
    | false => exact iteF (hu L R1 e fun F2 H2 fp2 g2 R2 => q F2 H2 fp2 (g1.trans g2) R2)
    | true =>
      cases e
      exact iteT (q F1 H1 fp1 g1 R1)
def eNot (dt : En → Option (Bool × En)) (E : En) : Option (Bool × En) := (dt E).map fun p => (!p.1, p.2)
theorem e_not (ht : EvTE K n as tt dte) : EvTE K n as (tNot tt) (eNot dte) := by
  intro F H σ E fp L R b E' e Q q
  obtain ⟨c, h, e2⟩ := Option.map_eq_some_iff.mp e
  obtain ⟨c, E1⟩ := c
  cases e2
  exact ht L R h fun F1 H1 fp1 g1 R1 => q F1 H1 fp1 g1 R1
def killHead (i : Nat) : Sl → Sl
  | .bor q => if q.head? = some i then .no else .bor q
  | e => e
def slotSet (E : En) (i : Nat) (e : Sl) : En := (E.map (killHead i)).set i e
theorem killHead_get {i : Nat} (E : En) (j : Nat) : (∀ s, (E.map (killHead i))[j]? = some (Sl.own s) ↔ E[j]? = some (Sl.own s)) := by
  intro s
  rw [List.getElem?_map]
  cases h : E[j]? with
  | none => simp
  | some sl => cases sl with
    | no => simp [killHead]
    | own t => simp [killHead]
    | bor q =>
      simp only [Option.map_some, killHead]
      split <;> simp
theorem rootS_killHead (i : Nat) : ∀ (ρ : Ro) (E : En), rootS ρ (E.map (killHead i)) = rootS ρ E
  | [], _ => by simp [rootS]
  | _ :: _, [] => rfl
  | v :: ρ, e :: E => by
    simp only [List.map_cons, rootS, rootS_killHead i ρ E]
    congr 1
    cases e with
    | no => rfl
    | own s => rfl
    | bor r => simp only [killHead]; split <;> rfl
theorem OwnL.replace : ∀ {vs : List V} {ss : List S} {fp : List Addr} {i : Nat} {v : V} {s : S} {fr : List Addr}, OwnL K F H vs ss fp → i < ss.length → Own K F H v s fr →
    ∃ fq f1 f2, OwnL K F H (vs.set i v) (ss.set i s) fq ∧ fq.Perm (fr ++ f2) ∧ fp.Perm (f1 ++ f2)
  | _, _, _, i, _, _, _, .nil, h, _ => by simp at h
  | _, _, _, 0, v, s, fr, .cons (fp := fpa) (fq := fpb) _ t, _, o => ⟨fr ++ fpb, fpa, fpb, .cons o t, List.Perm.refl _, List.Perm.refl _⟩
  | _, _, _, i + 1, v, s, fr, .cons (fp := fpa) h t, l, o => by
    obtain ⟨fq, f1, f2, a, b, c⟩ := OwnL.replace (i := i) t (by simpa using l) o
    refine ⟨fpa ++ fq, f1, fpa ++ f2, .cons h a, ?_, ?_⟩
    · refine (List.Perm.append_left fpa b).trans ?_
      rw [← List.append_assoc, ← List.append_assoc]
      exact List.Perm.append_right _ List.perm_append_comm
    · refine (List.Perm.append_left fpa c).trans ?_
      rw [← List.append_assoc, ← List.append_assoc]
      exact List.Perm.append_right _ List.perm_append_comm
theorem rootS_len : ∀ {ρ : Ro} {E : En}, E.length = ρ.length → (rootS ρ E).length = ρ.length
  | [], [], _ => rfl
  | [], _ :: _, h => by simp at h
  | _ :: _, [], h => by simp at h
  | _ :: ρ, _ :: E, h => by simp only [rootS, List.length_cons, rootS_len (ρ := ρ) (E := E) (by simpa using h)]
theorem rootS_set2 : ∀ {ρ : Ro} {E : En} {i : Nat} {v : Option V} {e : Sl}, E.length = ρ.length → rootS (ρ.set i v) (E.set i e) = (rootS ρ E).set i (slS v e)
  | [], [], _, _, _, _ => by simp [rootS]
  | [], _ :: _, _, _, _, h => by simp at h
  | _ :: _, [], _, _, _, h => by simp at h
  | _ :: ρ, _ :: E, 0, _, _, _ => rfl
  | _ :: ρ, _ :: E, i + 1, v, e, h => by simp only [rootS, List.set_cons_succ, rootS_set2 (ρ := ρ) (E := E) (by simpa using h)]
theorem followE_set {i : Nat} {w : Option V} {q : List Nat} (h : q.head? ≠ some i) : followE H (ρ.set i w) q = followE H ρ q := by
  cases q with
  | nil => rfl
  | cons j q =>
    have : i ≠ j := fun e => h (by rw [e]; rfl)
    simp only [followE, List.getElem?_set_ne this]
theorem eget_set {i : Nat} {e : Sl} {q : List Nat} (h : q.head? ≠ some i) : eget (slotSet E i e) q = eget E q := by
  cases q with
  | nil => rfl
  | cons j q =>
    have ij : i ≠ j := fun e => h (by rw [e]; rfl)
    unfold slotSet
    simp only [eget, List.getElem?_set_ne ij]
    cases hE : E[j]? with
    | none => simp [List.getElem?_map, hE]
    | some sl => cases sl with
      | no => simp [List.getElem?_map, hE, killHead]
      | own s => simp [List.getElem?_map, hE, killHead]
      | bor r =>
        by_cases hr : r.head? = some i
        · simp [List.getElem?_map, hE, killHead, hr]
        · simp [List.getElem?_map, hE, killHead, hr]
/-- what a slot may get: a value of its own, or a place that isn't its own one -/
def SlOk (K : PySem.W.Frag) (F H : Hp) (ρ : Ro) (E : En) (i : Nat) (v : V) : Sl → List Addr → Prop
  | .own s, fr => Own K F H v s fr
  | .bor p, fr => fr = [] ∧ p.head? ≠ some i ∧ followE H ρ p = some v ∧ (eget E p).isSome = true
  | .no, fr => fr = []
theorem Rep.setSlot {i : Nat} {e : Sl} (R : Rep K F H ρ E fp) (hi : i < ρ.length) (o : SlOk K F H ρ E i v e fr) (nd : (fr ++ fp).Nodup) (of : ∀ a ∈ fr, F a = none) :
    ∃ fq, Rep K F H (ρ.set i (some v)) (slotSet E i e) fq ∧ ∀ a ∈ fq, a ∈ fr ++ fp := by
  obtain ⟨f, l, pm⟩ := R.core.own
  have hl : i < (rootS ρ E).length := by rw [rootS_len R.core.len]; exact hi
  have oo : Own K F H v (slS (some v) e) fr := by
    cases e with
    | own s => exact o
    | bor p => rw [show fr = [] from o.1]; exact .con
    | no => rw [show fr = [] from o]; exact .con
  obtain ⟨fq, g1, g2, l2, p1, p2⟩ := l.replace hl oo
  have sub : ∀ a ∈ fq, a ∈ fr ++ fp := fun a m => by
    rcases List.mem_append.mp (p1.mem_iff.mp m) with m | m
    · exact List.mem_append_left _ m
    · exact List.mem_append_right _ (pm.mem_iff.mpr (p2.mem_iff.mpr (List.mem_append_right _ m)))
  have ndq : fq.Nodup := by
    refine p1.nodup_iff.mpr ?_
    have n1 : (fr ++ (g1 ++ g2)).Nodup := ((List.Perm.append_left fr (pm.trans p2)).nodup_iff).mp nd
    refine List.nodup_append.mpr ⟨(List.nodup_append.mp n1).1, (List.nodup_append.mp (List.nodup_append.mp n1).2.1).2.1, fun a m b m2 => (List.nodup_append.mp n1).2.2 a m b (List.mem_append_right _ m2)⟩
  have hE : i < E.length := by rw [R.core.len]; exact hi
  refine ⟨fq, ⟨⟨by unfold slotSet; rw [List.length_set, List.length_map, List.length_set]; exact R.core.len, ⟨fq, ?_, List.Perm.refl _⟩, fun j w hj => ?_⟩, R.sub, ndq, fun a m => ?_, fun j p hb => ?_⟩, sub⟩
  · unfold slotSet
    rw [rootS_set2 (by rw [List.length_map]; exact R.core.len), rootS_killHead]
    have : rootV (ρ.set i (some v)) = (rootV ρ).set i v := by unfold rootV; rw [List.map_set]; rfl
    rw [this]
    exact l2
  · by_cases ij : i = j
    · subst ij; exact ⟨v, by rw [List.getElem?_set_self hi]⟩
    · unfold slotSet at hj
      rw [List.getElem?_set_ne ij] at hj
      rw [List.getElem?_set_ne ij]
      exact R.core.set j w ((killHead_get E j w).mp hj)
  · rcases List.mem_append.mp (sub a m) with m | m
    · exact of a m
    · exact R.off a m
  · by_cases ij : i = j
    · subst ij
      unfold slotSet at hb
      rw [List.getElem?_set_self (by rw [List.length_map]; exact hE)] at hb
      cases hb
      obtain ⟨_, h1, h2, h3⟩ := o
      exact ⟨v, by rw [List.getElem?_set_self hi], by rw [followE_set h1]; exact h2, by rw [eget_set h1]; exact h3⟩
    · unfold slotSet at hb
      rw [List.getElem?_set_ne ij, List.getElem?_map] at hb
      cases hE2 : E[j]? with
      | none => rw [hE2] at hb; cases hb
      | some sl =>
        rw [hE2] at hb
        cases sl with
        | no => cases hb
        | own w => cases hb
        | bor q =>
          simp only [Option.map_some, killHead, Option.some.injEq] at hb
          by_cases hq : q.head? = some i
          · rw [if_pos hq] at hb; cases hb
          · rw [if_neg hq] at hb
            cases hb
            obtain ⟨w, e1, e2, e3⟩ := R.bor j _ hE2
            exact ⟨w, by rw [List.getElem?_set_ne ij]; exact e1, by rw [followE_set hq]; exact e2, by rw [eget_set hq]; exact e3⟩
variable {t1 t2 : TS} {d1 d2 : En → Option Out} {i : Nat}
def dSeq (d1 d2 : En → Option Out) (E : En) : Option Out := match d1 E with
  | some (.nx E1) => d2 E1
  | o => o
theorem s_seq (h1 : EvS K n as W t1 d1) (h2 : EvS K n as W t2 d2) : EvS K n as W (tSeq t1 t2) (dSeq d1 d2) := by
  intro F H σ E fp L R o e D g
  unfold dSeq at e
  cases h : d1 E with
  | none => rw [h] at e; cases e
  | some o1 =>
    rw [h] at e
    refine h1 L R h ?_
    cases o1 with
    | nx E1 => exact fun σ' F' H' fp' L' g' R' => h2 L' R' e (g.grow g')
    | rt s E1 => cases e; exact g
    | bk E1 => cases e; exact g
    | ct E1 => cases e; exact g
    | ex c E1 => cases e; exact g
def dNext (E : En) : Option Out := some (.nx E)
theorem s_next : EvS K n as W tNext dNext := by
  intro F H σ E fp L R o e D g
  cases e
  exact g σ F H fp L (.refl R.sub fp) R
def dNever (_ : En) : Option Out := none
theorem s_never : EvS K n as W tNever dNever := by
  intro F H σ E fp L R o e D g
  cases e
def dSet (i : Nat) (d : En → Option (S × En)) (E : En) : Option Out := match d E with
  | some (s, E') => some (.nx (slotSet E' i (.own s)))
  | none => none
theorem set_app {σ : L2.St} {w : Option V} (h : i < σ.length) : (σ.set i w) ++ as = (σ ++ as).set i w := by
  rw [List.set_append_left _ _ h]
theorem s_set (hi : i < n) (h : EvE K n as te de) : EvS K n as W (tAsg te (gName i)) (dSet i de) := by
  intro F H σ E fp L R o e D g
  unfold dSet at e
  split at e
  · next s E' ed =>
    cases e
    refine h L R ed fun v F1 H1 fr fp1 g1 R1 ow nd of => ?_
    have hl : i < (σ ++ as).length := by rw [List.length_append]; omega
    obtain ⟨fq, R2, sb⟩ := R1.setSlot (e := .own s) hl ow nd of
    exact g (σ.set i (some v)) F1 H1 fq (by rw [List.length_set]; exact L) (g1.less sb) (by rw [set_app (by omega)]; exact R2)
  · cases e
/-- x = (a place): the slot tells it from then on -/
def dAlias (i : Nat) (d : En → Option Rs) (E : En) : Option Out := match d E with
  | some (.val s) => some (.nx (slotSet E i (.own s)))
  | some (.pl p) => if p.head? = some i then none else some (.nx (slotSet E i (.bor p)))
  | none => none
theorem s_alias (hi : i < n) (h : EvP K n as te d) : EvS K n as W (tAsg te (gName i)) (dAlias i d) := by
  intro F H σ E fp L R o e D g
  unfold dAlias at e
  have hl : i < (σ ++ as).length := by rw [List.length_append]; omega
  split at e
  · next s ed =>
    cases e
    refine h L R ed fun v F1 H1 fr g1 a nd of => ?_
    obtain ⟨fq, R2, sb⟩ := (R.grow g1).setSlot (e := .own s) hl a (R.apart_new g1 nd) of
    exact g (σ.set i (some v)) F1 H1 fq (by rw [List.length_set]; exact L) ((g1.ours fp).less sb) (by rw [set_app (by omega)]; exact R2)
  · next p ed =>
    split at e
    · cases e
    · next hp =>
      cases e
      refine h L R ed fun v F1 H1 fr g1 a nd of => ?_
      obtain ⟨a1, a2, a3⟩ := a
      subst a1
      obtain ⟨fq, R2, sb⟩ := (R.grow g1).setSlot (e := .bor p) (fr := []) hl ⟨rfl, hp, a2, a3⟩ (R.apart_new g1 nd) (fun _ m => nomatch m)
      exact g (σ.set i (some v)) F1 H1 fq (by rw [List.length_set]; exact L) ((g1.ours fp).less sb) (by rw [set_app (by omega)]; exact R2)
  · cases e
def dRet (d : En → Option (S × En)) (E : En) : Option Out := match d E with
  | some (s, E') => some (.rt s E')
  | none => none
theorem s_ret (h : EvE K n as te de) : EvS K n as W (tRet te) (dRet de) := by
  intro F H σ E fp L R o e D g
  unfold dRet at e
  split at e
  · next s E' ed =>
    cases e
    exact h L R ed fun v F1 H1 fr fp1 g1 R1 ow nd of => g v σ F1 H1 fr fp1 L g1 R1 ow nd of
  · cases e
def dDrop (d : En → Option (S × En)) (E : En) : Option Out := match d E with
  | some (_, E') => some (.nx E')
  | none => none
theorem s_drop (h : EvE K n as te de) : EvS K n as W (tDrop te) (dDrop de) := by
  intro F H σ E fp L R o e D g
  unfold dDrop at e
  split at e
  · next s E' ed =>
    cases e
    exact h L R ed fun v F1 H1 fr fp1 g1 R1 ow nd of => g σ F1 H1 fp1 L (g1.less fun a m => List.mem_append_right _ m) R1
  · cases e
def dIf (dt : En → Option (Bool × En)) (d1 d2 : En → Option Out) (E : En) : Option Out := match dt E with
  | some (true, E') => d1 E'
  | some (false, E') => d2 E'
  | none => none
theorem s_if (ht : EvTE K n as tt dte) (h1 : EvS K n as W t1 d1) (h2 : EvS K n as W t2 d2) : EvS K n as W (tIfS tt t1 t2) (dIf dte d1 d2) := by
  intro F H σ E fp L R o e D g
  unfold dIf at e
  split at e
  · next E' et => exact ht L R et fun F1 H1 fp1 g1 R1 => iteT (h1 L R1 e (g.grow g1))
  · next E' et => exact ht L R et fun F1 H1 fp1 g1 R1 => iteF (h2 L R1 e (g.grow g1))
  · cases e
end Mv
set_option maxHeartbeats 4000000
namespace Mv
open PySem PySem.Spec PyProof.Rows L2
variable {K : PySem.W.Frag} {F F' F1 F2 H H' H1 H2 : Hp} {v u x y : V} {vs ws : List V} {s t : S} {ss tts : List S} {fp fq fr fp' fp1 fp2 f1 f2 : List Addr} {ρ as : Ro} {E E' : En} {n : Nat}
variable {te ta tb tc : TE} {d da db dc : En → Option Rs} {tr : TA} {dr : En → Option (List Rs)} {tt : TT} {dt : En → Option Bool}
/-- what a def promises: g tells its answer and what its arguments are then -/
def spMv (K : PySem.W.Frag) (m : Nat) (g : List S → Option (S × List S)) : Sp := fun vs H Q _ => vs.length = m ∧ ∃ F ss fp s ss', (∀ a o, F a = some o → H a = some o) ∧ OwnL K F H vs ss fp ∧ fp.Nodup ∧ (∀ a ∈ fp, F a = none) ∧ g ss = some (s, ss') ∧
  ∀ v F' H' fr fp', Grow F H fp F' H' (fr ++ fp') → OwnL K F' H' vs ss' fp' → Own K F' H' v s fr → (fr ++ fp').Nodup → (∀ a ∈ fr ++ fp', F' a = none) → Q v H'
def parSl (n j : Nat) : S → Sl
  | .dat d => .own (.dat d)
  | .con v => .own (.con v)
  | _ => .bor [n + j]
def parSls (n : Nat) : Nat → List S → En
  | _, [] => []
  | j, s :: ss => parSl n j s :: parSls n (j + 1) ss
/-- the environment at a def's entry: n names, the parameters first -/
def entry (n : Nat) (ss : List S) : En := parSls n 0 ss ++ List.replicate (n - ss.length) .no ++ ss.map Sl.own
def ownSs : En → Option (List S)
  | [] => some []
  | .own s :: E => (ownSs E).map (s :: ·)
  | _ :: _ => none
/-- a def's worth, by what its body comes to -/
def fnG (n : Nat) (d : En → Option Out) (ss : List S) : Option (S × List S) := match d (entry n ss) with
  | some (.rt s E) => (ownSs (E.drop n)).map (s, ·)
  | some (.nx E) => (ownSs (E.drop n)).map (.dat .none, ·)
  | _ => none
theorem OwnL.split : ∀ {vs ws : List V} {ss tts : List S} {fp : List Addr}, vs.length = ss.length → OwnL K F H (vs ++ ws) (ss ++ tts) fp → ∃ f1 f2, fp = f1 ++ f2 ∧ OwnL K F H vs ss f1 ∧ OwnL K F H ws tts f2
  | [], ws, [], tts, fp, _, o => ⟨[], fp, rfl, .nil, o⟩
  | [], _, _ :: _, _, _, h, _ => by simp at h
  | _ :: _, _, [], _, _, h, _ => by simp at h
  | v :: vs, ws, s :: ss, tts, fp, h, o => by
    rw [List.cons_append, List.cons_append] at o
    cases o with
    | @cons _ _ _ _ fa fb a l =>
      obtain ⟨f1, f2, rfl, l1, l2⟩ := OwnL.split (by simpa using h) l
      exact ⟨fa ++ f1, f2, by rw [List.append_assoc], .cons a l1, l2⟩
theorem parSls_len (n : Nat) : ∀ (j : Nat) (ss : List S), (parSls n j ss).length = ss.length
  | _, [] => rfl
  | j, s :: ss => by simp only [parSls, List.length_cons, parSls_len n (j + 1) ss]
theorem parSls_get (n : Nat) : ∀ (j : Nat) (ss : List S) (i : Nat), (parSls n j ss)[i]? = (ss[i]?).map (parSl n (j + i))
  | _, [], _ => by simp [parSls]
  | j, s :: ss, 0 => by simp [parSls]
  | j, s :: ss, i + 1 => by
    simp only [parSls, List.getElem?_cons_succ, parSls_get n (j + 1) ss i]
    rw [show j + 1 + i = j + (i + 1) by omega]
theorem rootS_app : ∀ {ρ ρ2 : Ro} {E E2 : En}, E.length = ρ.length → rootS (ρ ++ ρ2) (E ++ E2) = rootS ρ E ++ rootS ρ2 E2
  | [], _, [], _, _ => rfl
  | [], _, _ :: _, _, h => by simp at h
  | _ :: _, _, [], _, h => by simp at h
  | v :: ρ, ρ2, e :: E, E2, h => by simp only [List.cons_append, rootS, rootS_app (ρ := ρ) (E := E) (by simpa using h)]
theorem rootS_own : ∀ {vs : List V} {ss : List S}, vs.length = ss.length → rootS (vs.map some) (ss.map Sl.own) = ss
  | [], [], _ => rfl
  | [], _ :: _, h => by simp at h
  | _ :: _, [], h => by simp at h
  | v :: vs, s :: ss, h => by simp only [List.map_cons, rootS, slS, rootS_own (vs := vs) (ss := ss) (by simpa using h)]
theorem rootS_no : ∀ (k : Nat), OwnL K F H (rootV (List.replicate k none)) (rootS (List.replicate k none) (List.replicate k .no)) []
  | 0 => .nil
  | k + 1 => by
    simp only [List.replicate_succ, rootV, List.map_cons, rootS, slS]
    exact .cons (fp := []) .con (rootS_no k)
theorem rootS_par (n : Nat) : ∀ {vs : List V} {ss : List S} {fp : List Addr} (j : Nat), OwnL K F H vs ss fp → OwnL K F H (rootV (vs.map some)) (rootS (vs.map some) (parSls n j ss)) []
  | _, _, _, _, .nil => .nil
  | v :: vs, s :: ss, _, j, .cons a l => by
    simp only [List.map_cons, parSls, rootS, rootV]
    refine .cons (fp := []) ?_ (rootS_par n (j + 1) l)
    cases s with
    | dat d => exact .dat (a.dat_inv rfl).1
    | con w =>
      obtain ⟨rfl, _⟩ := a.con_inv rfl
      exact .con
    | _ => exact .con
theorem rootV_app (ρ ρ2 : Ro) : rootV (ρ ++ ρ2) = rootV ρ ++ rootV ρ2 := by unfold rootV; exact List.map_append
theorem rootV_some (vs : List V) : rootV (vs.map some) = vs := by
  unfold rootV
  rw [List.map_map]
  exact List.map_id _
theorem start_eq (N : List Str) (vs : List V) : start N vs = vs.map some ++ List.replicate (N.length - vs.length) none := rfl
theorem Rep.entry {N : List Str} (sub : ∀ a o, F a = some o → H a = some o) (l : OwnL K F H vs ss fp) (nd : fp.Nodup) (of : ∀ a ∈ fp, F a = none) (hn : vs.length ≤ N.length) :
    Rep K F H (start N vs ++ vs.map some) (Mv.entry N.length ss) fp := by
  have len := l.length
  have hL : (parSls N.length 0 ss ++ List.replicate (N.length - ss.length) Sl.no).length = (vs.map some ++ List.replicate (N.length - vs.length) (none : Option V)).length := by
    rw [List.length_append, List.length_append, parSls_len, List.length_replicate, List.length_map, List.length_replicate, len]
  have hall : (Mv.entry N.length ss).length = (start N vs ++ vs.map some).length := by
    unfold Mv.entry
    rw [List.length_append, hL, start_eq, List.length_append (as := _ ++ _), List.length_map, List.length_map, len]
  have own : OwnL K F H (rootV (start N vs ++ vs.map some)) (rootS (start N vs ++ vs.map some) (Mv.entry N.length ss)) fp := by
    unfold Mv.entry
    rw [← len] at hL ⊢
    rw [start_eq, rootS_app hL, rootS_app (by rw [parSls_len, List.length_map, len]), rootV_app, rootV_app, rootS_own len, rootV_some vs]
    have h1 := rootS_par N.length 0 l
    rw [rootV_some] at h1
    have h2 := rootS_no (K := K) (F := F) (H := H) (N.length - vs.length)
    have := (h1.append h2).append l
    simpa using this
  have hp : ∀ (i : Nat) (e : Sl), (Mv.entry N.length ss)[i]? = some e → (∃ s, ss[i]? = some s ∧ e = parSl N.length i s ∧ i < ss.length) ∨ (e = .no) ∨ (∃ j s, i = N.length + j ∧ ss[j]? = some s ∧ e = .own s) := by
    intro i e h
    unfold Mv.entry at h
    by_cases h1 : i < ss.length
    · rw [List.append_assoc, List.getElem?_append_left (by rw [parSls_len]; exact h1), parSls_get] at h
      obtain ⟨s, hs, rfl⟩ := Option.map_eq_some_iff.mp h
      exact .inl ⟨s, hs, by rw [Nat.zero_add], h1⟩
    · by_cases h2 : i < N.length
      · rw [List.getElem?_append_left (by rw [List.length_append, parSls_len, List.length_replicate]; omega), List.getElem?_append_right (by rw [parSls_len]; omega), List.getElem?_replicate] at h
        split at h
        · cases h; exact .inr (.inl rfl)
        · cases h
      · rw [List.getElem?_append_right (by rw [List.length_append, parSls_len, List.length_replicate]; omega), List.length_append, parSls_len, List.length_replicate] at h
        rw [List.getElem?_map] at h
        obtain ⟨s, hs, rfl⟩ := Option.map_eq_some_iff.mp h
        exact .inr (.inr ⟨_, s, by omega, hs, rfl⟩)
  have argv : ∀ (j : Nat) (w : V), vs[j]? = some w → (start N vs ++ vs.map some)[N.length + j]? = some (some w) := by
    intro j w h
    rw [start_eq, List.getElem?_append_right (by rw [List.length_append, List.length_map, List.length_replicate]; omega), List.length_append, List.length_map, List.length_replicate, List.getElem?_map]
    rw [show N.length + j - (vs.length + (N.length - vs.length)) = j by omega, h]; rfl
  have parv : ∀ (i : Nat) (w : V), vs[i]? = some w → (start N vs ++ vs.map some)[i]? = some (some w) := by
    intro i w h
    have hi := (List.getElem?_eq_some_iff.mp h).1
    rw [start_eq, List.append_assoc, List.getElem?_append_left (by rw [List.length_map]; exact hi), List.getElem?_map, h]; rfl
  refine ⟨⟨hall, ⟨fp, own, List.Perm.refl _⟩, fun i s h => ?_⟩, sub, nd, of, fun i p h => ?_⟩
  · rcases hp i _ h with ⟨t, ht, _, hi⟩ | e | ⟨j, t, rfl, ht, _⟩
    · exact ⟨vs[i], parv i _ (List.getElem?_eq_getElem (by rw [len]; exact hi))⟩
    · cases e
    · have hj := (List.getElem?_eq_some_iff.mp ht).1
      exact ⟨vs[j], argv j _ (List.getElem?_eq_getElem (by rw [len]; exact hj))⟩
  · rcases hp i _ h with ⟨t, ht, e, hi⟩ | e | ⟨j, t, rfl, ht, e⟩
    · have hv : vs[i]? = some vs[i] := List.getElem?_eq_getElem (by rw [len]; exact hi)
      have hq : p = [N.length + i] := by
        cases t <;> first | cases e; rfl | cases e
      subst hq
      have g : (Mv.entry N.length ss)[N.length + i]? = some (Sl.own t) := by
        unfold Mv.entry
        rw [List.getElem?_append_right (by rw [List.length_append, parSls_len, List.length_replicate]; omega), List.length_append, parSls_len, List.length_replicate, List.getElem?_map]
        rw [show N.length + i - (ss.length + (N.length - ss.length)) = i by omega, ht]; rfl
      exact ⟨vs[i], parv i _ hv, by simp only [followE, argv i _ hv, follow_nil], by simp only [eget, g, S.get_nil]; rfl⟩
    · cases e
    · cases e
theorem ownSs_eq : ∀ {E : En} {ss : List S}, ownSs E = some ss → E = ss.map Sl.own
  | [], ss, h => by cases h; rfl
  | .own s :: E, ss, h => by
    simp only [ownSs] at h
    obtain ⟨r, hr, rfl⟩ := Option.map_eq_some_iff.mp h
    rw [List.map_cons, ← ownSs_eq hr]
  | .no :: E, ss, h => by cases h
  | .bor p :: E, ss, h => by cases h
/-- the arguments, as they are at the end -/
theorem Rep.args {σ : L2.St} (R : Rep K F H (σ ++ vs.map some) E fp) (L : σ.length = n) (h : ownSs (E.drop n) = some ss) : ∃ fq, OwnL K F H vs ss fq ∧ fq.Nodup ∧ ∀ a ∈ fq, a ∈ fp := by
  obtain ⟨f, l, pm⟩ := R.core.own
  have e := ownSs_eq h
  have hlen : E.length = n + vs.length := by rw [R.core.len, List.length_append, L, List.length_map]
  have hE : E = E.take n ++ ss.map Sl.own := by rw [← e, List.take_append_drop]
  have hl2 : vs.length = ss.length := by
    have := congrArg List.length e
    rw [List.length_drop, List.length_map] at this
    omega
  have ht : (E.take n).length = σ.length := by rw [List.length_take]; omega
  rw [hE, rootS_app ht, rootV_app, rootS_own hl2, rootV_some] at l
  obtain ⟨g1, g2, rfl, l1, l2⟩ := l.split (by rw [rootS_len ht]; unfold rootV; rw [List.length_map])
  refine ⟨g2, l2, ?_, fun a m => pm.mem_iff.mpr (List.mem_append_right _ m)⟩
  exact (List.nodup_append.mp (pm.nodup_iff.mp R.nd)).2.1
section
variable {P : Program} {w : World} {mg : Str → Option Value} {base : Heap}
/-- A DEF OF THE TEXT keeps what its body comes to -/
theorem fn_mv {x qual : Str} {st : Stmt} {f : Addr} {fd : FuncData} {N ps : List Str} {k : Nat} {dd : En → Option Out} (Fn : Fun K x qual st f fd) (Sc : FnScope N ps (defScope st))
    (body : ∀ (cdv : Value) (A : Around) (outer : List Env) (s : Shared) (H : Hp) (E : XK) (as : Ro), Room k (A.deeper (envOfC qual (defScope st) s.heap.objs.size f cdv)) →
      ∃ t, PSs (cxOf CX0 P w K mg base N qual (defScope st) f cdv A outer s H E).nox (defBody st) t ∧ ∀ W, EvS K N.length as W t dd) :
    FnOk P w K mg base CX0 (k + 1) f fd ps (spMv K ps.length (fnG N.length dd)) := by
  have hps : ps.length ≤ N.length := by have := congrArg List.length Sc.pre; rw [List.length_take] at this; omega
  refine Fn.ok Sc (fun vs H Q E h => h.1) (fun cdv A outer s H vs Q E hr h => ?_)
  obtain ⟨hl, F, ss, fp, r, ss', sub, l, nd, of, hg, q⟩ := h
  obtain ⟨t, h1, h2⟩ := body cdv A outer s H E (vs.map some) hr
  refine ⟨t, h1, ?_⟩
  have R := Rep.entry (N := N) sub l nd of (by omega)
  have L : (start N vs).length = N.length := by rw [start_eq, List.length_append, List.length_map, List.length_replicate]; omega
  unfold fnG at hg
  split at hg
  · next r' E' hd =>
    obtain ⟨s2, e1, e2⟩ := Option.map_eq_some_iff.mp hg
    cases e2
    refine h2 (fun _ _ _ _ => True) L R hd fun v σ' F' H' fr fp' L' g R' ow nd' of' => ?_
    obtain ⟨fq, l2, n2, sb⟩ := R'.args L' e1
    have nd2 : (fr ++ fq).Nodup := nodup_two (List.nodup_append.mp nd').1 n2 fun a m b m2 => (List.nodup_append.mp nd').2.2 a m b (sb b m2)
    refine q v F' H' fr fq (g.less fun a m => ?_) l2 ow nd2 fun a m => ?_
    · rcases List.mem_append.mp m with m | m
      · exact List.mem_append_left _ m
      · exact List.mem_append_right _ (sb a m)
    · rcases List.mem_append.mp m with m | m
      · exact of' a m
      · exact R'.off a (sb a m)
  · next E' hd =>
    obtain ⟨s2, e1, e2⟩ := Option.map_eq_some_iff.mp hg
    cases e2
    refine h2 (fun _ _ _ _ => True) L R hd fun σ' F' H' fp' L' g R' => ?_
    obtain ⟨fq, l2, n2, sb⟩ := R'.args L' e1
    exact q .non F' H' [] fq (g.less fun a m => sb a (by simpa using m)) l2 (.dat .non) (by simpa using n2) fun a m => R'.off a (sb a (by simpa using m))
  · cases hg
end
end Mv
set_option maxHeartbeats 4000000
namespace Mv
open PySem PySem.Spec PyProof.Rows L2
variable {K : PySem.W.Frag} {F F' F1 F2 H H' H1 H2 : Hp} {v u x y : V} {vs ws : List V} {s t : S} {ss tts : List S} {fp fq fr fp' fp1 fp2 f1 f2 : List Addr} {ρ as : Ro} {E E' : En} {n : Nat}
variable {te ta tb tc : TE} {d da db dc : En → Option Rs} {tr : TA} {dr : En → Option (List Rs)}
def apartAll (p : List Nat) : List Rs → Bool
  | [] => true
  | .pl q :: rs => apart p q && apartAll p rs
  | .val _ :: rs => apartAll p rs
def placesOk : List Rs → Bool
  | [] => true
  | .pl p :: rs => apartAll p rs && placesOk rs
  | .val _ :: rs => placesOk rs
def argS (E : En) : List Rs → Option (List S)
  | [] => some []
  | r :: rs => match r.at E, argS E rs with
    | some s, some ss => some (s :: ss)
    | _, _ => none
def putAll (E : En) : List Rs → List S → En
  | .pl p :: rs, s :: ss => putAll (eput E p s) rs ss
  | .val _ :: rs, _ :: ss => putAll E rs ss
  | _, _ => E
def killAll (E : En) : List Rs → En
  | .pl p :: rs => killAll (ekill E p) rs
  | .val _ :: rs => killAll E rs
  | [] => E
theorem argS_put {p : List Nat} : ∀ {rs : List Rs}, apartAll p rs = true → argS (eput E p t) rs = argS E rs
  | [], _ => rfl
  | .pl q :: rs, h => by
    simp only [apartAll, Bool.and_eq_true] at h
    simp only [argS, Rs.at, eget_apart h.1, argS_put h.2]
  | .val _ :: rs, h => by
    simp only [apartAll] at h
    simp only [argS, Rs.at, argS_put h]
theorem putAll_comm {p : List Nat} : ∀ {rs : List Rs} {ss : List S} {E : En}, apartAll p rs = true → eput (putAll E rs ss) p t = putAll (eput E p t) rs ss
  | [], _, _, _ => by simp [putAll]
  | .pl q :: rs, [], _, _ => by simp [putAll]
  | .val _ :: rs, [], _, _ => by simp [putAll]
  | .pl q :: rs, s :: ss, E, h => by
    simp only [apartAll, Bool.and_eq_true] at h
    simp only [putAll]
    rw [putAll_comm h.2, eput_comm (by rw [apart_symm]; exact h.1)]
  | .val _ :: rs, s :: ss, E, h => by
    simp only [apartAll] at h
    simp only [putAll]
    exact putAll_comm h
theorem eget_putAll {p : List Nat} : ∀ {rs : List Rs} {ss : List S} {E : En}, apartAll p rs = true → eget (putAll E rs ss) p = eget E p
  | [], _, _, _ => by simp [putAll]
  | .pl q :: rs, [], _, _ => by simp [putAll]
  | .val _ :: rs, [], _, _ => by simp [putAll]
  | .pl q :: rs, s :: ss, E, h => by
    simp only [apartAll, Bool.and_eq_true] at h
    simp only [putAll]
    rw [eget_putAll h.2, eget_apart (by rw [apart_symm]; exact h.1)]
  | .val _ :: rs, s :: ss, E, h => by
    simp only [apartAll] at h
    simp only [putAll]
    exact eget_putAll h
theorem eget_ok {p q : List Nat} (hp : eget E p = some s) (hq : (eget E q).isSome = true) (w : within p q = false) : (eget (eput E p t) q).isSome = true := by
  rcases apart_or p q w with e | e | e
  · subst e; rw [eget_eput hp]; rfl
  · rw [eget_apart e]; exact hq
  · have q0 : q ≠ [] := fun z => by rw [z] at hq; cases hq
    exact eget_above q0 e hp
theorem RsAll.there {rs : List Rs} (a : RsAll K F H ρ E vs rs fr) : ∀ b ∈ fr, ∃ o, H b = some o := by
  induction a with
  | nil => exact fun _ m => nomatch m
  | cons h t ih =>
    intro b m
    rcases List.mem_append.mp m with m | m
    · exact h.there b m
    · exact ih b m
theorem RsAll.env {rs : List Rs} (a : RsAll K F H ρ E vs rs fr) (k : ∀ q, Rs.pl q ∈ rs → (eget E' q).isSome = true) : RsAll K F H ρ E' vs rs fr := by
  induction a with
  | nil => exact .nil
  | @cons v vs r rs f g h t ih =>
    refine .cons ?_ (ih fun q m => k q (List.mem_cons_of_mem _ m))
    cases r with
    | val s => exact h
    | pl p => exact ⟨h.1, h.2.1, k p List.mem_cons_self⟩
theorem apartAll_mem {p q : List Nat} : ∀ {rs : List Rs}, apartAll p rs = true → Rs.pl q ∈ rs → apart p q = true
  | .pl r :: rs, h, m => by
    simp only [apartAll, Bool.and_eq_true] at h
    rcases List.mem_cons.mp m with e | m
    · cases e; exact h.1
    · exact apartAll_mem h.2 m
  | .val _ :: rs, h, m => by
    simp only [apartAll] at h
    rcases List.mem_cons.mp m with e | m
    · cases e
    · exact apartAll_mem h m
theorem RsAll.places {rs : List Rs} (a : RsAll K F H ρ E vs rs fr) : ∀ q, Rs.pl q ∈ rs → (eget E q).isSome = true := by
  induction a with
  | nil => exact fun _ m => nomatch m
  | @cons v vs r rs f g h t ih =>
    intro q m
    rcases List.mem_cons.mp m with e | m
    · subst e; exact h.2.2
    · exact ih q m
theorem takeAll : ∀ {rs : List Rs} {vs : List V} {fr : List Addr} {E : En} {fp : List Addr} {ss : List S}, RsAll K F H ρ E vs rs fr → Core K F H ρ E fp → placesOk rs = true → argS E rs = some ss →
    ∃ fa fh E1, OwnL K F H vs ss fa ∧ Core K F H ρ E1 fh ∧ (fr ++ fp).Perm (fa ++ fh) ∧ (∀ q, (eget E q).isSome = true → (∀ p, Rs.pl p ∈ rs → within p q = false) → (eget E1 q).isSome = true) ∧
      ∀ F' H' ss' fa', Core K F' H' ρ E1 fh → OwnL K F' H' vs ss' fa' → ∃ fz fd, Core K F' H' ρ (putAll E rs ss') (fz ++ fh) ∧ fa'.Perm (fz ++ fd)
  | _, _, _, E, fp, _, .nil, c, _, e => by
    cases e
    refine ⟨[], fp, E, .nil, c, by simp, fun q h _ => h, fun F' H' ss' fa' c' l => ?_⟩
    cases l
    exact ⟨[], [], by simpa [putAll] using c', by simp⟩
  | r :: rs, v :: vs, _, E, fp, ss0, .cons (f := f) (g := g) a l, c, ok, e => by
    simp only [argS] at e
    split at e
    · next s ss es ess =>
      cases e
      cases r with
      | val s' =>
        cases es
        simp only [placesOk] at ok
        obtain ⟨fa, fh, E1, o1, c1, pm, keep, close⟩ := takeAll l c ok ess
        refine ⟨f ++ fa, fh, E1, .cons a o1, c1, ?_, fun q h k => keep q h fun p m => k p (List.mem_cons_of_mem _ m), fun F' H' ss' fa' c' l' => ?_⟩
        · rw [List.append_assoc, List.append_assoc]
          exact List.Perm.append_left f pm
        · cases l' with
          | @cons _ _ s2 ss2 k1 k2 a2 l2 =>
            obtain ⟨fz, fd, c2, p2⟩ := close F' H' ss2 k2 c' l2
            refine ⟨fz, k1 ++ fd, by simpa only [putAll] using c2, ?_⟩
            refine (List.Perm.append_left k1 p2).trans ?_
            rw [← List.append_assoc, ← List.append_assoc]
            exact List.Perm.append_right fd List.perm_append_comm
      | pl p =>
        simp only [placesOk, Bool.and_eq_true] at ok
        obtain ⟨a1, a2, a3⟩ := a
        subst a1
        obtain ⟨u, fp1, fp2, e1, o, c1, pm1⟩ := c.take (show eget E p = some s from es)
        rw [a2] at e1
        cases e1
        have l' : RsAll K F H ρ (eput E p (.con v)) vs rs g := l.env fun q m => by
          rw [eget_apart (apartAll_mem ok.1 m)]
          exact l.places q m
        obtain ⟨fa, fh, E1, o1, c2, pm, keep, close⟩ := takeAll l' c1 ok.2 (by rw [argS_put ok.1]; exact ess)
        refine ⟨fp1 ++ fa, fh, E1, .cons o o1, c2, ?_, fun q h k => keep q (eget_ok es h (k p List.mem_cons_self)) fun p m => k p (List.mem_cons_of_mem _ m), fun F' H' ss' fa' c' l2 => ?_⟩
        · -- [] ++ g ++ fp ~ fp1 ++ fa ++ fh
          rw [List.nil_append, List.append_assoc]
          refine (List.Perm.append_left g pm1).trans ?_
          rw [← List.append_assoc]
          refine (List.Perm.append_right fp2 List.perm_append_comm).trans ?_
          rw [List.append_assoc]
          exact List.Perm.append_left fp1 pm
        · cases l2 with
          | @cons _ _ s2 ss2 k1 k2 b2 l2 =>
            obtain ⟨fz, fd, c3, p2⟩ := close F' H' ss2 k2 c' l2
            have hole : eget (putAll (eput E p (.con v)) rs ss2) p = some (.con v) := by
              rw [eget_putAll ok.1, eget_eput es]
            have c4 := c3.put hole b2
            rw [putAll_comm ok.1, eput_eput] at c4
            refine ⟨k1 ++ fz, fd, by rw [List.append_assoc]; simpa only [putAll] using c4, ?_⟩
            rw [List.append_assoc]
            exact List.Perm.append_left k1 p2
    · cases e
theorem killAll_core : ∀ {rs : List Rs} {E : En}, Core K F H ρ E fp → Core K F H ρ (killAll E rs) fp
  | [], _, c => c
  | .pl p :: rs, _, c => killAll_core (rs := rs) (c.kill p)
  | .val _ :: rs, _, c => killAll_core (rs := rs) c
theorem killAll_get : ∀ {rs : List Rs} {E : En} (q : List Nat), eget (killAll E rs) q = eget E q
  | [], _, _ => rfl
  | .pl p :: rs, E, q => by simp only [killAll]; rw [killAll_get q, ekill_get]
  | .val _ :: rs, E, q => by simp only [killAll]; exact killAll_get q
theorem killAll_bor : ∀ {rs : List Rs} {E : En} {i : Nat} {q : List Nat}, (killAll E rs)[i]? = some (Sl.bor q) → E[i]? = some (Sl.bor q) ∧ ∀ p, Rs.pl p ∈ rs → within p q = false
  | [], _, _, _, h => ⟨h, fun _ m => nomatch m⟩
  | .val _ :: rs, E, i, q, h => by
    obtain ⟨h1, h2⟩ := killAll_bor (rs := rs) h
    exact ⟨h1, fun p m => (List.mem_cons.mp m).elim (fun e => nomatch e) (h2 p)⟩
  | .pl p :: rs, E, i, q, h => by
    obtain ⟨h1, h2⟩ := killAll_bor (rs := rs) h
    unfold ekill at h1
    rw [List.getElem?_map] at h1
    cases e : E[i]? with
    | none => rw [e] at h1; cases h1
    | some sl =>
      rw [e] at h1
      cases sl with
      | no => cases h1
      | own w => cases h1
      | bor r =>
        simp only [Option.map_some, kill1, Option.some.injEq] at h1
        cases hw : within p r with
        | true => rw [hw] at h1; simp at h1
        | false =>
          rw [hw] at h1
          simp only [Bool.false_eq_true, if_false, Sl.bor.injEq] at h1
          subst h1
          exact ⟨rfl, fun p' m => (List.mem_cons.mp m).elim (fun e => by cases e; exact hw) (h2 p')⟩
theorem putAll_bor : ∀ {rs : List Rs} {ss : List S} {E : En} {i : Nat} {q : List Nat}, (putAll E rs ss)[i]? = some (Sl.bor q) → E[i]? = some (Sl.bor q)
  | [], _, _, _, _, h => by simpa [putAll] using h
  | .pl _ :: _, [], _, _, _, h => by simpa [putAll] using h
  | .val _ :: _, [], _, _, _, h => by simpa [putAll] using h
  | .val _ :: rs, s :: ss, E, i, q, h => putAll_bor (rs := rs) (ss := ss) (by simpa only [putAll] using h)
  | .pl p :: rs, s :: ss, E, i, q, h => by
    have h1 := putAll_bor (rs := rs) (ss := ss) (by simpa only [putAll] using h)
    cases p with
    | nil => exact h1
    | cons j p =>
      simp only [eput] at h1
      cases e : E[j]? with
      | none => rw [e] at h1; exact h1
      | some sl =>
        rw [e] at h1
        cases sl with
        | own w =>
          dsimp only at h1
          by_cases ij : j = i
          · subst ij
            have hj := (List.getElem?_eq_some_iff.mp e).1
            rw [List.getElem?_set_self hj] at h1
            cases h1
          · rwa [List.getElem?_set_ne ij] at h1
        | no => exact h1
        | bor r => exact h1
def eCall (g : List S → Option (S × List S)) (dr : En → Option (List Rs)) (E : En) : Option (S × En) := match dr E with
  | some rs => if placesOk rs = true then match argS E rs with
      | some ss => match g ss with
        | some (s, ss') => some (s, killAll (putAll E rs ss') rs)
        | none => none
      | none => none
    else none
  | none => none
theorem argS_len : ∀ {rs : List Rs} {ss : List S}, argS E rs = some ss → ss.length = rs.length
  | [], ss, h => by cases h; rfl
  | r :: rs, ss, h => by
    simp only [argS] at h
    split at h
    · next s ss' e1 e2 => cases h; simp only [List.length_cons, argS_len e2]
    · cases h
theorem e_call {m : Nat} {g : List S → Option (S × List S)} {EX : XK} (hr : EvA K n as tr dr) (hm : ∀ E rs, dr E = some rs → rs.length = m) : EvE K n as (tCall (spMv K m g) [] EX tr) (eCall g dr) := by
  intro F H σ E fp L R s E' e Q q
  unfold eCall at e
  split at e
  · next rs ers =>
    split at e
    · next ok =>
      split at e
      · next ss ess =>
        split at e
        · next s' ss' eg =>
          cases e
          refine hr L R ers fun vs F1 H1 fr g1 a nd of => ?_
          have R1 := R.grow g1
          obtain ⟨fa, fh, E1, l, c1, pm, keep, close⟩ := takeAll a R1.core ok ess
          have ndall : (fa ++ fh).Nodup := pm.nodup_iff.mp (R.apart_new g1 nd)
          have memA : ∀ b ∈ fa, b ∈ fr ++ fp := fun b m => pm.mem_iff.mpr (List.mem_append_left _ m)
          have memH : ∀ b ∈ fh, b ∈ fr ++ fp := fun b m => pm.mem_iff.mpr (List.mem_append_right _ m)
          have offAll : ∀ b ∈ fr ++ fp, F1 b = none := fun b m => (List.mem_append.mp m).elim (of b) (R1.off b)
          have dj : ∀ b ∈ fh, b ∉ fa := fun b m1 m2 => (List.nodup_append.mp ndall).2.2 b m2 b m1 rfl
          refine ⟨by rw [List.append_nil, l.length, argS_len ess, hm E rs ers], F1, ss, fa, s, ss', g1.sub, by rw [List.append_nil]; exact l, (List.nodup_append.mp ndall).1, fun b m => offAll b (memA b m), eg, fun v F2 H2 fr2 fa2 g2 l2 ow nd2 of2 => ?_⟩
          rw [List.append_nil] at l2
          have keepH : ∀ b ∈ fh, ∀ o, H1 b = some o → H2 b = some o := fun b m o e => g2.keep b o e (dj b m)
          have c2 := c1.frame g2.f g2.sub keepH
          obtain ⟨fz, fd, c3, pz⟩ := close F2 H2 ss' fa2 c2 l2
          have subz : ∀ b ∈ fz, b ∈ fa2 := fun b m => pz.mem_iff.mpr (List.mem_append_left _ m)
          have thereH : ∀ b ∈ fh, ∃ o, H1 b = some o := c1.there
          have notnew : ∀ b ∈ fh, b ∉ fr2 ++ fa2 := fun b m m2 => by
            obtain ⟨o, eo⟩ := thereH b m
            rcases g2.new b m2 with z | z
            · exact dj b m z
            · rw [eo] at z; cases z
          have ndz : (fz ++ fh).Nodup := by
            have n1 := (List.nodup_append.mp nd2).2.1
            exact nodup_two (List.nodup_append.mp (pz.nodup_iff.mp n1)).1 (List.nodup_append.mp ndall).2.1 fun b m c mc e => by
              subst e
              exact notnew b mc (List.mem_append_right _ (subz b m))
          have R2 : Rep K F2 H2 (σ ++ as) (killAll (putAll E rs ss') rs) (fz ++ fh) := by
            refine ⟨killAll_core c3, g2.sub, ndz, fun b m => ?_, fun i p hb => ?_⟩
            · rcases List.mem_append.mp m with m | m
              · exact of2 b (List.mem_append_right _ (subz b m))
              · obtain ⟨o, eo⟩ := thereH b m
                exact g2.off b (by rw [eo]; exact fun z => nomatch z) (dj b m) (offAll b (memH b m))
            · obtain ⟨hb1, hb2⟩ := killAll_bor hb
              have hb3 := putAll_bor hb1
              obtain ⟨w, k1, k2, k3⟩ := R1.bor i p hb3
              have k4 := keep p k3 hb2
              obtain ⟨t4, ht4⟩ := Option.isSome_iff_exists.mp k4
              refine ⟨w, k1, by rw [c1.follow_keep (fun b o e => g2.sub b o (g2.f b o e)) ht4 keepH]; exact k2, ?_⟩
              rw [killAll_get]
              have go : ∀ (rs : List Rs) (ss : List S) (E : En), (eget E p).isSome = true → (∀ q, Rs.pl q ∈ rs → (eget E q).isSome = true) → placesOk rs = true → (∀ q, Rs.pl q ∈ rs → within q p = false) → (eget (putAll E rs ss) p).isSome = true := by
                intro rs
                induction rs with
                | nil => intro ss E h _ _ _; simpa [putAll] using h
                | cons r rs ih =>
                  intro ss E h hp ok hw
                  cases ss with
                  | nil => cases r <;> simpa [putAll] using h
                  | cons s ss =>
                    cases r with
                    | val _ =>
                      simp only [putAll]
                      exact ih ss E h (fun q m => hp q (List.mem_cons_of_mem _ m)) (by simpa only [placesOk] using ok) fun q m => hw q (List.mem_cons_of_mem _ m)
                    | pl q0 =>
                      simp only [placesOk, Bool.and_eq_true] at ok
                      simp only [putAll]
                      obtain ⟨t0, ht0⟩ := Option.isSome_iff_exists.mp (hp q0 List.mem_cons_self)
                      exact ih ss (eput E q0 s) (eget_ok ht0 h (hw q0 List.mem_cons_self)) (fun q m => by rw [eget_apart (apartAll_mem ok.1 m)]; exact hp q (List.mem_cons_of_mem _ m)) ok.2 fun q m => hw q (List.mem_cons_of_mem _ m)
              exact go rs ss' E k3 a.places ok hb2
          have gg : Grow F H fp F2 H2 (fr2 ++ (fz ++ fh)) := by
            have g1' : Grow F H fp F1 H1 (fa ++ fh) := (g1.ours fp).less fun b m => pm.mem_iff.mpr m
            refine g1'.trans (g2.wide (fun b m => List.mem_append_left _ m) fun b m => ?_)
            rcases List.mem_append.mp m with m | m
            · exact (g2.new b (List.mem_append_left _ m)).imp (fun z => List.mem_append_left _ z) id
            · rcases List.mem_append.mp m with m | m
              · exact (g2.new b (List.mem_append_right _ (subz b m))).imp (fun z => List.mem_append_left _ z) id
              · exact .inl (List.mem_append_right _ m)
          refine q v F2 H2 fr2 (fz ++ fh) gg R2 ow ?_ fun b m => of2 b (List.mem_append_left _ m)
          refine nodup_two (List.nodup_append.mp nd2).1 ndz fun b m c mc e => ?_
          subst e
          rcases List.mem_append.mp mc with mc | mc
          · exact (List.nodup_append.mp nd2).2.2 b m b (subz b mc) rfl
          · exact notnew b mc (List.mem_append_left _ m)
        · cases e
      · cases e
    · cases e
  · cases e
end Mv
set_option maxHeartbeats 4000000
namespace Mv
open PySem PySem.Spec PyProof.Rows L2
variable {K : PySem.W.Frag} {F F' F1 F2 H H' H1 H2 : Hp} {v u x y : V} {vs ws : List V} {s t : S} {ss tts : List S} {fp fq fr fp' fp1 fp2 f1 f2 : List Addr} {ρ as : Ro} {E E' : En} {n : Nat}
variable {te ta tb tc : TE} {d da db dc : En → Option Rs} {tr : TA} {dr : En → Option (List Rs)} {de df : En → Option (S × En)}
def fAdd : PyData → PyData → Option PyData | .int i, .int j => some (.int (i + j)) | _, _ => none
def fMul : PyData → PyData → Option PyData | .int i, .int j => if (-(2 ^ 64) < i ∧ i < 2 ^ 64) ∨ (-(2 ^ 64) < j ∧ j < 2 ^ 64) then some (.int (i * j)) else none | _, _ => none
def fDiv : PyData → PyData → Option PyData | .int i, .int j => if 0 < j ∧ j < 1073741824 then some (.int (i / j)) else none | _, _ => none
def fMod : PyData → PyData → Option PyData | .int i, .int j => if 0 < j then some (.int (i % j)) else none | _, _ => none
def fLt : PyData → PyData → Option PyData | .int i, .int j => some (.bool (decide (i < j))) | _, _ => none
def fLe : PyData → PyData → Option PyData | .int i, .int j => some (.bool (decide (i ≤ j))) | _, _ => none
def fGt : PyData → PyData → Option PyData | .int i, .int j => some (.bool (decide (j < i))) | _, _ => none
theorem rv_int {g : Int → Int → PyData} (h : ∀ i j, isSc (g i j) = true) {f : PyData → PyData → Option PyData} (hf : ∀ a b c, f a b = some c → ∃ i j, a = .int i ∧ b = .int j ∧ c = g i j) {gv : Int → Int → V} (hg : ∀ i j, gv i j = scV (g i j)) : Rv2 K (rI0 gv) f := by
  intro H x y a b c ha hb e Q q
  obtain ⟨i, j, rfl, rfl, rfl⟩ := hf a b c e
  cases ha; cases hb
  exact ⟨i, j, rfl, rfl, by rw [hg]; exact q (h i j)⟩
theorem rv_add : Rv2 K (rI0 fun i j => .int (i + j)) fAdd := rv_int (g := fun i j => .int (i + j)) (fun _ _ => rfl) (fun a b c e => by unfold fAdd at e; split at e <;> cases e; exact ⟨_, _, rfl, rfl, rfl⟩) fun _ _ => rfl
theorem rv_lt : Rv2 K (rI0 fun i j => .bl (decide (i < j))) fLt := rv_int (g := fun i j => .bool (decide (i < j))) (fun _ _ => rfl) (fun a b c e => by unfold fLt at e; split at e <;> cases e; exact ⟨_, _, rfl, rfl, rfl⟩) fun _ _ => rfl
theorem rv_le : Rv2 K (rI0 fun i j => .bl (decide (i ≤ j))) fLe := rv_int (g := fun i j => .bool (decide (i ≤ j))) (fun _ _ => rfl) (fun a b c e => by unfold fLe at e; split at e <;> cases e; exact ⟨_, _, rfl, rfl, rfl⟩) fun _ _ => rfl
theorem rv_gt : Rv2 K (rI0 fun i j => .bl (decide (j < i))) fGt := rv_int (g := fun i j => .bool (decide (j < i))) (fun _ _ => rfl) (fun a b c e => by unfold fGt at e; split at e <;> cases e; exact ⟨_, _, rfl, rfl, rfl⟩) fun _ _ => rfl
theorem rv_mul : Rv2 K (rI CMul fun i j => .int (i * j)) fMul := by
  intro H x y a b c ha hb e Q q
  unfold fMul at e
  split at e
  · next i j =>
    split at e
    · next h =>
      cases e
      cases ha; cases hb
      exact ⟨i, j, rfl, rfl, h, q rfl⟩
    · cases e
  · cases e
theorem rv_mod : Rv2 K (rI (fun _ j => 0 < j) fun i j => .int (i % j)) fMod := by
  intro H x y a b c ha hb e Q q
  unfold fMod at e
  split at e
  · next i j =>
    split at e
    · next h =>
      cases e
      cases ha; cases hb
      exact ⟨i, j, rfl, rfl, h, q rfl⟩
    · cases e
  · cases e
/-- x == y without parts: of which kinds -/
def fEqS : PyData → PyData → Option PyData
  | .none, .none => some (.bool true)
  | .none, .int _ => some (.bool false) | .int _, .none => some (.bool false)
  | .none, .bool _ => some (.bool false) | .bool _, .none => some (.bool false)
  | .none, .str _ => some (.bool false) | .str _, .none => some (.bool false)
  | .int i, .int j => some (.bool (decide (i = j)))
  | .bool i, .bool j => some (.bool (decide (i = j)))
  | .str i, .str j => some (.bool (decide (i = j)))
  | _, _ => none
def fNeS (a b : PyData) : Option PyData := match fEqS a b with
  | some (.bool k) => some (.bool (!k))
  | _ => none
theorem eqS_of {a b c : PyData} {x y : V} (ha : Dq K H x a) (hb : Dq K H y b) (e : fEqS a b = some c) : scal x y = true ∧ c = .bool (decide (x = y)) := by
  unfold fEqS at e
  split at e <;> cases e <;> cases ha <;> cases hb <;> first | (exact ⟨rfl, rfl⟩) | (refine ⟨rfl, ?_⟩; simp)
theorem rv_eq : Rv2 K rEq fEqS := by
  intro H x y a b c ha hb e Q q
  obtain ⟨h1, rfl⟩ := eqS_of ha hb e
  exact ⟨h1, q rfl⟩
theorem rv_ne : Rv2 K rNe fNeS := by
  intro H x y a b c ha hb e Q q
  unfold fNeS at e
  split at e
  · next k ek =>
    cases e
    obtain ⟨h1, h2⟩ := eqS_of ha hb ek
    cases h2
    exact ⟨h1, q rfl⟩
  · cases e
def fEqD (a b : PyData) : Option PyData := if SeqAt.shaped a = true ∧ SeqAt.shaped b = true then some (.bool (PyData.eqv a b)) else none
theorem rv_eqD : Rv2 K (rEqD K) fEqD := by
  intro H x y a b c ha hb e Q q
  unfold fEqD at e
  split at e
  · next h => cases e; exact ⟨a, b, ha.dp, hb.dp, h.1, h.2, q rfl⟩
  · cases e
def isNone : PyData → Bool | .none => true | _ => false
def fIsN (a b : PyData) : Option PyData := if isNone b then some (.bool (isNone a)) else none
def fNotN (a b : PyData) : Option PyData := if isNone b then some (.bool (!isNone a)) else none
theorem none_of {a : PyData} (ha : Dq K H x a) : decide (x = .non) = isNone a := by
  cases ha <;> simp [isNone]
theorem rv_isN : Rv2 K (fun x y H Q => y = V.non ∧ Q (.bl (decide (x = .non))) H) fIsN := by
  intro H x y a b c ha hb e Q q
  unfold fIsN at e
  split at e
  · next h =>
    cases e
    cases b <;> first | (cases hb; exact ⟨rfl, by rw [none_of ha]; exact q rfl⟩) | cases h
  · cases e
theorem rv_notN : Rv2 K (fun x y H Q => y = V.non ∧ Q (.bl (!decide (x = .non))) H) fNotN := by
  intro H x y a b c ha hb e Q q
  unfold fNotN at e
  split at e
  · next h =>
    cases e
    cases b <;> first | (cases hb; exact ⟨rfl, by rw [none_of ha]; exact q rfl⟩) | cases h
  · cases e
def dNeg (d : En → Option Rs) (E : En) : Option Rs := match d E with
  | some (.val (.dat (.int i))) => some (.val (.dat (.int (-i))))
  | _ => none
theorem p_neg (h : EvP K n as te d) : EvP K n as (tUn (rU fun i => .int (-i)) te) (dNeg d) := by
  intro F H σ E fp L R r e Q q
  unfold dNeg at e
  split at e
  · next i ed =>
    cases e
    refine h L R ed fun v F1 H1 f1 g1 r1 n1 o1 => ?_
    cases (Own.dat_inv (show Own K F1 H1 v _ f1 from r1) rfl).1
    exact ⟨i, rfl, q _ F1 H1 [] g1.drop (.dat (.int _)) List.nodup_nil (fun _ m => nomatch m)⟩
  · cases e
theorem Own.after (o : Own K F H v s fr) (g : Grow F H fp F' H' fp') (d : ∀ a ∈ fr, a ∉ fp) : Own K F' H' v s fr := o.grow g d
theorem apartN (nd : (fr ++ fp).Nodup) : ∀ a ∈ fr, a ∉ fp := fun a m m2 => (List.nodup_append.mp nd).2.2 a m a m2 rfl
def eOp (f : PyData → PyData → Option PyData) (da db : En → Option (S × En)) (E : En) : Option (S × En) := match da E with
  | some (a, E1) => match db E1 with
    | some (b, E2) => match a.toD, b.toD with
      | some a, some b => (f a b).map fun c => (.dat c, E2)
      | _, _ => none
    | none => none
  | none => none
theorem e_op {r : R2} {f : PyData → PyData → Option PyData} (hr : Rv2 K r f) (ha : EvE K n as ta de) (hb : EvE K n as tb df) : EvE K n as (tOp r ta tb) (eOp f de df) := by
  intro F H σ E fp L R s E' e Q q
  unfold eOp at e
  split at e
  · next a E1 ea =>
    split at e
    · next b E2 eb =>
      split at e
      · next a' b' ea' eb' =>
        obtain ⟨c, ec, e2⟩ := Option.map_eq_some_iff.mp e
        cases e2
        refine ha L R ea fun x F1 H1 fr1 fp1 g1 R1 o1 nd1 of1 => hb L R1 eb fun y F2 H2 fr2 fp2 g2 R2 o2 nd2 of2 => ?_
        have o1' := o1.grow g2 (apartN nd1)
        refine hr (Own.dp R2.sub a o1' ea') (Own.dp R2.sub b o2 eb') ec fun hc => ?_
        have g12 : Grow F H fp F2 H2 fp2 := (g1.less (fun a m => List.mem_append_right _ m)).trans (g2.less fun a m => List.mem_append_right _ m)
        exact q _ F2 H2 [] fp2 g12 R2 (.dat (scV_dp hc)) R2.nd (fun _ m => nomatch m)
      · cases e
    · cases e
  · cases e
def eAndV (da db : En → Option (S × En)) (E : En) : Option (S × En) := match da E with
  | some (.dat (.bool true), E') => db E'
  | some (.dat (.bool false), E') => some (.dat (.bool false), E')
  | _ => none
def eOrV (da db : En → Option (S × En)) (E : En) : Option (S × En) := match da E with
  | some (.dat (.bool false), E') => db E'
  | some (.dat (.bool true), E') => some (.dat (.bool true), E')
  | _ => none
theorem e_andV (ha : EvE K n as ta de) (hb : EvE K n as tb df) : EvE K n as (tAndV ta tb) (eAndV de df) := by
  intro F H σ E fp L R s E' e Q q
  unfold eAndV at e
  split at e
  · next E1 ea =>
    refine ha L R ea fun x F1 H1 fr1 fp1 g1 R1 o1 nd1 of1 => ?_
    cases (o1.dat_inv rfl).1
    have g1' := g1.less (fr := fp1) fun a m => List.mem_append_right _ m
    exact ⟨true, rfl, iteT (hb L R1 e fun y F2 H2 fr2 fp2 g2 R2 o2 nd2 of2 => q y F2 H2 fr2 fp2 (g1'.trans g2) R2 o2 nd2 of2)⟩
  · next E1 ea =>
    cases e
    refine ha L R ea fun x F1 H1 fr1 fp1 g1 R1 o1 nd1 of1 => ?_
    cases (o1.dat_inv rfl).1
    exact ⟨false, rfl, iteF (q _ F1 H1 [] fp1 (g1.less fun a m => List.mem_append_right _ m) R1 (.dat (.bl false)) R1.nd (fun _ m => nomatch m))⟩
  · cases e
theorem e_orV (ha : EvE K n as ta de) (hb : EvE K n as tb df) : EvE K n as (tOrV ta tb) (eOrV de df) := by
  intro F H σ E fp L R s E' e Q q
  unfold eOrV at e
  split at e
  · next E1 ea =>
    refine ha L R ea fun x F1 H1 fr1 fp1 g1 R1 o1 nd1 of1 => ?_
    cases (o1.dat_inv rfl).1
    have g1' := g1.less (fr := fp1) fun a m => List.mem_append_right _ m
    exact ⟨false, rfl, iteF (hb L R1 e fun y F2 H2 fr2 fp2 g2 R2 o2 nd2 of2 => q y F2 H2 fr2 fp2 (g1'.trans g2) R2 o2 nd2 of2)⟩
  · next E1 ea =>
    cases e
    refine ha L R ea fun x F1 H1 fr1 fp1 g1 R1 o1 nd1 of1 => ?_
    cases (o1.dat_inv rfl).1
    exact ⟨true, rfl, iteT (q _ F1 H1 [] fp1 (g1.less fun a m => List.mem_append_right _ m) R1 (.dat (.bl true)) R1.nd (fun _ m => nomatch m))⟩
  · cases e
inductive Ty where
  | non | bool | int | str | list | tuple | dict
  deriving DecidableEq
def Ty.name : Ty → String
  | .non => "NoneType" | .bool => "bool" | .int => "int" | .str => "str" | .list => "list" | .tuple => "tuple" | .dict => "dict"
def Ty.sub : Ty → Ty → Bool
  | .bool, .int => true
  | a, b => decide (a = b)
theorem Ty.kit : ∀ a b : Ty, kitB a.name b.name = some (a.sub b) := by
  intro a b
  cases a <;> cases b <;> decide +kernel
def tyName : S → Option Ty
  | .dat .none => some .non | .dat (.bool _) => some .bool | .dat (.int _) => some .int | .dat (.str _) => some .str
  | .dat (.list _) => some .list | .dat (.tuple _) => some .tuple
  | .lst _ => some .list | .dct false _ => some .dict
  | _ => none
theorem tyX_of (sub : ∀ a o, F a = some o → H a = some o) (o : Own K F H v s fp) {T : Ty} (h : tyName s = some T) : TyX K H v (.type T.name) := by
  cases s with
  | dat d =>
    have dp := (o.dat_inv rfl).1
    cases d with
    | none => cases h; cases dp; exact .base .non
    | bool b => cases h; cases dp; exact .base (.bl b)
    | int i => cases h; cases dp; exact .base (.int i)
    | str x => cases h; cases dp; exact .base (.str x)
    | list ds =>
      cases h
      obtain ⟨a, xs, rfl, hq, _⟩ := Mv.Dq.list_inv dp
      rcases hq with (hq | ⟨ob, hq⟩) | ⟨ob, its, k, hk, hc, _⟩
      · exact .base (.lst (sub _ _ hq))
      · exact .base (.frz (sub _ _ hq))
      · exact .kList hk hc
    | tuple ds =>
      cases h
      obtain ⟨a, xs, rfl, hq, _⟩ := Mv.Dq.tuple_inv dp
      rcases hq with (hq | ⟨ob, hq⟩) | ⟨ob, its, k, hk, hc, _⟩
      · exact .base (.tup (sub _ _ hq))
      · exact .fTuple (sub _ _ hq)
      · exact .kTuple hk hc
    | dict kvs => cases h
  | con w => cases h
  | ext w => cases h
  | lst xs =>
    cases h
    obtain ⟨a, vs, fq, rfl, hH, _⟩ := o.lst_inv rfl
    exact .base (.lst hH)
  | dct l kvs =>
    cases l with
    | true => cases h
    | false =>
      cases h
      cases o with
      | @node a ob _ ex fq hh hd _ =>
        cases ob with
        | dK k => exact .base (.dK hh)
        | frz o u => cases u <;> exact hd.elim
        | _ => exact hd.elim
  | ins C fs => cases h
def dIsi (T : Ty) (d : En → Option Rs) (E : En) : Option Rs := match d E with
  | some r => match (r.at E).bind tyName with
    | some U => some (.val (.dat (.bool (U.sub T))))
    | none => none
  | none => none
theorem p_isi {T : Ty} (h : EvP K n as te d) : EvP K n as (tCB (rIsi K) (tCons te (tCons (tC (.ty T.name)) tNil))) (dIsi T d) := by
  intro F H σ E fp L R r e Q q
  unfold dIsi at e
  split at e
  · next r1 ed =>
    split at e
    · next U eU =>
      cases e
      obtain ⟨s, hs, hT⟩ := Option.bind_eq_some_iff.mp eU
      refine h L R ed fun v F1 H1 f1 g1 a1 n1 o1 => ?_
      obtain ⟨fq, ow⟩ := a1.own (R.grow g1) hs
      exact ⟨v, .ty T.name, .type U.name, .type T.name, U.sub T, rfl, .ty T.name, tyX_of g1.sub ow hT, kit_ty (Ty.kit U T), q _ F1 H1 [] g1.drop (.dat (.bl _)) List.nodup_nil (fun _ m => nomatch m)⟩
    · cases e
  · cases e
def lenS : S → Option Nat
  | .lst ss => some ss.length
  | .dat (.list ds) => some ds.length
  | .dat (.tuple ds) => some ds.length
  | _ => none
def dLen (d : En → Option Rs) (E : En) : Option Rs := match d E with
  | some r => ((r.at E).bind lenS).map fun k => .val (.dat (.int (k : Nat)))
  | none => none
theorem len_of (sub : ∀ a o, F a = some o → H a = some o) (o : Own K F H v s fp) {k : Nat} (h : lenS s = some k) : ∃ a xs, v = .ref a ∧ (SqL K H a xs ∨ SqT K H a xs) ∧ xs.length = k := by
  cases s with
  | lst ss =>
    cases h
    obtain ⟨a, vs, fq, rfl, hH, l, _⟩ := o.lst_inv rfl
    exact ⟨a, vs, rfl, .inl (.inl (.inl hH)), l.length⟩
  | dat d => cases d with
    | list ds =>
      cases h
      obtain ⟨a, xs, rfl, hq, da⟩ := Mv.Dq.list_inv (o.dat_inv rfl).1
      exact ⟨a, xs, rfl, .inl (SqL.mono sub hq), Mv.DqAll.len da⟩
    | tuple ds =>
      cases h
      obtain ⟨a, xs, rfl, hq, da⟩ := Mv.Dq.tuple_inv (o.dat_inv rfl).1
      exact ⟨a, xs, rfl, .inr (SqT.mono sub hq), Mv.DqAll.len da⟩
    | _ => cases h
  | con w => cases h
  | ext w => cases h
  | dct l kvs => cases h
  | ins C fs => cases h
theorem p_len (h : EvP K n as te d) : EvP K n as (tCB (fun xs H Q => ∃ p ys, xs = [.ref p] ∧ (SqL K H p ys ∨ SqT K H p ys) ∧ Q (.int ys.length) H) (tCons te tNil)) (dLen d) := by
  intro F H σ E fp L R r e Q q
  unfold dLen at e
  split at e
  · next r1 ed =>
    obtain ⟨k, hk, rfl⟩ := Option.map_eq_some_iff.mp e
    obtain ⟨s, hs, hl⟩ := Option.bind_eq_some_iff.mp hk
    refine h L R ed fun v F1 H1 f1 g1 a1 n1 o1 => ?_
    obtain ⟨fq, ow⟩ := a1.own (R.grow g1) hs
    obtain ⟨a, xs, rfl, hq, hx⟩ := len_of g1.sub ow hl
    exact ⟨a, xs, rfl, hq, by rw [hx]; exact q _ F1 H1 [] g1.drop (.dat (.int _)) List.nodup_nil (fun _ m => nomatch m)⟩
  · cases e
/-- a built-in call upon data, the answer without parts -/
def RvC (K : PySem.W.Frag) (r : List V → Hp → VK → Prop) (f : List PyData → Option PyData) : Prop :=
  ∀ {H : Hp} {vs : List V} {ds : List PyData} {c : PyData}, DqAll K H vs ds → f ds = some c → ∀ {Q : VK}, (isSc c = true → Q (scV c) H) → r vs H Q
def fulls (E : En) : List Rs → Option (List PyData)
  | [] => some []
  | r :: rs => match r.full E, fulls E rs with
    | some d, some ds => some (d :: ds)
    | _, _ => none
theorem RsAll.dps {rs : List Rs} {ds : List PyData} (R : Rep K F H ρ E fp) (a : RsAll K F H ρ E vs rs fr) (h : fulls E rs = some ds) : DqAll K H vs ds := by
  induction a generalizing ds with
  | nil => cases h; exact .nil
  | @cons v vs r rs f g a t ih =>
    simp only [fulls] at h
    split at h
    · next d ds' e1 e2 => cases h; exact .cons (a.dp R e1) (ih e2)
    · cases h
def dCB (f : List PyData → Option PyData) (dr : En → Option (List Rs)) (E : En) : Option Rs := match dr E with
  | some rs => match fulls E rs with
    | some ds => (f ds).map fun c => .val (.dat c)
    | none => none
  | none => none
theorem p_cb {r : List V → Hp → VK → Prop} {f : List PyData → Option PyData} (hr : RvC K r f) (h : EvA K n as tr dr) : EvP K n as (tCB r tr) (dCB f dr) := by
  intro F H σ E fp L R r1 e Q q
  unfold dCB at e
  split at e
  · next rs er =>
    split at e
    · next ds eds =>
      obtain ⟨c, ec, rfl⟩ := Option.map_eq_some_iff.mp e
      refine h L R er fun vs F1 H1 f1 g1 a1 n1 o1 => hr (a1.dps (R.grow g1) eds) ec fun hc => ?_
      exact q _ F1 H1 [] g1.drop (.dat (scV_dp hc)) List.nodup_nil (fun _ m => nomatch m)
    · cases e
  · cases e
def eCB1 (f : List PyData → Option PyData) (d : En → Option (S × En)) (E : En) : Option (S × En) := match d E with
  | some (s, E') => match s.toD with
    | some a => (f [a]).map fun c => (.dat c, E')
    | none => none
  | none => none
theorem e_cb1 {r : List V → Hp → VK → Prop} {f : List PyData → Option PyData} (hr : RvC K r f) (h : EvE K n as te de) : EvE K n as (tCB r (tCons te tNil)) (eCB1 f de) := by
  intro F H σ E fp L R s E' e Q q
  unfold eCB1 at e
  split at e
  · next s1 E1 ed =>
    split at e
    · next a ea =>
      obtain ⟨c, ec, e2⟩ := Option.map_eq_some_iff.mp e
      cases e2
      refine h L R ed fun v F1 H1 fr fp1 g1 R1 o1 nd1 of1 => hr (.cons (Own.dp R1.sub s1 o1 ea) .nil) ec fun hc => ?_
      exact q _ F1 H1 [] fp1 (g1.less fun a m => List.mem_append_right _ m) R1 (.dat (scV_dp hc)) R1.nd (fun _ m => nomatch m)
    · cases e
  · cases e
def boolsD : List PyData → Option (List Bool)
  | [] => some []
  | .bool b :: ds => (boolsD ds).map (b :: ·)
  | _ => none
theorem boolsD_dp : ∀ {ds : List PyData} {xs : List V} {ns : List Bool}, DqAll K H xs ds → boolsD ds = some ns → xs = ns.map V.bl
  | [], _, _, .nil, e => by cases e; rfl
  | .bool i :: ds, _, _, .cons (.bl _) t, e => by
    simp only [boolsD] at e
    obtain ⟨r, hr, rfl⟩ := Option.map_eq_some_iff.mp e
    rw [List.map_cons, boolsD_dp t hr]
  | .none :: _, _, _, _, e => by simp [boolsD] at e
  | .int _ :: _, _, _, _, e => by simp [boolsD] at e
  | .str _ :: _, _, _, _, e => by simp [boolsD] at e
  | .list _ :: _, _, _, _, e => by simp [boolsD] at e
  | .tuple _ :: _, _, _, _, e => by simp [boolsD] at e
  | .dict _ :: _, _, _, _, e => by simp [boolsD] at e
def fAll : List PyData → Option PyData
  | [.list ds] => (boolsD ds).map fun bs => .bool (bs.all id)
  | _ => none
def fInt : List PyData → Option PyData
  | [.int i] => some (.int i)
  | [.bool b] => some (.int (if b then 1 else 0))
  | _ => none
end Mv
set_option maxHeartbeats 4000000
namespace Mv
open PySem PySem.Spec PyProof.Rows L2
variable {K : PySem.W.Frag} {F F' F1 F2 H H' H1 H2 : Hp} {v u x y : V} {vs ws : List V} {s t : S} {ss tts : List S} {fp fq fr fp' fp1 fp2 f1 f2 : List Addr} {ρ as : Ro} {E E' : En} {n : Nat}
variable {te ta tb tc : TE} {d da db dc : En → Option Rs} {tr : TA} {dr : En → Option (List Rs)} {de df : En → Option (S × En)}
theorem rc_all : RvC K (rAll K) fAll := by
  intro H vs ds c hd e Q q
  unfold fAll at e
  split at e
  · next ds =>
    obtain ⟨ns, hn, rfl⟩ := Option.map_eq_some_iff.mp e
    cases hd with
    | cons h t =>
      cases t
      obtain ⟨a, xs, rfl, hq, da⟩ := Mv.Dq.list_inv h
      exact ⟨a, ns, rfl, by rw [← boolsD_dp da hn]; exact hq, q rfl⟩
  · cases e
theorem rc_int : RvC K (fun xs H Q => (∃ i, xs = [.int i] ∧ Q (.int i) H) ∨ ∃ k, xs = [.bl k] ∧ Q (.int (if k then 1 else 0)) H) fInt := by
  intro H vs ds c hd e Q q
  unfold fInt at e
  split at e <;> cases e
  · cases hd with
    | cons h t => cases t; cases h; exact .inl ⟨_, rfl, q rfl⟩
  · cases hd with
    | cons h t => cases t; cases h; exact .inr ⟨_, rfl, q rfl⟩
end Mv
set_option maxHeartbeats 4000000
namespace Mv
open PySem PySem.Spec PyProof.Rows L2
variable {K : PySem.W.Frag} {F F' F1 F2 H H' H1 H2 : Hp} {v u x y : V} {vs ws : List V} {s t : S} {ss tts : List S} {fp fq fr fp' fp1 fp2 f1 f2 : List Addr} {ρ as : Ro} {E E' : En} {n : Nat}
variable {W : WXm} {te ta tb tc : TE} {d da db dc : En → Option Rs} {tr : TA} {dr : En → Option (List Rs)} {de df : En → Option (S × En)}
def EvG (K : PySem.W.Frag) (n : Nat) (g : TG) (bd : Rs → En → Option En) : Prop :=
  ∀ {as : Ro} {F H : Hp} {σ : L2.St} {E E' : En} {fp : List Addr} {v : V} {r : Rs}, σ.length = n → Rep K F H (σ ++ as) E fp → RsAt K F H (σ ++ as) E v r [] → bd r E = some E' → ∀ {Q : L2.St → Hp → Prop},
    (∀ (σ' : L2.St) F' H' fp', σ'.length = n → Grow F H fp F' H' fp' → Rep K F' H' (σ' ++ as) E' fp' → Q σ' H') → g v σ H Q
def bName (i : Nat) (r : Rs) (E : En) : Option En := match r with
  | .val s => some (slotSet E i (.own s))
  | .pl p => if p.head? = some i then none else some (slotSet E i (.bor p))
theorem g_name {i : Nat} (hi : i < n) : EvG K n (gName i) (bName i) := by
  intro as F H σ E E' fp v r L R a e Q q
  have hl : i < (σ ++ as).length := by rw [List.length_append]; omega
  cases r with
  | val s =>
    cases e
    obtain ⟨fq, R2, sb⟩ := R.setSlot (e := .own s) (fr := []) hl a R.nd (fun _ m => nomatch m)
    exact q _ F H fq (by rw [List.length_set]; exact L) ((Grow.refl R.sub fp).less fun a m => by simpa using sb a m) (by rw [set_app (by omega)]; exact R2)
  | pl p =>
    unfold bName at e
    dsimp only at e
    split at e
    · cases e
    · next hp =>
      cases e
      obtain ⟨a1, a2, a3⟩ := a
      obtain ⟨fq, R2, sb⟩ := R.setSlot (e := .bor p) (fr := []) hl ⟨rfl, hp, a2, a3⟩ R.nd (fun _ m => nomatch m)
      exact q _ F H fq (by rw [List.length_set]; exact L) ((Grow.refl R.sub fp).less fun a m => by simpa using sb a m) (by rw [set_app (by omega)]; exact R2)
/-- several, of data -/
def EvGs (K : PySem.W.Frag) (n : Nat) (g : TGs) (bd : List PyData → En → Option En) : Prop :=
  ∀ {as : Ro} {F H : Hp} {σ : L2.St} {E E' : En} {fp : List Addr} {vs : List V} {ds : List PyData}, σ.length = n → Rep K F H (σ ++ as) E fp → DqAll K F vs ds → bd ds E = some E' → ∀ {Q : L2.St → Hp → Prop},
    (∀ (σ' : L2.St) F' H' fp', σ'.length = n → Grow F H fp F' H' fp' → Rep K F' H' (σ' ++ as) E' fp' → Q σ' H') → g vs σ H Q
def bNil (ds : List PyData) (E : En) : Option En := match ds with
  | [] => some E
  | _ => none
def bCons (b : Rs → En → Option En) (bs : List PyData → En → Option En) (ds : List PyData) (E : En) : Option En := match ds with
  | d :: ds => match b (.val (.dat d)) E with
    | some E1 => bs ds E1
    | none => none
  | [] => none
def bTup (k : Nat) (bs : List PyData → En → Option En) (r : Rs) (E : En) : Option En := match r with
  | .val (.dat (.tuple ds)) => if ds.length = k then bs ds E else none
  | _ => none
theorem gs_nil : EvGs K n gNil bNil := by
  intro as F H σ E E' fp vs ds L R a e Q q
  cases a with
  | nil => cases e; exact ⟨rfl, q σ F H fp L (.refl R.sub fp) R⟩
  | cons _ _ => cases e
theorem gs_cons {g : TG} {gs : TGs} {b : Rs → En → Option En} {bs : List PyData → En → Option En} (hg : EvG K n g b) (hs : EvGs K n gs bs) : EvGs K n (gCons g gs) (bCons b bs) := by
  intro as F H σ E E' fp vs ds L R a e Q q
  cases a with
  | nil => cases e
  | @cons v vs d ds h t =>
    simp only [bCons] at e
    split at e
    · next E1 e1 =>
      exact ⟨v, vs, rfl, hg L R (r := .val (.dat d)) (Own.dat h) e1 fun σ1 F1 H1 fp1 L1 g1 R1 => hs L1 R1 (DqAll.mono g1.f t) e fun σ2 F2 H2 fp2 L2 g2 R2 => q σ2 F2 H2 fp2 L2 (g1.trans g2) R2⟩
    · cases e
theorem g_tup {gs : TGs} {bs : List PyData → En → Option En} {k : Nat} (hs : EvGs K n gs bs) : EvG K n (gTup K k gs) (bTup k bs) := by
  intro as F H σ E E' fp v r L R a e Q q
  unfold bTup at e
  split at e
  · next ds =>
    split at e
    · next hk =>
      obtain ⟨ad, xs, rfl, hq, da⟩ := Mv.Dq.tuple_inv ((show Own K F H v _ [] from a).dat_inv rfl).1
      exact ⟨ad, xs, rfl, SqT.mono R.sub hq, (Mv.DqAll.len da).trans hk, hs L R da e q⟩
    · cases e
  · cases e
/-- a target gets a value -/
def dAsg (b : Rs → En → Option En) (d : En → Option (S × En)) (E : En) : Option Out := match d E with
  | some (.dat x, E') => (b (.val (.dat x)) E').map .nx
  | _ => none
theorem s_asg {g : TG} {b : Rs → En → Option En} (hg : EvG K n g b) (h : EvE K n as te de) : EvS K n as W (tAsg te g) (dAsg b de) := by
  intro F H σ E fp L R o e D gg
  unfold dAsg at e
  split at e
  · next x E' ed =>
    obtain ⟨E2, e2, rfl⟩ := Option.map_eq_some_iff.mp e
    refine h L R ed fun v F1 H1 fr fp1 g1 R1 ow nd of => ?_
    exact hg L R1 (r := .val (.dat x)) (Own.dat (ow.dat_inv rfl).1) e2 fun σ2 F2 H2 fp2 L2 g2 R2 => gg σ2 F2 H2 fp2 L2 ((g1.less fun a m => List.mem_append_right _ m).trans g2) R2
  · cases e
theorem Grow.mine (g : Grow F H [] F' H' fr) : Grow F H fp F' H' fp := (g.ours fp).less fun a m => List.mem_append_right _ m
structure Src where
  /-- what stands behind it -/
  env : En
  /-- roots more, that hold what is walked -/
  exE : En
  /-- item i, if there is one; none: stuck -/
  rd : En → Nat → Option (Option Rs)
  fuel : Nat
def EvI (K : PySem.W.Frag) (n : Nat) (as : Ro) (wi : TI) (src : En → Option Src) : Prop :=
  ∀ {F H : Hp} {σ : L2.St} {E : En} {fp : List Addr}, σ.length = n → Rep K F H (σ ++ as) E fp → ∀ {c : Src}, src E = some c → ∀ {R : It → Hp → Prop},
    (∀ (J : It) F1 H1 (ex : List V) fp1, Grow F H fp F1 H1 fp1 → Rep K F1 H1 (σ ++ (as ++ ex.map some)) (c.env ++ c.exE) fp1 → ex.length = c.exE.length →
      (∀ F2 H2 (σ2 : L2.St) E2 fp2, σ2.length = n → Grow F1 H1 fp1 F2 H2 fp2 → Rep K F2 H2 (σ2 ++ (as ++ ex.map some)) E2 fp2 → ∀ i,
        (∀ r, c.rd E2 i = some (some r) → J.go i H2 ∧ ∀ x H', J.yld i H2 x H' → H' = H2 ∧ RsAt K F2 H2 (σ2 ++ (as ++ ex.map some)) E2 x r []) ∧ (c.rd E2 i = some none → J.stop i H2)) → R J H1) → wi σ H R
def rdD (ds : List PyData) (_ : En) (i : Nat) : Option (Option Rs) := some ((ds[i]?).map fun d => .val (.dat d))
/-- range(k) -/
def iRange (d : En → Option Rs) (E : En) : Option Src := match d E with
  | some (.val (.dat (.int j))) => if j < 2 ^ 62 ∧ -(2 ^ 62) ≤ j then some ⟨E, [], fun _ i => some (if i < j.toNat then some (.val (.dat (.int (i : Nat)))) else none), j.toNat⟩ else none
  | _ => none
theorem i_range (h : EvP K n as te d) : EvI K n as (iRng1 (tCons te tNil)) (iRange d) := by
  intro F H σ E fp L R c e Rr q
  unfold iRange at e
  split at e
  · next j ed =>
    split at e
    · next hj =>
      cases e
      refine h L R ed fun v F1 H1 f1 g1 a1 n1 o1 => ?_
      cases (Own.dat_inv (show Own K F1 H1 v _ f1 from a1) rfl).1
      refine ⟨j, rfl, hj.2, hj.1, q _ F1 H1 [] fp g1.mine (by simpa using R.grow g1) rfl fun F2 H2 σ2 E2 fp2 L2 g2 R2 i => ⟨fun r hr => ?_, fun hr => ?_⟩⟩
      · have hr := Option.some.inj hr
        by_cases hi : i < j.toNat
        · rw [if_pos hi] at hr
          cases hr
          refine ⟨hi, fun x H' hy => ⟨hy.1, ?_⟩⟩
          rw [hy.2]
          have : (0 : Int) + (i : Int) = ((i : Nat) : Int) := by omega
          rw [this]
          exact .dat (.int _)
        · rw [if_neg hi] at hr; cases hr
      · have hr := Option.some.inj hr
        by_cases hi : i < j.toNat
        · rw [if_pos hi] at hr; cases hr
        · exact Nat.le_of_not_lt hi
    · cases e
  · cases e
def datsS : List S → Option (List PyData)
  | [] => some []
  | .dat d :: ss => (datsS ss).map (d :: ·)
  | _ => none
theorem datsS_dp : ∀ {ss : List S} {vs : List V} {fp : List Addr} {ds : List PyData}, OwnL K F H vs ss fp → datsS ss = some ds → DqAll K F vs ds ∧ fp = []
  | [], _, _, _, .nil, e => by cases e; exact ⟨.nil, rfl⟩
  | .dat d :: ss, _, _, _, .cons a l, e => by
    simp only [datsS] at e
    obtain ⟨r, hr, rfl⟩ := Option.map_eq_some_iff.mp e
    obtain ⟨h1, h2⟩ := a.dat_inv rfl
    obtain ⟨h3, h4⟩ := datsS_dp l hr
    subst h2 h4
    exact ⟨.cons h1 h3, rfl⟩
  | .con _ :: _, _, _, _, _, e => by simp [datsS] at e
  | .ext _ :: _, _, _, _, _, e => by simp [datsS] at e
  | .lst _ :: _, _, _, _, _, e => by simp [datsS] at e
  | .dct _ _ :: _, _, _, _, _, e => by simp [datsS] at e
  | .ins _ _ :: _, _, _, _, _, e => by simp [datsS] at e
/-- a list: data, one of its own made on the way, or a place -/
def iLst (d : En → Option Rs) (E : En) : Option Src := match d E with
  | some (.val (.dat (.list ds))) => some ⟨E, [], rdD ds, ds.length⟩
  | some (.val (.lst ss)) => (datsS ss).map fun ds => ⟨E, [], rdD ds, ds.length⟩
  | some (.pl p) => match eget E p with
    | some (.lst ss) => some ⟨E, [.bor p], fun E2 i => match E2.getLast? with
      | some (.bor p) => match eget E2 p with
        | some (.lst ss) => match ss[i]? with
          | some s => ((Rs.pl p).kid i s).map some
          | none => some none
        | _ => none
      | _ => none, ss.length⟩
    | _ => none
  | _ => none
theorem rdD_go {ds : List PyData} {xs : List V} {i : Nat} {r : Rs} (da : DqAll K F xs ds) (h : rdD ds E i = some (some r)) : ∃ w, xs[i]? = some w ∧ RsAt K F H ρ E w r [] := by
  have h := Option.some.inj h
  obtain ⟨d, hd, rfl⟩ := Option.map_eq_some_iff.mp h
  obtain ⟨w, h1, h2⟩ := Mv.DqAll.nth da hd
  exact ⟨w, h1, .dat h2⟩
theorem rdD_stop {ds : List PyData} {i : Nat} (h : rdD ds E i = some none) : ds.length ≤ i := by
  have h := Option.some.inj h
  cases e : ds[i]? with
  | none => exact List.getElem?_eq_none_iff.mp e
  | some d => rw [e] at h; cases h
theorem Rep.hold {σ : L2.St} {p : List Nat} (R : Rep K F H (σ ++ as) E fp) (h1 : followE H (σ ++ as) p = some v) (h2 : (eget E p).isSome = true) : Rep K F H (σ ++ (as ++ [some v])) (E ++ [.bor p]) fp := by
  obtain ⟨f, l, pm⟩ := R.core.own
  have p0 : p ≠ [] := fun z => by rw [z] at h2; cases h2
  have eg : ∀ q, (eget E q).isSome = true → eget (E ++ [Sl.bor p]) q = eget E q := by
    intro q hq
    obtain ⟨t, ht⟩ := Option.isSome_iff_exists.mp hq
    obtain ⟨i, r, s, rfl, ei, _⟩ := eget_some ht
    have hi := (List.getElem?_eq_some_iff.mp ei).1
    simp only [eget, List.getElem?_append_left hi]
  have fo : ∀ q, (∃ w, followE H (σ ++ as) q = some w) → followE H (σ ++ (as ++ [some v])) q = followE H (σ ++ as) q := by
    intro q ⟨w, hw⟩
    cases q with
    | nil => rfl
    | cons i q =>
      unfold followE at hw ⊢
      dsimp only at hw ⊢
      cases e : (σ ++ as)[i]? with
      | none => rw [e] at hw; cases hw
      | some z =>
        have hi := (List.getElem?_eq_some_iff.mp e).1
        rw [← List.append_assoc, List.getElem?_append_left hi, e]
  have len := R.core.len
  refine ⟨⟨by rw [← List.append_assoc, List.length_append, List.length_append, len]; rfl, ⟨f, ?_, pm⟩, fun i s h => ?_⟩, R.sub, R.nd, R.off, fun i q h => ?_⟩
  · rw [← List.append_assoc, rootS_app len, rootV_app]
    have := l.append (OwnL.cons (fp := []) (K := K) (F := F) (H := H) (Own.con (v := v)) .nil)
    simp only [List.append_nil] at this
    exact this
  · by_cases hi : i < E.length
    · rw [List.getElem?_append_left hi] at h
      obtain ⟨w, hw⟩ := R.core.set i s h
      exact ⟨w, by rw [← List.append_assoc, List.getElem?_append_left (by rw [← len]; exact hi)]; exact hw⟩
    · rw [List.getElem?_append_right (by omega)] at h
      cases hk : i - E.length with
      | zero => rw [hk] at h; cases h
      | succ k => rw [hk] at h; cases h
  · by_cases hi : i < E.length
    · rw [List.getElem?_append_left hi] at h
      obtain ⟨w, e1, e2, e3⟩ := R.bor i q h
      exact ⟨w, by rw [← List.append_assoc, List.getElem?_append_left (by rw [← len]; exact hi)]; exact e1, by rw [fo q ⟨w, e2⟩]; exact e2, by rw [eg q e3]; exact e3⟩
    · rw [List.getElem?_append_right (by omega)] at h
      cases hk : i - E.length with
      | zero =>
        rw [hk] at h
        cases h
        refine ⟨v, ?_, by rw [fo p ⟨v, h1⟩]; exact h1, by rw [eg p h2]; exact h2⟩
        rw [← List.append_assoc, List.getElem?_append_right (by rw [← len]; omega), ← len, hk]; rfl
      | succ k => rw [hk] at h; cases h
def stripOk (E : En) : Bool := match E.getLast? with
  | some (.own _) => false
  | some _ => true
  | none => false
theorem Rep.strip {σ : L2.St} {w : V} (R : Rep K F H (σ ++ (as ++ [some w])) E fp) (ok : stripOk E = true) : Rep K F H (σ ++ as) E.dropLast fp := by
  have len := R.core.len
  have hE : E ≠ [] := fun z => by rw [z] at len; simp at len
  have hd : E = E.dropLast ++ [E.getLast hE] := (List.dropLast_concat_getLast hE).symm
  have hl : E.dropLast.length = (σ ++ as).length := by rw [List.length_dropLast, len]; simp
  have hlast : ∀ s, E.getLast hE ≠ .own s := fun s z => by
    unfold stripOk at ok
    rw [List.getLast?_eq_some_getLast hE, z] at ok
    cases ok
  obtain ⟨f, l, pm⟩ := R.core.own
  have sl : slS (some w) (E.getLast hE) = .con w := by
    cases e : E.getLast hE with
    | own s => exact absurd e (hlast s)
    | no => rfl
    | bor p => rfl
  have eg : ∀ q, eget E q = eget E.dropLast q := by
    intro q
    cases q with
    | nil => rfl
    | cons i q =>
      by_cases hi : i < E.dropLast.length
      · simp only [eget]
        rw [show E[i]? = E.dropLast[i]? by rw [hd, List.getElem?_append_left (by simpa using hi)]; simp]
      · simp only [eget]
        rw [List.getElem?_eq_none_iff.mpr (Nat.le_of_not_lt hi)]
        cases e : E[i]? with
        | none => rfl
        | some sl =>
          have hi2 := (List.getElem?_eq_some_iff.mp e).1
          have : i = E.length - 1 := by rw [List.length_dropLast] at hi; omega
          have e2 : sl = E.getLast hE := by
            rw [List.getLast_eq_getElem]
            subst this
            exact (List.getElem?_eq_some_iff.mp e).2.symm
          cases sl with
          | own s => exact absurd e2.symm (hlast s)
          | no => rfl
          | bor p => rfl
  have gi : ∀ (i : Nat) (e : Sl), E.dropLast[i]? = some e → E[i]? = some e := fun i e h => by
    have hi := (List.getElem?_eq_some_iff.mp h).1
    rw [hd, List.getElem?_append_left hi]
    exact h
  have rr : ∀ (i : Nat), i < (σ ++ as).length → (σ ++ (as ++ [some w]))[i]? = (σ ++ as)[i]? := fun i h => by rw [← List.append_assoc, List.getElem?_append_left h]
  refine ⟨⟨hl, ?_, fun i s h => ?_⟩, R.sub, R.nd, R.off, fun i q h => ?_⟩
  · rw [hd, ← List.append_assoc, rootS_app hl, rootV_app] at l
    obtain ⟨g1, g2, rfl, l1, l2⟩ := l.split (by rw [rootS_len hl]; unfold rootV; rw [List.length_map])
    have : g2 = [] := by
      simp only [rootV, List.map_cons, List.map_nil, rootS] at l2
      rw [sl] at l2
      cases l2 with
      | cons a t => cases t; rw [(a.con_inv rfl).2]; rfl
    subst this
    exact ⟨g1, l1, by simpa using pm⟩
  · obtain ⟨z, hz⟩ := R.core.set i s (gi i _ h)
    have hi := (List.getElem?_eq_some_iff.mp h).1
    exact ⟨z, by rw [← rr i (by omega)]; exact hz⟩
  · obtain ⟨z, e1, e2, e3⟩ := R.bor i q (gi i _ h)
    have hi := (List.getElem?_eq_some_iff.mp h).1
    refine ⟨z, by rw [← rr i (by omega)]; exact e1, ?_, by rw [← eg q]; exact e3⟩
    rw [eg q] at e3
    obtain ⟨t, ht⟩ := Option.isSome_iff_exists.mp e3
    obtain ⟨j, r, s, rfl, ej, _⟩ := eget_some ht
    have hj := (List.getElem?_eq_some_iff.mp ej).1
    unfold followE at e2 ⊢
    dsimp only at e2 ⊢
    rw [rr j (by omega)] at e2
    exact e2
/-- the last root is given up -/
def strip1 (E : En) : En := (slotSet E (E.length - 1) .no).dropLast
def stripN : Nat → En → En
  | 0, E => E
  | k + 1, E => stripN k (strip1 E)
theorem Rep.strip1 {σ : L2.St} {w : V} (R : Rep K F H (σ ++ (as ++ [some w])) E fp) : ∃ fq, Rep K F H (σ ++ as) (strip1 E) fq ∧ ∀ a ∈ fq, a ∈ fp := by
  have len := R.core.len
  have hi : E.length - 1 < (σ ++ (as ++ [some w])).length := by rw [← len]; simp at len; omega
  obtain ⟨fq, R2, sb⟩ := R.setSlot (e := .no) (v := .non) (fr := []) hi rfl R.nd (fun _ m => nomatch m)
  have e1 : (σ ++ (as ++ [some w])).set (E.length - 1) (some V.non) = σ ++ (as ++ [some V.non]) := by
    rw [← List.append_assoc, ← List.append_assoc]
    have : E.length - 1 = (σ ++ as).length := by rw [len]; simp
    rw [this, List.set_append_right _ _ (Nat.le_refl _)]
    simp
  rw [e1] at R2
  have ok : stripOk (slotSet E (E.length - 1) .no) = true := by
    unfold stripOk
    rw [List.getLast?_eq_getElem?]
    have : (slotSet E (E.length - 1) Sl.no).length = E.length := by unfold slotSet; simp
    rw [this]
    unfold slotSet
    rw [List.getElem?_set_self (by rw [List.length_map]; omega)]
  exact ⟨fq, R2.strip ok, fun a m => by simpa using sb a m⟩
theorem Rep.stripN {σ : L2.St} : ∀ (k : Nat) {ex : List V} {E : En} {fp : List Addr}, ex.length = k → Rep K F H (σ ++ (as ++ ex.map some)) E fp → ∃ fq, Rep K F H (σ ++ as) (stripN k E) fq ∧ ∀ a ∈ fq, a ∈ fp
  | 0, ex, E, fp, h, R => by
    have : ex = [] := List.eq_nil_of_length_eq_zero h
    subst this
    refine ⟨fp, ?_, fun _ m => m⟩
    show Rep K F H (σ ++ as) E fp
    simpa using R
  | k + 1, ex, E, fp, h, R => by
    rcases List.eq_nil_or_concat ex with z | ⟨ys, w, rfl⟩
    · rw [z] at h; cases h
    · rw [List.concat_eq_append] at h
      rw [List.concat_eq_append, List.map_append, ← List.append_assoc as] at R
      obtain ⟨f1, R1, h1⟩ := Rep.strip1 (as := as ++ ys.map some) (w := w) R
      obtain ⟨f2, R2, h2⟩ := Rep.stripN k (ex := ys) (by simpa using h) R1
      exact ⟨f2, R2, fun a m => h1 a (h2 a m)⟩
end Mv
set_option maxHeartbeats 4000000
namespace Mv
open PySem PySem.Spec PyProof.Rows L2
variable {K : PySem.W.Frag} {F F' F1 F2 H H' H1 H2 : Hp} {v u x y : V} {vs ws : List V} {s t : S} {ss tts : List S} {fp fq fr fp' fp1 fp2 f1 f2 : List Addr} {ρ as : Ro} {E E' : En} {n : Nat}
variable {W : WXm} {te ta tb tc : TE} {d da db dc : En → Option Rs} {tr : TA} {dr : En → Option (List Rs)} {de df : En → Option (S × En)}
theorem i_lst (h : EvP K n as te d) : EvI K n as (iList K te) (iLst d) := by
  intro F H σ E fp L R c e Rr q
  unfold iLst at e
  split at e
  · next ds ed =>
    cases e
    refine h L R ed fun v F1 H1 f1 g1 a1 n1 o1 => ?_
    obtain ⟨a, xs, rfl, hq, da⟩ := Mv.Dq.list_inv (Own.dat_inv (show Own K F1 H1 v _ f1 from a1) rfl).1
    refine ⟨a, rfl, ⟨xs, SqL.mono g1.sub hq⟩, q _ F1 H1 [] fp g1.mine (by simpa using R.grow g1) rfl fun F2 H2 σ2 E2 fp2 L2 g2 R2 i => ?_⟩
    have hq2 : SqL K H2 a xs := SqL.mono g2.sub (SqL.mono g2.f hq)
    have da2 := Mv.DqAll.mono g2.f da
    refine ⟨fun r hr => ?_, fun hr => ⟨xs, hq2, by rw [Mv.DqAll.len da]; exact rdD_stop (E := E2) hr⟩⟩
    obtain ⟨w, hw, ar⟩ := rdD_go (K := K) (H := H2) (E := E2) (ρ := σ2 ++ (as ++ ([] : List V).map some)) da2 hr
    exact ⟨⟨xs, w, hq2, hw⟩, fun x H' hy => ⟨hy.1, by rw [Option.some.inj ((hy.2 xs hq2).symm.trans hw)]; exact ar⟩⟩
  · next ss ed =>
    obtain ⟨ds, hd, rfl⟩ := Option.map_eq_some_iff.mp e
    refine h L R ed fun v F1 H1 f1 g1 a1 n1 o1 => ?_
    obtain ⟨a, xs, fq, rfl, hH, l, hf⟩ := Own.lst_inv (show Own K F1 H1 v _ f1 from a1) rfl
    obtain ⟨da, rfl⟩ := datsS_dp l hd
    refine ⟨a, rfl, ⟨xs, .inl (.inl hH)⟩, q _ F1 H1 [] fp g1.mine (by simpa using R.grow g1) rfl fun F2 H2 σ2 E2 fp2 L2 g2 R2 i => ?_⟩
    have na : a ∉ fp := by
      have := R.apart_new g1 n1
      rw [hf] at this
      exact fun m => (List.nodup_append.mp this).2.2 a List.mem_cons_self a m rfl
    have hq2 : SqL K H2 a xs := .inl (.inl (g2.keep a _ hH na))
    have da2 := Mv.DqAll.mono g2.f da
    refine ⟨fun r hr => ?_, fun hr => ⟨xs, hq2, by rw [Mv.DqAll.len da]; exact rdD_stop (E := E2) hr⟩⟩
    obtain ⟨w, hw, ar⟩ := rdD_go (K := K) (H := H2) (E := E2) (ρ := σ2 ++ (as ++ ([] : List V).map some)) da2 hr
    exact ⟨⟨xs, w, hq2, hw⟩, fun x H' hy => ⟨hy.1, by rw [Option.some.inj ((hy.2 xs hq2).symm.trans hw)]; exact ar⟩⟩
  · next p ed =>
    split at e
    · next ss es =>
      cases e
      refine h L R ed fun v F1 H1 f1 g1 a1 n1 o1 => ?_
      have R1 := R.grow g1
      obtain ⟨fq, ow⟩ := a1.own R1 (show (Rs.pl p).at E = some (.lst ss) from es)
      obtain ⟨a, xs, fq', rfl, hH, l, hf⟩ := ow.lst_inv rfl
      obtain ⟨b1, b2, b3⟩ := a1
      refine ⟨a, rfl, ⟨xs, .inl (.inl hH)⟩, q _ F1 H1 [.ref a] fp g1.mine (R1.hold b2 b3) rfl fun F2 H2 σ2 E2 fp2 L2 g2 R2 i => ?_⟩
      have len := R2.core.len
      have lastv : (σ2 ++ (as ++ [V.ref a].map some))[E2.length - 1]? = some (some (.ref a)) := by
        rw [← List.append_assoc, List.getElem?_append_right (by rw [len]; simp), len]
        simp
      have key : ∀ p2 ss2, E2.getLast? = some (Sl.bor p2) → eget E2 p2 = some (.lst ss2) → ∃ xs2 f2, H2 a = some (.lst xs2) ∧ OwnL K F2 H2 xs2 ss2 f2 ∧ RsAt K F2 H2 (σ2 ++ (as ++ [V.ref a].map some)) E2 (.ref a) (.pl p2) [] := by
        intro p2 ss2 hl hg
        rw [List.getLast?_eq_getElem?] at hl
        obtain ⟨w, e1, e2, e3⟩ := R2.bor _ p2 hl
        rw [lastv] at e1
        cases e1
        have at2 : RsAt K F2 H2 (σ2 ++ (as ++ [V.ref a].map some)) E2 (.ref a) (.pl p2) [] := ⟨rfl, e2, e3⟩
        obtain ⟨f2, ow2⟩ := at2.own R2 (show (Rs.pl p2).at E2 = some (.lst ss2) from hg)
        obtain ⟨a', xs2, f3, ea, hH2, l2, _⟩ := ow2.lst_inv rfl
        cases ea
        exact ⟨xs2, f3, hH2, l2, at2⟩
      refine ⟨fun r hr => ?_, fun hr => ?_⟩
      · dsimp only at hr
        split at hr
        · next p2 hl =>
          split at hr
          · next ss2 hg =>
            obtain ⟨xs2, f2, hH2, l2, at2⟩ := key p2 ss2 hl hg
            split at hr
            · next s hs =>
              obtain ⟨r', hr', er⟩ := Option.map_eq_some_iff.mp hr
              cases er
              obtain ⟨w, f, hw, ow⟩ := l2.nth hs
              have hq2 : SqL K H2 a xs2 := .inl (.inl hH2)
              exact ⟨⟨xs2, w, hq2, hw⟩, fun x H' hy => ⟨hy.1, by rw [Option.some.inj ((hy.2 xs2 hq2).symm.trans hw)]; exact at2.kid R2 hg hH2 hw hs ow hr'⟩⟩
            · cases hr
          · cases hr
        · cases hr
      · dsimp only at hr
        split at hr
        · next p2 hl =>
          split at hr
          · next ss2 hg =>
            obtain ⟨xs2, f2, hH2, l2, at2⟩ := key p2 ss2 hl hg
            split at hr
            · next s hs =>
              cases hk : (Rs.pl p2).kid i s with
              | none => rw [hk] at hr; cases hr
              | some r' => rw [hk] at hr; cases hr
            · next hs => exact ⟨xs2, .inl (.inl hH2), by rw [l2.length]; exact List.getElem?_eq_none_iff.mp hs⟩
          · cases hr
        · cases hr
    · cases e
  · cases e
def dLoop (rd : En → Nat → Option (Option Rs)) (bd : Rs → En → Option En) (db : En → Option Out) : Nat → Nat → En → Option Out
  | fuel, i, E => match rd E i with
    | none => none
    | some none => some (.nx E)
    | some (some r) => match fuel with
      | 0 => none
      | fuel + 1 => match bd r E with
        | none => none
        | some E1 => match db E1 with
          | some (.nx E2) => dLoop rd bd db fuel (i + 1) E2
          | some (.ct E2) => dLoop rd bd db fuel (i + 1) E2
          | some (.bk E2) => some (.nx E2)
          | some (.rt s E2) => some (.rt s E2)
          | some (.ex c E2) => some (.ex c E2)
          | none => none
def stripE (c : Src) (E : En) : En := stripN c.exE.length E
def stripO (c : Src) : Option Out → Option Out
  | some (.nx E) => some (.nx (stripE c E))
  | some (.rt s E) => some (.rt s (stripE c E))
  | some (.bk E) => some (.bk (stripE c E))
  | some (.ct E) => some (.ct (stripE c E))
  | some (.ex x E) => some (.ex x (stripE c E))
  | none => none
def dFor (src : En → Option Src) (bd : Rs → En → Option En) (db : En → Option Out) (E : En) : Option Out := match src E with
  | some c => stripO c (dLoop c.rd bd db c.fuel 0 (c.env ++ c.exE))
  | none => none
theorem stripE_rep {σ : L2.St} {c : Src} {ex : List V} (R : Rep K F H (σ ++ (as ++ ex.map some)) E fp) (hl : ex.length = c.exE.length) : ∃ fq, Rep K F H (σ ++ as) (stripE c E) fq ∧ ∀ a ∈ fq, a ∈ fp := R.stripN _ hl
theorem s_for {wi : TI} {g : TG} {tb : TS} {src : En → Option Src} {bd : Rs → En → Option En} {db : En → Option Out} (hi : EvI K n as wi src) (hg : EvG K n g bd) (hb : ∀ as, EvS K n as W tb db) : EvS K n as W (tFor wi g tb) (dFor src bd db) := by
  intro F H σ E fp L R o e D gg
  unfold dFor at e
  split at e
  · next c ec =>
    refine hi L R ec fun J F1 H1 ex fpx g1' R1 hx spec => ?_
    generalize hd : dLoop c.rd bd db c.fuel 0 (c.env ++ c.exE) = o1 at e
    refine ⟨fun i m σ2 H2 => ∃ F2 E2 fp2, σ2.length = n ∧ Grow F1 H1 fpx F2 H2 fp2 ∧ Rep K F2 H2 (σ2 ++ (as ++ ex.map some)) E2 fp2 ∧ dLoop c.rd bd db m i E2 = o1,
      ⟨c.fuel, F1, _, fpx, L, .refl R1.sub fpx, R1, hd⟩, fun i m σ2 H2 hW => ?_⟩
    obtain ⟨F2, E2, fp2, L2, g2, R2, h2⟩ := hW
    obtain ⟨sp1, sp2⟩ := spec F2 H2 σ2 E2 fp2 L2 g2 R2 i
    rw [dLoop.eq_def] at h2
    dsimp only at h2
    cases hr : c.rd E2 i with
    | none => rw [hr] at h2; dsimp only at h2; rw [← h2] at e; cases e
    | some r0 => cases r0 with
      | none =>
        rw [hr] at h2
        dsimp only at h2
        rw [← h2] at e
        cases e
        obtain ⟨fq, R3, sb⟩ := stripE_rep R2 hx
        exact .inl ⟨sp2 hr, gg σ2 F2 H2 fq L2 ((g1'.trans g2).less sb) R3⟩
      | some r =>
        rw [hr] at h2
        dsimp only at h2
        obtain ⟨go, yl⟩ := sp1 r hr
        cases m with
        | zero => dsimp only at h2; rw [← h2] at e; cases e
        | succ m =>
          dsimp only at h2
          refine .inr ⟨go, fun σ' H' => ∃ F2 E2 fp2, σ'.length = n ∧ Grow F1 H1 fpx F2 H' fp2 ∧ Rep K F2 H' (σ' ++ (as ++ ex.map some)) E2 fp2 ∧ dLoop c.rd bd db m (i + 1) E2 = o1, fun σ' H' hN => ⟨m, Nat.lt_succ_self m, hN⟩, fun x H' hy => ?_⟩
          obtain ⟨rfl, ar⟩ := yl x H' hy
          split at h2
          · rw [← h2] at e; cases e
          · next E3 e3 =>
            refine hg L2 R2 ar e3 fun σ3 F3 H3 fp3 L3 g3 R3 => ?_
            have g23 := g2.trans g3
            split at h2
            · next E4 e4 => exact hb _ L3 R3 e4 fun σ' F' H' fp' L' g' R' => ⟨F', E4, fp', L', g23.trans g', R', h2⟩
            · next E4 e4 => exact hb _ L3 R3 e4 fun σ' F' H' fp' L' g' R' => ⟨F', E4, fp', L', g23.trans g', R', h2⟩
            · next E4 e4 =>
              rw [← h2] at e
              cases e
              refine hb _ L3 R3 e4 fun σ' F' H' fp' L' g' R' => ?_
              obtain ⟨fq, R5, sb⟩ := stripE_rep R' hx
              exact gg σ' F' H' fq L' ((g1'.trans (g23.trans g')).less sb) R5
            · next s E4 e4 =>
              rw [← h2] at e
              cases e
              refine hb _ L3 R3 e4 fun v σ' F' H' fr fp' L' g' R' ow nd of => ?_
              obtain ⟨fq, R5, sb⟩ := stripE_rep R' hx
              refine gg v σ' F' H' fr fq L' ((g1'.trans (g23.trans g')).less fun a m => ?_) R5 ow ?_ of
              · exact List.mem_append.mpr ((List.mem_append.mp m).imp id (sb a))
              · exact List.nodup_append.mpr ⟨(List.nodup_append.mp nd).1, R5.nd, fun a m b m2 => (List.nodup_append.mp nd).2.2 a m b (sb b m2)⟩
            · next x E4 e4 =>
              rw [← h2] at e
              cases e
              refine hb _ L3 R3 e4 fun C σ' F' H' fp' hC L' g' R' => ?_
              obtain ⟨fq, R5, sb⟩ := stripE_rep R' hx
              exact gg C σ' F' H' fq hC L' ((g1'.trans (g23.trans g')).less sb) R5
            · rw [← h2] at e; cases e
  · cases e
end Mv
set_option maxHeartbeats 4000000
namespace Mv
open PySem PySem.Spec PyProof.Rows L2
variable {K : PySem.W.Frag} {F F' F1 F2 H H' H1 H2 : Hp} {v u x y : V} {vs ws : List V} {s t : S} {ss tts : List S} {fp fq fr fp' fp1 fp2 f1 f2 : List Addr} {ρ as : Ro} {E E' : En} {n : Nat}
variable {te ta tb tc : TE} {d da db dc : En → Option Rs} {tr : TA} {dr : En → Option (List Rs)} {de df : En → Option (S × En)} {tt : TT} {dte : En → Option (Bool × En)}
theorem OwnL.recon {w : V} : ∀ {vs : List V} {ss : List S} {fp : List Addr} {j : Nat} {c : V}, OwnL K F H vs ss fp → ss[j]? = some (.con c) → OwnL K F H (vs.set j w) (ss.set j (.con w)) fp
  | _, _, _, j, _, .nil, e => by simp at e
  | _, _, _, 0, c, .cons (fq := fq) h t, e => by
    simp only [List.getElem?_cons_zero, Option.some.injEq] at e
    obtain ⟨_, h2⟩ := h.con_inv e
    subst h2
    exact .cons (fp := []) .con t
  | _, _, _, j + 1, c, .cons h t, e => .cons h (OwnL.recon (j := j) t (by simpa using e))
theorem rootS_no_at : ∀ {ρ : Ro} {E : En} {j : Nat}, E.length = ρ.length → E[j]? = some Sl.no → ∃ c, (rootS ρ E)[j]? = some (.con c)
  | [], [], _, _, h => by simp at h
  | [], _ :: _, _, l, _ => by simp at l
  | _ :: _, [], _, l, _ => by simp at l
  | a :: ρ, b :: E, 0, l, h => by
    simp only [List.getElem?_cons_zero, Option.some.injEq] at h
    subst h
    exact ⟨_, rfl⟩
  | a :: ρ, b :: E, j + 1, l, h => by
    simp only [rootS, List.getElem?_cons_succ]
    exact rootS_no_at (by simpa using l) (by simpa using h)
/-- a slot of which nothing is known may hold anything -/
theorem Rep.forget {j : Nat} (w : Option V) (R : Rep K F H ρ E fp) (h : E[j]? = some Sl.no) : Rep K F H (ρ.set j w) E fp := by
  have hj : j < E.length := (List.getElem?_eq_some_iff.mp h).1
  have len := R.core.len
  obtain ⟨f, l, pm⟩ := R.core.own
  obtain ⟨c, hc⟩ := rootS_no_at len h
  have hn : E.set j Sl.no = E := by
    apply List.ext_getElem?
    intro i
    by_cases ij : j = i
    · subst ij; rw [List.getElem?_set_self hj, h]
    · rw [List.getElem?_set_ne ij]
  have hs : rootS (ρ.set j w) E = (rootS ρ E).set j (.con (w.getD .non)) := by
    have := rootS_set2 (ρ := ρ) (E := E) (i := j) (v := w) (e := Sl.no) len
    rw [hn] at this
    rw [this]
    cases w <;> rfl
  have hv : rootV (ρ.set j w) = (rootV ρ).set j (w.getD .non) := by unfold rootV; rw [List.map_set]
  refine ⟨⟨by rw [List.length_set]; exact len, ⟨f, by rw [hs, hv]; exact l.recon hc, pm⟩, fun i s hi => ?_⟩, R.sub, R.nd, R.off, fun i p hb => ?_⟩
  · have ij : j ≠ i := fun z => by rw [← z, h] at hi; cases hi
    rw [List.getElem?_set_ne ij]
    exact R.core.set i s hi
  · have ij : j ≠ i := fun z => by rw [← z, h] at hb; cases hb
    obtain ⟨z, e1, e2, e3⟩ := R.bor i p hb
    refine ⟨z, by rw [List.getElem?_set_ne ij]; exact e1, ?_, e3⟩
    have hp : p.head? ≠ some j := fun z => by
      obtain ⟨t, ht⟩ := Option.isSome_iff_exists.mp e3
      obtain ⟨k, r, s, rfl, ek, _⟩ := eget_some ht
      simp only [List.head?_cons, Option.some.injEq] at z
      subst z
      rw [h] at ek; cases ek
    rw [followE_set hp]
    exact e2
theorem Rep.grow2 (r : Rep K F H ρ E fp) (g : Grow F H fq F' H' fr) (dj : ∀ a ∈ fp, a ∉ fq) : Rep K F' H' ρ E fp := by
  have k : ∀ a ∈ fp, ∀ o, H a = some o → H' a = some o := fun a m o e => g.keep a o e (dj a m)
  refine ⟨r.core.frame g.f g.sub k, g.sub, r.nd, fun a m => ?_, fun i p h => ?_⟩
  · obtain ⟨o, e⟩ := r.there a m
    exact g.off a (by rw [e]; exact fun z => nomatch z) (dj a m) (r.off a m)
  · obtain ⟨v, h1, h2, h3⟩ := r.bor i p h
    obtain ⟨t, ht⟩ := Option.isSome_iff_exists.mp h3
    exact ⟨v, h1, by rw [r.core.follow_keep (fun b o e => g.sub b o (g.f b o e)) ht k]; exact h2, h3⟩
theorem Grow.beside (g : Grow F H fp F' H' fp') (X : List Addr) : Grow F H (X ++ fp) F' H' (X ++ fp') :=
  g.wide (fun a m => List.mem_append_right _ m) fun a m => by
    rcases List.mem_append.mp m with m | m
    · exact .inl (List.mem_append_left _ m)
    · exact (g.new a m).imp (List.mem_append_right _) id
/-- one object of ours written -/
theorem Grow.write {D : Addr} {o : HO} (sub : ∀ a o, F a = some o → H a = some o) (hF : F D = none) : Grow F H [D] F (upd H D o) [D] := by
  refine ⟨fun _ _ h => h, fun a u e => ?_, fun a u e m => ?_, fun a m => .inl m, fun _ _ _ h => h⟩
  · have : a ≠ D := fun z => by rw [z, hF] at e; cases e
    rw [upd_ne this]; exact sub a u e
  · have : a ≠ D := fun z => m (by rw [z]; exact List.mem_cons_self)
    rw [upd_ne this]; exact e
/-- a slot is forgotten -/
theorem Rep.wipe {j : Nat} (R : Rep K F H ρ E fp) (hj : j < ρ.length) (w : Option V) : ∃ fq, Rep K F H (ρ.set j w) (slotSet E j .no) fq ∧ ∀ a ∈ fq, a ∈ fp := by
  obtain ⟨fq, R2, sb⟩ := R.setSlot (e := .no) (v := .non) (fr := []) hj rfl R.nd (fun _ m => nomatch m)
  have hE : (slotSet E j .no)[j]? = some Sl.no := by
    unfold slotSet
    rw [List.getElem?_set_self (by rw [List.length_map, R.core.len]; exact hj)]
  have := R2.forget w hE
  rw [List.set_set] at this
  exact ⟨fq, this, fun a m => by simpa using sb a m⟩
def dLcLoop (rd : En → Nat → Option (Option Rs)) (j : Nat) (dt : En → Option (Bool × En)) (de : En → Option (S × En)) : Nat → Nat → List S → En → Option (List S × En)
  | fuel, i, acc, E => match rd E i with
    | none => none
    | some none => some (acc, E)
    | some (some r) => match fuel with
      | 0 => none
      | fuel + 1 => match bName j r E with
        | none => none
        | some E1 => match dt E1 with
          | some (true, E2) => match de E2 with
            | some (s, E3) => if acc.length < 100000 then dLcLoop rd j dt de fuel (i + 1) (acc ++ [s]) (slotSet E3 j .no) else none
            | none => none
          | some (false, E2) => dLcLoop rd j dt de fuel (i + 1) acc (slotSet E2 j .no)
          | none => none
def eLc (src : En → Option Src) (j : Nat) (dt : En → Option (Bool × En)) (de : En → Option (S × En)) (E : En) : Option (S × En) := match src E with
  | some c => match dLcLoop c.rd j dt de c.fuel 0 [] (slotSet (c.env ++ c.exE) j .no) with
    | some (acc, E') => some (.lst acc, stripE c E')
    | none => none
  | none => none
def eYes (E : En) : Option (Bool × En) := some (true, E)
theorem e_yes : EvTE K n as tYes eYes := by
  intro F H σ E fp L R b E' e Q q
  cases e
  exact q F H fp (.refl R.sub fp) R
theorem e_lc {wi : TI} {src : En → Option Src} {j : Nat} (hj : j < n) (hi : EvI K n as wi src) (ht : ∀ as, EvTE K n as tt dte) (he : ∀ as, EvE K n as te de) : EvE K n as (tLc wi (gName j) tt te [j]) (eLc src j dte de) := by
  intro F H σ E fp L R s0 E0 e Q q
  unfold eLc at e
  split at e
  · next c ec =>
    split at e
    · next acc0 E9 hd =>
      cases e
      refine hi L R ec fun J F1 H1 ex fpx g1' R1 hx spec => fun D hD => ?_
      have hjl : j < (σ ++ (as ++ ex.map some)).length := by rw [List.length_append]; omega
      have wl : ∀ w, (σ.set j w) ++ (as ++ ex.map some) = (σ ++ (as ++ ex.map some)).set j w := fun w => set_app (by omega)
      have gD : Grow F1 H1 [] F1 (upd H1 D (.lst [])) [D] := Grow.alloc R1.sub hD
      obtain ⟨fw, Rw, sbw⟩ := (R1.grow gD).wipe hjl none
      rw [← wl none] at Rw
      have back : ((σ.set j none) ++ (as ++ ex.map some)).set j (σ[j]?.getD none) = σ ++ (as ++ ex.map some) := by
        rw [wl none, List.set_set]
        apply List.ext_getElem?
        intro i
        by_cases ij : j = i
        · subst ij
          have h1 : j < σ.length := by omega
          rw [List.getElem?_set_self hjl, List.getElem?_append_left h1, List.getElem?_eq_getElem h1]; rfl
        · rw [List.getElem?_set_ne ij]
      -- the invariant
      refine ⟨fun i m Hm => ∃ Fm Em fpm accV accS fa, Grow F1 H1 fpx Fm Hm (D :: (fa ++ fpm)) ∧ Rep K Fm Hm ((σ.set j none) ++ (as ++ ex.map some)) Em fpm ∧ Em[j]? = some Sl.no ∧ Hm D = some (.lst accV) ∧ OwnL K Fm Hm accV accS fa ∧
          (D :: (fa ++ fpm)).Nodup ∧ (∀ a ∈ D :: fa, Fm a = none) ∧ dLcLoop c.rd j dte de m i accS Em = some (acc0, E9),
        ⟨c.fuel, F1, _, fw, [], [], [], ?_, Rw, ?_, upd_same, .nil, ?_, ?_, hd⟩, fun i m Hm hW => ?_⟩
      · have := gD.wide (fq := fpx) (fr := D :: ([] ++ fw)) (fun _ m => nomatch m) fun a m => ?_
        · exact this
        · rcases List.mem_cons.mp m with rfl | m
          · exact .inr hD
          · exact .inl (sbw a (by simpa using m))
      · unfold slotSet
        rw [List.getElem?_set_self]
        rw [List.length_map, R1.core.len]; exact hjl
      · refine List.nodup_cons.mpr ⟨fun m => ?_, by simpa using Rw.nd⟩
        obtain ⟨o, eo⟩ := R1.there D (sbw D (by simpa using m))
        rw [hD] at eo; cases eo
      · intro a m
        rw [List.mem_singleton.mp m]
        cases h : F1 D with
        | none => rfl
        | some o => rw [R1.sub D o h] at hD; cases hD
      · obtain ⟨Fm, Em, fpm, accV, accS, fa, gm, Rm, hno, hHD, lacc, nd, off, hl⟩ := hW
        have gm' : Grow F1 H1 fpx Fm Hm fpm := gm.less fun a m => List.mem_cons_of_mem _ (List.mem_append_right _ m)
        obtain ⟨sp1, sp2⟩ := spec Fm Hm (σ.set j none) Em fpm (by rw [List.length_set]; exact L) gm' Rm i
        rw [dLcLoop.eq_def] at hl
        dsimp only at hl
        have subD : (D :: fa ++ fpm).Nodup := by simpa using nd
        cases hr : c.rd Em i with
        | none => rw [hr] at hl; cases hl
        | some r0 => cases r0 with
          | none =>
            rw [hr] at hl
            cases hl
            refine .inl ⟨sp2 hr, ?_⟩
            have R3 : Rep K Fm Hm (σ ++ (as ++ ex.map some)) E9 fpm := by
              have := Rm.forget (σ[j]?.getD none) hno
              rw [back] at this
              exact this
            obtain ⟨fq9, R4, sb9⟩ := stripE_rep R3 hx
            refine q (.ref D) Fm Hm (D :: fa) fq9 (g1'.trans (gm.less fun a m => (List.mem_append.mp m).elim (fun m => (List.mem_cons.mp m).elim (fun z => by rw [z]; exact List.mem_cons_self) fun m => List.mem_cons_of_mem _ (List.mem_append_left _ m)) fun m => List.mem_cons_of_mem _ (List.mem_append_right _ (sb9 a m)))) R4 (Own.node (s := .lst acc0) (ex := []) hHD (show Head _ Hm D (.lst accV) (.lst acc0) [] from rfl) lacc) ?_ off
            have nd' := List.nodup_append.mp (show (D :: fa ++ fpm).Nodup by simpa using nd)
            exact List.nodup_append.mpr ⟨nd'.1, R4.nd, fun a m b m2 => nd'.2.2 a m b (sb9 b m2)⟩
          | some r =>
            rw [hr] at hl
            dsimp only at hl
            obtain ⟨go, yl⟩ := sp1 r hr
            cases m with
            | zero => cases hl
            | succ m =>
              dsimp only at hl
              refine .inr ⟨go, fun H' => ∃ Fm Em fpm accV accS fa, Grow F1 H1 fpx Fm H' (D :: (fa ++ fpm)) ∧ Rep K Fm H' ((σ.set j none) ++ (as ++ ex.map some)) Em fpm ∧ Em[j]? = some Sl.no ∧ H' D = some (.lst accV) ∧ OwnL K Fm H' accV accS fa ∧
                (D :: (fa ++ fpm)).Nodup ∧ (∀ a ∈ D :: fa, Fm a = none) ∧ dLcLoop c.rd j dte de m (i + 1) accS Em = some (acc0, E9), fun H' hN => ⟨m, Nat.lt_succ_self m, hN⟩, fun x H' hy => ?_⟩
              obtain ⟨rfl, ar⟩ := yl x H' hy
              split at hl
              · cases hl
              · next E1 e1 =>
                show wipe ((σ.set j none).set j (some x)) [j] = wipe σ [j] ∧ _
                refine ⟨by show ((σ.set j none).set j (some x)).set j none = σ.set j none; rw [List.set_set, List.set_set], ?_⟩
                have hLw : ((σ.set j none).set j (some x)).length = n := by rw [List.length_set, List.length_set]; exact L
                have hjw : j < (σ.set j none ++ (as ++ ex.map some)).length := by rw [List.length_append, List.length_set]; omega
                have hR1 : ∃ fq, Rep K Fm H' (((σ.set j none).set j (some x)) ++ (as ++ ex.map some)) E1 fq ∧ ∀ a ∈ fq, a ∈ fpm := by
                  rw [show ((σ.set j none).set j (some x)) ++ (as ++ ex.map some) = (σ.set j none ++ (as ++ ex.map some)).set j (some x) from set_app (by rw [List.length_set]; omega)]
                  cases r with
                  | val s =>
                    cases e1
                    obtain ⟨fq, k1, k2⟩ := Rm.setSlot (e := .own s) (fr := []) hjw ar Rm.nd (fun _ m => nomatch m)
                    exact ⟨fq, k1, fun a m => by simpa using k2 a m⟩
                  | pl p =>
                    unfold bName at e1
                    dsimp only at e1
                    split at e1
                    · cases e1
                    · next hp =>
                      cases e1
                      obtain ⟨a1, a2, a3⟩ := ar
                      obtain ⟨fq, k1, k2⟩ := Rm.setSlot (e := .bor p) (fr := []) hjw ⟨rfl, hp, a2, a3⟩ Rm.nd (fun _ m => nomatch m)
                      exact ⟨fq, k1, fun a m => by simpa using k2 a m⟩
                obtain ⟨fq, R1', sb1⟩ := hR1
                -- D and what is made so far stand aside
                have asideD : ∀ a ∈ D :: fa, a ∉ fq := fun a m m2 => (List.nodup_append.mp (show (D :: fa ++ fpm).Nodup by simpa using nd)).2.2 a m a (sb1 a m2) rfl
                have thD : ∀ a ∈ D :: fa, ∃ o, H' a = some o := fun a m => by
                  rcases List.mem_cons.mp m with rfl | m
                  · exact ⟨_, hHD⟩
                  · exact lacc.there a m
                have gfq : Grow F1 H1 fpx Fm H' (D :: fa ++ fq) := gm.less fun a m => by
                  rcases List.mem_append.mp m with m | m
                  · rcases List.mem_cons.mp m with rfl | m
                    · exact List.mem_cons_self
                    · exact List.mem_cons_of_mem _ (List.mem_append_left _ m)
                  · exact List.mem_cons_of_mem _ (List.mem_append_right _ (sb1 a m))
                have keepD : ∀ {F3 H3 fp3}, Grow Fm H' fq F3 H3 fp3 → H3 D = some (.lst accV) ∧ OwnL K F3 H3 accV accS fa ∧ (∀ a ∈ D :: fa, F3 a = none) ∧ (∀ a ∈ D :: fa, a ∉ fp3) := fun {F3 H3 fp3} g3 => by
                  refine ⟨g3.keep D _ hHD (asideD D List.mem_cons_self), lacc.frame g3.f g3.sub fun a m o e => g3.keep a o e (asideD a (List.mem_cons_of_mem _ m)), fun a m => ?_, fun a m m2 => ?_⟩
                  · obtain ⟨o, eo⟩ := thD a m
                    exact g3.off a (by rw [eo]; exact fun z => nomatch z) (asideD a m) (off a m)
                  · rcases g3.new a m2 with z | z
                    · exact asideD a m z
                    · obtain ⟨o, eo⟩ := thD a m
                      rw [eo] at z; cases z
                have ndD : (D :: fa).Nodup := (List.nodup_append.mp (show (D :: fa ++ fpm).Nodup by simpa using nd)).1
                split at hl
                · next E2 e2 =>
                  split at hl
                  · next s3 E3 e3 =>
                    split at hl
                    · next hlen =>
                      refine ht _ hLw R1' e2 fun F3 H3 fp3 g3 R3 => iteT (he _ hLw R3 e3 fun y F4 H4 fr fp4 g4 R4 ow nd4 of4 => ?_)
                      have g34 : Grow Fm H' fq F4 H4 (fr ++ fp4) := g3.trans g4
                      obtain ⟨kD, kacc, koff, kas⟩ := keepD g34
                      refine ⟨accV, kD, by rw [lacc.length, sizeLine_eq]; omega, ?_⟩
                      have hjw4 : j < (((σ.set j none).set j (some x)) ++ (as ++ ex.map some)).length := by rw [List.length_append, hLw]; omega
                      obtain ⟨fq5, R5, sb5⟩ := R4.wipe hjw4 none
                      rw [← show (((σ.set j none).set j (some x)).set j none) ++ (as ++ ex.map some) = (((σ.set j none).set j (some x)) ++ (as ++ ex.map some)).set j none from set_app (by omega), List.set_set, List.set_set] at R5
                      have gw : Grow F4 H4 [D] F4 (upd H4 D (.lst (accV ++ [y]))) [D] := Grow.write R4.sub (koff D List.mem_cons_self)
                      have D4 : D ∉ fr ++ fp4 := kas D List.mem_cons_self
                      have R6 := R5.grow2 gw (fun a m m2 => D4 (by rw [← List.mem_singleton.mp m2]; exact List.mem_append_right _ (sb5 a m)))
                      have nDfa : D ∉ fa := (List.nodup_cons.mp ndD).1
                      have ow6 : Own K F4 (upd H4 D (.lst (accV ++ [y]))) y s3 fr := ow.grow gw fun a m m2 => D4 (by rw [← List.mem_singleton.mp m2]; exact List.mem_append_left _ m)
                      have acc6 : OwnL K F4 (upd H4 D (.lst (accV ++ [y]))) accV accS fa := kacc.frame gw.f gw.sub fun a m o e => gw.keep a o e fun m2 => nDfa (by rw [← List.mem_singleton.mp m2]; exact m)
                      have lall := acc6.append (OwnL.cons ow6 .nil)
                      rw [List.append_nil] at lall
                      refine ⟨F4, slotSet E3 j .no, fq5, accV ++ [y], accS ++ [s3], fa ++ fr, ?_, R6, ?_, upd_same, lall, ?_, ?_, hl⟩
                      · have ga : Grow F1 H1 fpx F4 H4 (D :: fa ++ (fr ++ fp4)) := gfq.trans (g34.beside (D :: fa))
                        have gb : Grow F4 H4 (D :: fa ++ (fr ++ fp4)) F4 (upd H4 D (.lst (accV ++ [y]))) (D :: (fa ++ fr ++ fq5)) := gw.wide (fun a m => by rw [List.mem_singleton.mp m]; exact List.mem_append_left _ List.mem_cons_self) fun a m => by
                          left
                          rcases List.mem_cons.mp m with rfl | m
                          · exact List.mem_append_left _ List.mem_cons_self
                          · rcases List.mem_append.mp m with m | m
                            · rcases List.mem_append.mp m with m | m
                              · exact List.mem_append_left _ (List.mem_cons_of_mem _ m)
                              · exact List.mem_append_right _ (List.mem_append_left _ m)
                            · exact List.mem_append_right _ (List.mem_append_right _ (sb5 a m))
                        exact ga.trans gb
                      · unfold slotSet
                        rw [List.getElem?_set_self]
                        rw [List.length_map, R4.core.len]; exact hjw4
                      · refine List.nodup_cons.mpr ⟨fun m => ?_, ?_⟩
                        · rcases List.mem_append.mp m with m | m
                          · rcases List.mem_append.mp m with m | m
                            · exact nDfa m
                            · exact D4 (List.mem_append_left _ m)
                          · exact D4 (List.mem_append_right _ (sb5 D m))
                        · refine nodup_two (nodup_two (List.nodup_cons.mp ndD).2 (List.nodup_append.mp nd4).1 fun a m b m2 z => ?_) R5.nd fun a m b m2 z => ?_
                          · subst z; exact kas a (List.mem_cons_of_mem _ m) (List.mem_append_left _ m2)
                          · subst z
                            rcases List.mem_append.mp m with m | m
                            · exact kas a (List.mem_cons_of_mem _ m) (List.mem_append_right _ (sb5 a m2))
                            · exact (List.nodup_append.mp nd4).2.2 a m a (sb5 a m2) rfl
                      · intro a m
                        rcases List.mem_cons.mp m with rfl | m
                        · exact koff a List.mem_cons_self
                        · rcases List.mem_append.mp m with m | m
                          · exact koff a (List.mem_cons_of_mem _ m)
                          · exact of4 a m
                    · cases hl
                  · cases hl
                · next E2 e2 =>
                  refine ht _ hLw R1' e2 fun F3 H3 fp3 g3 R3 => iteF ?_
                  obtain ⟨kD, kacc, koff, kas⟩ := keepD g3
                  have hjw4 : j < (((σ.set j none).set j (some x)) ++ (as ++ ex.map some)).length := by rw [List.length_append, hLw]; omega
                  obtain ⟨fq5, R5, sb5⟩ := R3.wipe hjw4 none
                  rw [← show (((σ.set j none).set j (some x)).set j none) ++ (as ++ ex.map some) = (((σ.set j none).set j (some x)) ++ (as ++ ex.map some)).set j none from set_app (by omega), List.set_set, List.set_set] at R5
                  refine ⟨F3, slotSet E2 j .no, fq5, accV, accS, fa, ?_, R5, ?_, kD, kacc, ?_, koff, hl⟩
                  · exact (gfq.trans (g3.beside (D :: fa))).less fun a m => by
                      rcases List.mem_cons.mp m with rfl | m
                      · exact List.mem_append_left _ List.mem_cons_self
                      · rcases List.mem_append.mp m with m | m
                        · exact List.mem_append_left _ (List.mem_cons_of_mem _ m)
                        · exact List.mem_append_right _ (sb5 a m)
                  · unfold slotSet
                    rw [List.getElem?_set_self]
                    rw [List.length_map, R3.core.len]; exact hjw4
                  · have : (D :: fa ++ fq5).Nodup := nodup_two ndD R5.nd fun a m b m2 z => by subst z; exact kas a m (sb5 a m2)
                    simpa using this
                · cases hl
    · cases e
  · cases e
end Mv
set_option maxHeartbeats 4000000
namespace Mv
open PySem PySem.Spec PyProof.Rows L2
variable {K : PySem.W.Frag} {F F' F1 F2 H H' H1 H2 : Hp} {v u x y : V} {vs ws : List V} {s t : S} {ss tts : List S} {fp fq fr fp' fp1 fp2 f1 f2 : List Addr} {ρ as : Ro} {E E' : En} {n : Nat}
variable {te ta tb tc : TE} {d da db dc : En → Option Rs} {tr : TA} {dr : En → Option (List Rs)} {de df : En → Option (S × En)} {tt : TT} {dte : En → Option (Bool × En)}
/-- what a rule does to the node at u (t), handed y (s) -/
def Nd1 (K : PySem.W.Frag) (r : V → V → Hp → VK → Prop) (op : S → S → Option (S × S)) : Prop :=
  ∀ {F H : Hp} {u y : V} {t s t' c : S} {fp1 fr : List Addr}, (∀ a o, F a = some o → H a = some o) → Own K F H u t fp1 → Own K F H y s fr → (fr ++ fp1).Nodup → (∀ a ∈ fr ++ fp1, F a = none) → op t s = some (t', c) → ∀ {Q : VK},
    (∀ v F' H' fv fq, Grow F H (fr ++ fp1) F' H' (fv ++ fq) → Own K F' H' u t' fq → Own K F' H' v c fv → (fv ++ fq).Nodup → (∀ a ∈ fv ++ fq, F' a = none) → Q v H') → r u y H Q
def eMut1 (op : S → S → Option (S × S)) (da db : En → Option Rs) (E : En) : Option (S × En) := match da E, db E with
  | some (.pl p), some (.val s) => match eget E p with
    | some t => match op t s with
      | some (t', c) => some (c, ekill (eput E p t') p)
      | none => none
    | none => none
  | _, _ => none
theorem mut1 {r : V → V → Hp → VK → Prop} {op : S → S → Option (S × S)} (hr : Nd1 K r op) {σ : L2.St} {p : List Nat} {t' c : S} (R : Rep K F H (σ ++ as) E fp) (a1 : RsAt K F H (σ ++ as) E u (.pl p) f1) (o2 : Own K F H y s fr) (nd : (fr ++ fp).Nodup) (of : ∀ a ∈ fr, F a = none)
    (ht : eget E p = some t) (ho : op t s = some (t', c)) {Q : VK} (q : ∀ v F' H' fv fp', Grow F H (fr ++ fp) F' H' (fv ++ fp') → Rep K F' H' (σ ++ as) (ekill (eput E p t') p) fp' → Own K F' H' v c fv → (fv ++ fp').Nodup → (∀ a ∈ fv, F' a = none) → Q v H') : r u y H Q := by
  obtain ⟨w, fp1, fp2, h1, h2, pm, close⟩ := R.focus2 ht
  rw [a1.2.1] at h1
  cases h1
  have in1 : ∀ a ∈ fp1, a ∈ fp := fun a m => pm.mem_iff.mpr (List.mem_append_left _ m)
  have nd1 : (fr ++ fp1).Nodup := nodup_two (List.nodup_append.mp nd).1 (List.nodup_append.mp (pm.nodup_iff.mp R.nd)).1 fun a m b m2 e => (List.nodup_append.mp nd).2.2 a m b (in1 b m2) e
  refine hr R.sub h2 o2 nd1 (fun a m => (List.mem_append.mp m).elim (of a) fun m => R.off a (in1 a m)) ho fun v F' H' fv fq g ou ov ndv ofv => ?_
  obtain ⟨R', nd', g'⟩ := close F' H' t' fq fr fv g (fun a m m2 => (List.nodup_append.mp nd).2.2 a m a m2 rfl) ou ndv fun a m => ofv a (List.mem_append_right _ m)
  exact q v F' H' fv _ g' R' ov nd' fun a m => ofv a (List.mem_append_left _ m)
/-- what a list is to the rules of methods -/
theorem tyV_list {a : Addr} {xs : List V} (h : H a = some (.lst xs)) : tyV K "list" (.ref a) H := .inl ⟨rfl, xs, .inl (.inl h)⟩
/-- xs.m(e): a method of lists, its argument changing nothing -/
def eBM1 (op : S → S → Option (S × S)) (da db : En → Option Rs) (E : En) : Option (S × En) := match da E with
  | some (.pl p) => match eget E p with
    | some (.lst _) => eMut1 op da db E
    | _ => none
  | _ => none
theorem e_bm1 {r : V → List V → Hp → VK → Prop} {op : S → S → Option (S × S)} (hr : Nd1 K (fun u y H Q => r u [y] H Q) op) (ha : EvP K n as ta da) (hb : EvP K n as tb db) : EvE K n as (tBM K "list" r ta (tCons tb tNil)) (eBM1 op da db) := by
  intro F H σ E fp L R s0 E0 e Q q
  unfold eBM1 at e
  split at e
  · next p ea =>
    split at e
    · next ss es =>
      unfold eMut1 at e
      rw [ea] at e
      split at e
      · next p' s hp eb =>
        cases hp
        rw [es] at e
        dsimp only at e
        split at e
        · next t' c ho =>
          cases e
          refine ha L R ea fun u F1 H1 f1 g1 a1 n1 o1 => ?_
          have R1 := R.grow g1
          obtain ⟨fq, ow⟩ := a1.own R1 (show (Rs.pl p).at E = some (.lst ss) from es)
          obtain ⟨a, xs, _, rfl, hH, _⟩ := ow.lst_inv rfl
          refine ⟨tyV_list hH, hb L R1 eb fun y F2 H2 f2 g2 a2 n2 o2 => ?_⟩
          have R2 := R1.grow g2
          exact mut1 hr R2 (a1.grow R1 g2) a2 (R1.apart_new g2 n2) o2 es ho fun v F' H' fv fp' g R' ov nd' of' => q v F' H' fv fp' (((g1.ours fp).less fun a m => List.mem_append_right _ m).trans ((g2.ours fp).trans g)) R' ov nd' of'
        · cases e
      · cases e
    · cases e
  · cases e
def oAppend : S → S → Option (S × S)
  | .lst ss, s => if ss.length < 100000 then some (.lst (ss ++ [s]), .dat .none) else none
  | _, _ => none
theorem lst_write {a : Addr} {ys : List V} {f : List Addr} (o : OwnL K F (upd H a (.lst ys)) ys ss f) : Own K F (upd H a (.lst ys)) (.ref a) (.lst ss) (a :: f) := by
  have := Own.node (K := K) (F := F) (H := upd H a (.lst ys)) (s := .lst ss) (ex := []) upd_same (show Head _ _ a (.lst ys) (.lst ss) [] from rfl) o
  simpa using this
theorem upd_sub (sub : ∀ b u, F b = some u → H b = some u) {a : Addr} {o : HO} (fa : F a = none) : ∀ b u, F b = some u → upd H a o b = some u := fun b u e => by
  rw [upd_ne (ne_of_none e fa)]; exact sub b u e
theorem OwnL.off (l : OwnL K F H vs ss fp) (sub : ∀ b u, F b = some u → H b = some u) {a : Addr} {o : HO} (fa : F a = none) (h : a ∉ fp) : OwnL K F (upd H a o) vs ss fp := l.frame (fun _ _ h => h) (upd_sub sub fa) fun b m u e => by
  rw [upd_ne (fun z => h (by rw [← z]; exact m))]; exact e
theorem Own.off (l : Own K F H v s fp) (sub : ∀ b u, F b = some u → H b = some u) {a : Addr} {o : HO} (fa : F a = none) (h : a ∉ fp) : Own K F (upd H a o) v s fp := l.frame (fun _ _ h => h) (upd_sub sub fa) fun b m u e => by
  rw [upd_ne (fun z => h (by rw [← z]; exact m))]; exact e
theorem nd_append : Nd1 K (fun u y H Q => rAppend u [y] H Q) oAppend := by
  intro F H u y t s t' c fp1 fr sub ot os nd of e Q q
  unfold oAppend at e
  split at e
  · next ss s =>
    split at e
    · next hl =>
      cases e
      obtain ⟨a, vs, fq, rfl, hH, l, rfl⟩ := ot.lst_inv rfl
      have na : a ∉ fr := fun m => (List.nodup_append.mp nd).2.2 a m a List.mem_cons_self rfl
      have nq : a ∉ fq := (List.nodup_cons.mp (List.nodup_append.mp nd).2.1).1
      refine ⟨a, vs, y, rfl, rfl, hH, by rw [l.length, sizeLine_eq]; omega, ?_⟩
      have l2 := (l.off sub (o := .lst (vs ++ [y])) (of a (List.mem_append_right _ List.mem_cons_self)) nq).append (OwnL.cons (os.off sub (o := .lst (vs ++ [y])) (of a (List.mem_append_right _ List.mem_cons_self)) na) .nil)
      rw [List.append_nil] at l2
      have g0 : Grow F H [a] F (upd H a (.lst (vs ++ [y]))) [a] := Grow.write sub (of a (List.mem_append_right _ List.mem_cons_self))
      refine q .non F _ [] (a :: (fq ++ fr)) (g0.wide (fun b m => by rw [List.mem_singleton.mp m]; exact List.mem_append_right _ List.mem_cons_self) fun b m => ?_) (lst_write l2) (.dat .non) ?_ fun b m => ?_
      · left
        rw [List.nil_append] at m
        rcases List.mem_cons.mp m with rfl | m
        · exact List.mem_append_right _ List.mem_cons_self
        · rcases List.mem_append.mp m with m | m
          · exact List.mem_append_right _ (List.mem_cons_of_mem _ m)
          · exact List.mem_append_left _ m
      · rw [List.nil_append]
        have p : (fr ++ a :: fq).Perm (a :: (fq ++ fr)) := List.perm_middle.trans (List.Perm.cons a List.perm_append_comm)
        exact p.nodup_iff.mp nd
      · rw [List.nil_append] at m
        rcases List.mem_cons.mp m with rfl | m
        · exact of _ (List.mem_append_right _ List.mem_cons_self)
        · rcases List.mem_append.mp m with m | m
          · exact of b (List.mem_append_right _ (List.mem_cons_of_mem _ m))
          · exact of b (List.mem_append_left _ m)
    · cases e
  · cases e
def oPopAt : S → S → Option (S × S)
  | .lst ss, .dat (.int i) => match ixN ss.length i with
    | some j => match ss[j]? with
      | some s => if ss.length < 100000 then some (.lst (ss.eraseIdx j), s) else none
      | none => none
    | none => none
  | _, _ => none
theorem OwnL.erase : ∀ {vs : List V} {ss : List S} {fp : List Addr} {j : Nat} {s : S}, OwnL K F H vs ss fp → ss[j]? = some s → ∃ v f1 f2, vs[j]? = some v ∧ Own K F H v s f1 ∧ OwnL K F H (vs.eraseIdx j) (ss.eraseIdx j) f2 ∧ fp.Perm (f1 ++ f2)
  | _, _, _, j, _, .nil, e => by simp at e
  | _, _, _, 0, s, .cons h t, e => by
    simp only [List.getElem?_cons_zero, Option.some.injEq] at e
    subst e
    exact ⟨_, _, _, rfl, h, t, List.Perm.refl _⟩
  | _, _, _, j + 1, s, .cons (fp := fa) h t, e => by
    obtain ⟨v, f1, f2, e1, o, l, p⟩ := OwnL.erase (j := j) t (by simpa using e)
    refine ⟨v, f1, fa ++ f2, by simpa using e1, o, .cons h l, ?_⟩
    refine (List.Perm.append_left fa p).trans ?_
    rw [← List.append_assoc, ← List.append_assoc]
    exact List.Perm.append_right _ List.perm_append_comm
theorem nd_popAt : Nd1 K (fun u y H Q => rPopAt u [y] H Q) oPopAt := by
  intro F H u y t s t' c fp1 fr sub ot os nd of e Q q
  unfold oPopAt at e
  split at e
  · next ss i =>
    split at e
    · next j ej =>
      split at e
      · next s hs =>
        split at e
        · next hl =>
          cases e
          obtain ⟨hd, rfl⟩ := os.dat_inv rfl
          cases hd
          obtain ⟨a, vs, fq, rfl, hH, l, rfl⟩ := ot.lst_inv rfl
          obtain ⟨w, g1, g2, e1, ow, l2, pm⟩ := l.erase hs
          rw [List.nil_append] at nd of
          have nq : a ∉ fq := (List.nodup_cons.mp nd).1
          have n1 : a ∉ g1 := fun m => nq (pm.mem_iff.mpr (List.mem_append_left _ m))
          have n2 : a ∉ g2 := fun m => nq (pm.mem_iff.mpr (List.mem_append_right _ m))
          obtain ⟨k1, k2, k3, k4⟩ := ixN_seq ej
          refine ⟨a, vs, i, j, w, rfl, rfl, hH, ?_, ?_, by rw [l.length]; exact k1, e1, ?_⟩
          · have : (ss.length : Int) < 100000 := by omega
            omega
          · have : (ss.length : Int) < 100000 := by omega
            omega
          · have g0 : Grow F H [a] F (upd H a (.lst (vs.eraseIdx j))) [a] := Grow.write sub (of a List.mem_cons_self)
            refine q w F _ g1 (a :: g2) (g0.wide (fun b m => by rw [List.mem_singleton.mp m]; exact List.mem_cons_self) fun b m => ?_) (lst_write (l2.off sub (of a List.mem_cons_self) n2)) (ow.off sub (of a List.mem_cons_self) n1) ?_ fun b m => ?_
            · left
              rcases List.mem_append.mp m with m | m
              · exact List.mem_cons_of_mem _ (pm.mem_iff.mpr (List.mem_append_left _ m))
              · rcases List.mem_cons.mp m with rfl | m
                · exact List.mem_cons_self
                · exact List.mem_cons_of_mem _ (pm.mem_iff.mpr (List.mem_append_right _ m))
            · have p : (a :: fq).Perm (g1 ++ a :: g2) := (List.Perm.cons a pm).trans List.perm_middle.symm
              exact p.nodup_iff.mp nd
            · rcases List.mem_append.mp m with m | m
              · exact of b (List.mem_cons_of_mem _ (pm.mem_iff.mpr (List.mem_append_left _ m)))
              · rcases List.mem_cons.mp m with rfl | m
                · exact of _ List.mem_cons_self
                · exact of b (List.mem_cons_of_mem _ (pm.mem_iff.mpr (List.mem_append_right _ m)))
        · cases e
      · cases e
    · cases e
  · cases e
end Mv
set_option maxHeartbeats 4000000
namespace Mv
open PySem PySem.Spec PyProof.Rows L2
variable {K : PySem.W.Frag} {F F' F1 F2 H H' H1 H2 : Hp} {v u x y : V} {vs ws : List V} {s t : S} {ss tts : List S} {fp fq fr fp' fp1 fp2 f1 f2 : List Addr} {ρ as : Ro} {E E' : En} {n : Nat}
variable {W : WXm} {te ta tb tc : TE} {d da db dc : En → Option Rs} {tr : TA} {dr : En → Option (List Rs)} {de df : En → Option (S × En)} {tt : TT} {dte : En → Option (Bool × En)}
def kix : List Key → Key → Option Nat
  | [], _ => none
  | a :: r, k => if a = k then some 0 else (kix r k).map (· + 1)
theorem valV_kix (k : Key) : ∀ kvs : List (Key × V), valV kvs k = (kix (kvs.map (·.1)) k).bind fun i => (kvs.map (·.2))[i]?
  | [] => rfl
  | p :: r => by
    by_cases e : p.1 = k
    · rw [valV_pos e]; simp [kix, e]
    · rw [valV_neg e, valV_kix k r, List.map_cons, List.map_cons, kix, if_neg e]
      cases kix (r.map (·.1)) k with
      | none => rfl
      | some i => simp
theorem kix_lt {k : Key} : ∀ {ks : List Key} {i : Nat}, kix ks k = some i → i < ks.length
  | [], _, h => by simp [kix] at h
  | a :: r, i, h => by
    unfold kix at h
    split at h
    · cases h; simp
    · obtain ⟨j, hj, rfl⟩ := Option.map_eq_some_iff.mp h
      have := kix_lt hj
      simp only [List.length_cons]; omega
/-- in its place, or at the end -/
def putS {α : Type} (kss : List (Key × α)) (k : Key) (s : α) : List (Key × α) := match kix (kss.map (·.1)) k with
  | some i => setSnd kss i s
  | none => kss ++ [(k, s)]
theorem putK_kix {k : Key} (b : V) : ∀ (kvs : List (Key × V)), (kvs.map (·.1)).Nodup → putK kvs k b = putS kvs k b := by
  have map_no : ∀ (r : List (Key × V)), k ∉ r.map (·.1) → r.map (fun kv => if kv.1 = k then (kv.1, b) else kv) = r := by
    intro r h
    induction r with
    | nil => rfl
    | cons p r ih =>
      simp only [List.map_cons, List.mem_cons, not_or] at h
      rw [List.map_cons, if_neg (fun z => h.1 z.symm), ih h.2]
  have yes : ∀ (kvs : List (Key × V)) (i : Nat), (kvs.map (·.1)).Nodup → kix (kvs.map (·.1)) k = some i → kvs.map (fun kv => if kv.1 = k then (kv.1, b) else kv) = setSnd kvs i b := by
    intro kvs
    induction kvs with
    | nil => intro i _ h; simp [kix] at h
    | cons p r ih =>
      intro i nd h
      rw [List.map_cons, List.nodup_cons] at nd
      rw [List.map_cons, kix] at h
      by_cases e : p.1 = k
      · rw [if_pos e] at h
        cases h
        rw [List.map_cons, if_pos e]
        simp only [setSnd]
        rw [map_no r (by rw [← e]; exact nd.1)]
      · rw [if_neg e] at h
        obtain ⟨j, hj, rfl⟩ := Option.map_eq_some_iff.mp h
        rw [List.map_cons, if_neg e]
        simp only [setSnd]
        rw [ih j nd.2 hj]
  intro kvs nd
  unfold putK putS
  rw [valV_any, valV_kix]
  cases h : kix (kvs.map (·.1)) k with
  | none => simp
  | some i =>
    have hi := kix_lt h
    rw [List.length_map] at hi
    simp only [Option.bind_some, List.getElem?_map, List.getElem?_eq_getElem hi, Option.map_some, Option.isSome_some, if_true]
    exact yes kvs i nd h
def keyS : S → Option Key
  | .dat (.int i) => some (.inl i)
  | .dat (.str x) => some (.inr x)
  | _ => none
def Rs.key : Rs → Option Key
  | .val s => keyS s
  | _ => none
theorem RsAt.key {r : Rs} {k : Key} (a : RsAt K F H ρ E v r fr) (h : r.key = some k) : v = kV k := by
  cases r with
  | pl p => cases h
  | val s =>
    have o : Own K F H v s fr := a
    cases s with
    | dat d =>
      have dp := (o.dat_inv rfl).1
      cases d with
      | int i => cases h; cases dp; rfl
      | str x => cases h; cases dp; rfl
      | _ => cases h
    | _ => cases h
/-- one of them replaced -/
theorem OwnL.repl : ∀ {vs : List V} {ss : List S} {fp : List Addr} {i : Nat} {y : V} {s : S} {fr : List Addr}, OwnL K F H vs ss fp → i < vs.length → Own K F H y s fr →
    ∃ f1 f2 g, OwnL K F H (vs.set i y) (ss.set i s) g ∧ g.Perm (fr ++ f2) ∧ fp.Perm (f1 ++ f2)
  | _, _, _, i, _, _, _, .nil, h, _ => by simp at h
  | _, _, _, 0, y, s, fr, .cons (fp := fa) (fq := fb) h t, _, o => ⟨fa, fb, _, .cons o t, List.Perm.refl _, List.Perm.refl _⟩
  | _, _, _, i + 1, y, s, fr, .cons (fp := fa) h t, hi, o => by
    obtain ⟨f1, f2, g, l, p1, p2⟩ := OwnL.repl (i := i) t (by simpa using hi) o
    refine ⟨f1, fa ++ f2, fa ++ g, .cons h l, ?_, ?_⟩
    · refine (List.Perm.append_left fa p1).trans ?_
      rw [← List.append_assoc, ← List.append_assoc]
      exact List.Perm.append_right _ List.perm_append_comm
    · refine (List.Perm.append_left fa p2).trans ?_
      rw [← List.append_assoc, ← List.append_assoc]
      exact List.Perm.append_right _ List.perm_append_comm
/-- what is put at a place -/
def stepAt (op : S → S → Option (S × S)) (E : En) (p : List Nat) (s : S) : Option Out := match eget E p with
  | some t => match op t s with
    | some (t', _) => some (.nx (ekill (eput E p t') p))
    | none => none
  | none => none
end Mv
set_option maxHeartbeats 4000000
namespace Mv
open PySem PySem.Spec PyProof.Rows L2
end Mv
set_option maxHeartbeats 4000000
namespace Mv
open PySem PySem.Spec PyProof.Rows L2
end Mv
set_option maxHeartbeats 4000000
namespace Mv
open PySem PySem.Spec PyProof.Rows L2
variable {K : PySem.W.Frag} {F F' F1 F2 F3 H H' H1 H2 H3 : Hp} {v u x y : V} {vs ws : List V} {s t : S} {ss tts : List S} {fp fq fr fp' fp1 fp2 f1 f2 : List Addr} {ρ as : Ro} {E E' : En} {n : Nat}
variable {te ta tb tc : TE} {d da db dc : En → Option Rs} {tr : TA} {dr : En → Option (List Rs)} {de df : En → Option (S × En)} {tt : TT} {dte : En → Option (Bool × En)}
/-- a value held by a root of its own -/
theorem Rep.push {σ : L2.St} (R : Rep K F H (σ ++ as) E fp) (ov : Own K F H v s fr) (nd : (fr ++ fp).Nodup) (of : ∀ a ∈ fr, F a = none) : Rep K F H (σ ++ (as ++ [some v])) (E ++ [.own s]) (fr ++ fp) := by
  obtain ⟨f, l, pm⟩ := R.core.own
  have len := R.core.len
  have eg : ∀ q, (eget E q).isSome = true → eget (E ++ [Sl.own s]) q = eget E q := by
    intro q hq
    obtain ⟨t, ht⟩ := Option.isSome_iff_exists.mp hq
    obtain ⟨i, r, s, rfl, ei, _⟩ := eget_some ht
    have hi := (List.getElem?_eq_some_iff.mp ei).1
    simp only [eget, List.getElem?_append_left hi]
  have fo : ∀ q, (∃ w, followE H (σ ++ as) q = some w) → followE H (σ ++ (as ++ [some v])) q = followE H (σ ++ as) q := by
    intro q ⟨w, hw⟩
    cases q with
    | nil => rfl
    | cons i q =>
      unfold followE at hw ⊢
      dsimp only at hw ⊢
      cases e : (σ ++ as)[i]? with
      | none => rw [e] at hw; cases hw
      | some z =>
        have hi := (List.getElem?_eq_some_iff.mp e).1
        rw [← List.append_assoc, List.getElem?_append_left hi, e]
  refine ⟨⟨by rw [← List.append_assoc, List.length_append, List.length_append, len]; rfl, ⟨f ++ fr, ?_, ?_⟩, fun i w h => ?_⟩, R.sub, nd, fun a m => (List.mem_append.mp m).elim (of a) (R.off a), fun i q h => ?_⟩
  · rw [← List.append_assoc, rootS_app len, rootV_app]
    have := l.append (OwnL.cons (K := K) (F := F) (H := H) ov .nil)
    simpa [rootV, rootS, slS] using this
  · exact (List.Perm.append_left fr pm).trans List.perm_append_comm
  · by_cases hi : i < E.length
    · rw [List.getElem?_append_left hi] at h
      obtain ⟨z, hw⟩ := R.core.set i w h
      exact ⟨z, by rw [← List.append_assoc, List.getElem?_append_left (by rw [← len]; exact hi)]; exact hw⟩
    · rw [List.getElem?_append_right (by omega)] at h
      cases hk : i - E.length with
      | zero => exact ⟨v, by rw [← List.append_assoc, List.getElem?_append_right (by rw [← len]; omega), ← len, hk]; rfl⟩
      | succ k => rw [hk] at h; cases h
  · by_cases hi : i < E.length
    · rw [List.getElem?_append_left hi] at h
      obtain ⟨w, e1, e2, e3⟩ := R.bor i q h
      exact ⟨w, by rw [← List.append_assoc, List.getElem?_append_left (by rw [← len]; exact hi)]; exact e1, by rw [fo q ⟨w, e2⟩]; exact e2, by rw [eg q e3]; exact e3⟩
    · rw [List.getElem?_append_right (by omega)] at h
      cases hk : i - E.length with
      | zero => rw [hk] at h; cases h
      | succ k => rw [hk] at h; cases h
/-- a list at a held place, walked -/
def rdP (E2 : En) (i : Nat) : Option (Option Rs) := match E2.getLast? with
  | some (.bor p) => match eget E2 p with
    | some (.lst ss) => match ss[i]? with
      | some s => ((Rs.pl p).kid i s).map some
      | none => some none
    | _ => none
  | _ => none
/-- a tuple walked -/
def iTupS (d : En → Option Rs) (E : En) : Option Src := match d E with
  | some (.val (.dat (.tuple ds))) => some ⟨E, [], rdD ds, ds.length⟩
  | _ => none
theorem i_tup (h : EvP K n as te d) : EvI K n as (iTup K te) (iTupS d) := by
  intro F H σ E fp L R c e Rr q
  unfold iTupS at e
  split at e
  · next ds ed =>
    cases e
    refine h L R ed fun v F1 H1 f1 g1 a1 n1 o1 => ?_
    obtain ⟨a, xs, rfl, hq, da⟩ := Mv.Dq.tuple_inv (Own.dat_inv (show Own K F1 H1 v _ f1 from a1) rfl).1
    refine ⟨a, rfl, ⟨xs, SqT.mono g1.sub hq⟩, q _ F1 H1 [] fp g1.mine (by simpa using R.grow g1) rfl fun F2 H2 σ2 E2 fp2 L2 g2 R2 i => ?_⟩
    have hq2 : SqT K H2 a xs := SqT.mono g2.sub (SqT.mono g2.f hq)
    have da2 := Mv.DqAll.mono g2.f da
    refine ⟨fun r hr => ?_, fun hr => ⟨xs, hq2, by rw [Mv.DqAll.len da]; exact rdD_stop (E := E2) hr⟩⟩
    obtain ⟨w, hw, ar⟩ := rdD_go (K := K) (H := H2) (E := E2) (ρ := σ2 ++ (as ++ ([] : List V).map some)) da2 hr
    exact ⟨⟨xs, w, hq2, hw⟩, fun x H' hy => ⟨hy.1, by rw [Option.some.inj ((hy.2 xs hq2).symm.trans hw)]; exact ar⟩⟩
  · cases e
end Mv
set_option maxHeartbeats 4000000
namespace Mv
open PySem PySem.Spec PyProof.Rows L2
variable {K : PySem.W.Frag} {F F' F1 F2 F3 H H' H1 H2 H3 : Hp} {v u x y : V} {vs ws xs : List V} {s t c : S} {ss tts : List S} {fp fq fr fp' fp1 fp2 f1 f2 : List Addr} {ρ as : Ro} {E E' : En} {n : Nat}
variable {te ta tb tc tk tv td : TE} {d da db dc dk dv : En → Option Rs} {tr : TA} {dr : En → Option (List Rs)} {de df : En → Option (S × En)} {tt : TT} {dte : En → Option (Bool × En)} {ds : List PyData} {Q : VK}
/-- what follows on something new -/
def Mk (K : PySem.W.Frag) (F H : Hp) (c : S) (Q : VK) : Prop := ∀ v F' H' fr, Grow F H [] F' H' fr → Own K F' H' v c fr → fr.Nodup → (∀ a ∈ fr, F' a = none) → Q v H'
theorem Mk.grow (m : Mk K F H c Q) (g : Grow F H [] F1 H1 []) : Mk K F1 H1 c Q := fun v F' H' fr g2 o nd of => m v F' H' fr (by simpa using g.seq0 g2) o nd of
theorem fresh_none (sub : ∀ a o, F a = some o → H a = some o) {p : Addr} (hp : H p = none) : F p = none := by
  cases e : F p with
  | none => rfl
  | some o => rw [sub p o e] at hp; cases hp
theorem mk_lst (sub : ∀ a o, F a = some o → H a = some o) (l : OwnL K F H xs ss []) (m : Mk K F H (.lst ss) Q) : ∀ p, H p = none → Q (.ref p) (upd H p (.lst xs)) := fun p hp => by
  have g : Grow F H [] F (upd H p (.lst xs)) [p] := Grow.alloc sub hp
  refine m _ F _ [p] g (lst_write (l.frame (fun _ _ h => h) g.sub fun _ z => nomatch z)) (by simp) fun a z => ?_
  rw [List.mem_singleton.mp z]; exact fresh_none sub hp
theorem mk_tup (sub : ∀ a o, F a = some o → H a = some o) (l : DqAll K F xs ds) (m : Mk K F H (.dat (.tuple ds)) Q) : ∀ (p : Addr) (ob : Obj), H p = none → ob.dict = none → Q (.ref p) (upd H p (.frz ob (.tup xs))) := fun p ob hp hd => by
  have g : Grow F H [] (upd F p (.frz ob (.tup xs))) (upd H p (.frz ob (.tup xs))) [] := Grow.share sub hp
  exact m _ _ _ [] g (.dat (.tup (.inl ⟨ob, upd_same, hd⟩) (DqAll.mono g.f l))) List.nodup_nil (fun _ z => nomatch z)
theorem mk_dat (sub : ∀ a o, F a = some o → H a = some o) {d : PyData} (l : Dq K F v d) (m : Mk K F H (.dat d) Q) : Q v H := m v F H [] (.refl sub []) (.dat l) List.nodup_nil (fun _ z => nomatch z)
/-- data as values -/
theorem dats_own : ∀ {xs : List V} {ds : List PyData}, DqAll K F xs ds → OwnL K F H xs (ds.map S.dat) []
  | _, _, .nil => .nil
  | _, _, .cons a t => OwnL.cons (fp := []) (.dat a) (dats_own t)
theorem datsS_map : ∀ {ss : List S} {ds : List PyData}, datsS ss = some ds → ss = ds.map S.dat
  | [], _, e => by cases e; rfl
  | .dat d :: ss, _, e => by
    simp only [datsS] at e
    obtain ⟨r, hr, rfl⟩ := Option.map_eq_some_iff.mp e
    rw [datsS_map hr]; rfl
  | .con _ :: _, _, e => by simp [datsS] at e
  | .ext _ :: _, _, e => by simp [datsS] at e
  | .lst _ :: _, _, e => by simp [datsS] at e
  | .dct _ _ :: _, _, e => by simp [datsS] at e
  | .ins _ _ :: _, _, e => by simp [datsS] at e
theorem datsS_dats (ds : List PyData) : datsS (ds.map S.dat) = some ds := by
  induction ds with
  | nil => rfl
  | cons d ds ih => simp [datsS, ih]
def S.seqL : S → Option (List PyData)
  | .dat (.list ds) => some ds
  | .lst ss => datsS ss
  | _ => none
def S.seqT : S → Option (List PyData)
  | .dat (.tuple ds) => some ds
  | _ => none
theorem Own.sqL (sub : ∀ a o, F a = some o → H a = some o) (o : Own K F H v s fp) (e : s.seqL = some ds) : ∃ a xs, v = .ref a ∧ SqL K H a xs ∧ DqAll K F xs ds := by
  cases s with
  | dat d => cases d with
    | list ds' =>
      cases e
      obtain ⟨a, xs, rfl, hq, da⟩ := Mv.Dq.list_inv (o.dat_inv rfl).1
      exact ⟨a, xs, rfl, SqL.mono sub hq, da⟩
    | _ => cases e
  | lst ss =>
    obtain ⟨a, xs, fq, rfl, hH, l, hf⟩ := o.lst_inv rfl
    obtain ⟨da, _⟩ := datsS_dp l e
    exact ⟨a, xs, rfl, .inl (.inl hH), da⟩
  | _ => cases e
theorem Own.sqT (sub : ∀ a o, F a = some o → H a = some o) (o : Own K F H v s fp) (e : s.seqT = some ds) : ∃ a xs, v = .ref a ∧ SqT K H a xs ∧ DqAll K F xs ds := by
  cases s with
  | dat d => cases d with
    | tuple ds' =>
      cases e
      obtain ⟨a, xs, rfl, hq, da⟩ := Mv.Dq.tuple_inv (o.dat_inv rfl).1
      exact ⟨a, xs, rfl, SqT.mono sub hq, da⟩
    | _ => cases e
  | _ => cases e
theorem Own.sq (sub : ∀ a o, F a = some o → H a = some o) (o : Own K F H v s fp) (e : (s.seqL <|> s.seqT) = some ds) : ∃ a xs, v = .ref a ∧ (SqL K H a xs ∨ SqT K H a xs) ∧ DqAll K F xs ds := by
  cases h : s.seqL with
  | some ds' =>
    rw [h] at e
    cases e
    obtain ⟨p, xs, rfl, hq, da⟩ := o.sqL sub h
    exact ⟨p, xs, rfl, .inl hq, da⟩
  | none =>
    rw [h] at e
    obtain ⟨p, xs, rfl, hq, da⟩ := o.sqT sub (show s.seqT = some ds from e)
    exact ⟨p, xs, rfl, .inr hq, da⟩
def RvS2 (K : PySem.W.Frag) (r : R2) (f : S → S → Option S) : Prop :=
  ∀ {F H : Hp} {x y : V} {a b c : S} {f1 f2 : List Addr}, (∀ a o, F a = some o → H a = some o) → Own K F H x a f1 → Own K F H y b f2 → f a b = some c → ∀ {Q : VK}, Mk K F H c Q → r x y H Q
def dOpS (f : S → S → Option S) (da db : En → Option Rs) (E : En) : Option Rs := match da E, db E with
  | some a, some b => match a.at E, b.at E with
    | some s, some t => (f s t).map .val
    | _, _ => none
  | _, _ => none
theorem p_opS {r : R2} {f : S → S → Option S} (hr : RvS2 K r f) (ha : EvP K n as ta da) (hb : EvP K n as tb db) : EvP K n as (tOp r ta tb) (dOpS f da db) := by
  intro F H σ E fp L R r' e Q q
  unfold dOpS at e
  split at e
  · next a b ea eb =>
    split at e
    · next s t es et =>
      obtain ⟨c, ec, rfl⟩ := Option.map_eq_some_iff.mp e
      refine ha L R ea fun x F1 H1 f1 g1 r1 n1 o1 => hb L (R.grow g1) eb fun y F2 H2 f2 g2 r2 n2 o2 => ?_
      have R2 := (R.grow g1).grow g2
      obtain ⟨k1, w1⟩ := (r1.grow (R.grow g1) g2).own R2 es
      obtain ⟨k2, w2⟩ := r2.own R2 et
      exact hr R2.sub w1 w2 ec fun v F' H' fr g o nd of => q v F' H' fr (by simpa using (g1.seq0 g2).drop.seq0 g) o nd of
    · cases e
  · cases e
def fCatT : S → S → Option S
  | .dat (.tuple a), .dat (.tuple b) => if a.length + b.length < 100000 then some (.dat (.tuple (a ++ b))) else none
  | _, _ => none
theorem DqAll.append : ∀ {vs ws : List V} {ds es : List PyData}, DqAll K F vs ds → DqAll K F ws es → DqAll K F (vs ++ ws) (ds ++ es)
  | _, _, _, _, .nil, h => h
  | _, _, _, _, .cons a t, h => .cons a (Mv.DqAll.append t h)
theorem rv_catT : RvS2 K (rCatF K) fCatT := by
  intro F H x y a b c f1 f2 sub o1 o2 e Q m
  unfold fCatT at e
  split at e
  · next a b =>
    split at e
    · next hl =>
      cases e
      have d1 := (o1.dat_inv rfl).1
      have d2 := (o2.dat_inv rfl).1
      obtain ⟨p, xs, rfl, h1, l1⟩ := Mv.Dq.tuple_inv d1
      obtain ⟨p', ys, rfl, h2, l2⟩ := Mv.Dq.tuple_inv d2
      refine ⟨p, p', xs, ys, rfl, rfl, SqT.mono sub h1, SqT.mono sub h2, by rw [Mv.DqAll.len l1, Mv.DqAll.len l2, sizeLine_eq]; omega, fun z => ?_, fun _ z => ?_, fun _ _ => mk_tup sub (Mv.DqAll.append l1 l2) m⟩
      · subst z
        cases l1
        exact mk_dat sub d2 m
      · subst z
        cases l2
        rw [List.append_nil] at m
        exact mk_dat sub d1 m
    · cases e
  · cases e
def cutD {α : Type} (xs : List α) (lo hi : Option Int) : List α := (xs.drop (HT.sIx xs.length 0 lo)).take (HT.sIx xs.length xs.length hi - HT.sIx xs.length 0 lo)
theorem DqAll.drop : ∀ (k : Nat) {vs : List V} {ds : List PyData}, DqAll K F vs ds → DqAll K F (vs.drop k) (ds.drop k)
  | 0, _, _, h => by simpa using h
  | k + 1, _, _, .nil => by simpa using DqAll.nil
  | k + 1, _, _, .cons _ t => by simpa using Mv.DqAll.drop k t
theorem DqAll.take : ∀ (k : Nat) {vs : List V} {ds : List PyData}, DqAll K F vs ds → DqAll K F (vs.take k) (ds.take k)
  | 0, _, _, h => by simpa using DqAll.nil
  | k + 1, _, _, .nil => by simpa using DqAll.nil
  | k + 1, _, _, .cons a t => by simpa using DqAll.cons a (Mv.DqAll.take k t)
theorem DqAll.cut (l : DqAll K F xs ds) (lo hi : Option Int) : DqAll K F (cutV xs lo hi) (cutD ds lo hi) := by
  unfold cutV cutD
  rw [Mv.DqAll.len l]
  exact Mv.DqAll.take _ (Mv.DqAll.drop _ l)
def EvO (K : PySem.W.Frag) (n : Nat) (as : Ro) (t : TO) (d : En → Option (Option Int)) : Prop :=
  ∀ {F H : Hp} {σ : L2.St} {E : En} {fp : List Addr}, σ.length = n → Rep K F H (σ ++ as) E fp → ∀ {o : Option Int}, d E = some o → ∀ {Q : Option Int → Hp → Prop},
    (∀ F' H', Grow F H [] F' H' [] → Q o H') → t σ H Q
def dNoPart (_ : En) : Option (Option Int) := some none
def dPart (d : En → Option Rs) (E : En) : Option (Option Int) := match d E with
  | some (.val (.dat (.int i))) => some (some i)
  | _ => none
theorem p_noPart : EvO K n as tNoPart dNoPart := by
  intro F H σ E fp L R o e Q q
  cases e
  exact q F H (.refl R.sub [])
theorem p_part (h : EvP K n as te d) : EvO K n as (tPart te) (dPart d) := by
  intro F H σ E fp L R o e Q q
  unfold dPart at e
  split at e
  · next i ei =>
    cases e
    refine h L R ei fun v F1 H1 f1 g1 a1 n1 o1 => ?_
    cases (Own.dat_inv (show Own K F1 H1 v _ f1 from a1) rfl).1
    exact ⟨i, rfl, q F1 H1 g1.drop⟩
  · cases e
def RvSl (K : PySem.W.Frag) (r : V → Option Int → Option Int → Hp → VK → Prop) (f : S → Option Int → Option Int → Option S) : Prop :=
  ∀ {F H : Hp} {x : V} {a c : S} {lo hi : Option Int} {f1 : List Addr}, (∀ a o, F a = some o → H a = some o) → Own K F H x a f1 → f a lo hi = some c → ∀ {Q : VK}, Mk K F H c Q → r x lo hi H Q
def dSl (f : S → Option Int → Option Int → Option S) (d : En → Option Rs) (dl dh : En → Option (Option Int)) (E : En) : Option Rs := match d E, dl E, dh E with
  | some r, some l, some h => match r.at E with
    | some s => (f s l h).map .val
    | none => none
  | _, _, _ => none
theorem p_slice {r : V → Option Int → Option Int → Hp → VK → Prop} {f : S → Option Int → Option Int → Option S} {tl th : TO} {dl dh : En → Option (Option Int)} (hr : RvSl K r f) (h : EvP K n as te d) (hl : EvO K n as tl dl) (hh : EvO K n as th dh) : EvP K n as (tSl r te tl th) (dSl f d dl dh) := by
  intro F H σ E fp L R r' e Q q
  unfold dSl at e
  split at e
  · next r0 l h0 er el eh =>
    split at e
    · next s es =>
      obtain ⟨c, ec, rfl⟩ := Option.map_eq_some_iff.mp e
      refine h L R er fun x F1 H1 f1 g1 r1 n1 o1 => hl L (R.grow g1) el fun F2 H2 g2 => hh L ((R.grow g1).grow g2) eh fun F3 H3 g3 => ?_
      have R3 := ((R.grow g1).grow g2).grow g3
      obtain ⟨k1, w1⟩ := ((r1.grow (R.grow g1) g2).grow ((R.grow g1).grow g2) g3).own R3 es
      exact hr R3.sub w1 ec fun v F' H' fr g o nd of => q v F' H' fr (by simpa using ((g1.seq0 g2).drop.seq0 g3).drop.seq0 g) o nd of
    · cases e
  · cases e
def fSlT (s : S) (lo hi : Option Int) : Option S := (s.seqT).map fun ds => .dat (.tuple (cutD ds lo hi))
theorem cutD_all {α : Type} {xs : List α} {lo hi : Option Int} (h : HT.sIx xs.length 0 lo = 0 ∧ HT.sIx xs.length xs.length hi = xs.length) : cutD xs lo hi = xs := by
  unfold cutD
  rw [h.1, h.2]
  simp
theorem rv_slT : RvSl K (rSlF K) fSlT := by
  intro F H x a c lo hi f1 sub o e Q m
  obtain ⟨ds, hd, rfl⟩ := Option.map_eq_some_iff.mp e
  have dp : Dq K F x (.tuple ds) := by
    cases a with
    | dat d => cases d with
      | tuple ds' => cases hd; exact (o.dat_inv rfl).1
      | _ => cases hd
    | _ => cases hd
  obtain ⟨p, xs, rfl, hq, da⟩ := Mv.Dq.tuple_inv dp
  refine ⟨p, xs, rfl, SqT.mono sub hq, fun z => ?_, fun _ => mk_tup sub (Mv.DqAll.cut da lo hi) m⟩
  rw [cutD_all (by rw [← Mv.DqAll.len da]; exact z)] at m
  exact mk_dat sub dp m
inductive OwnE (K : PySem.W.Frag) (F H : Hp) : List V → List S → Prop
  | nil : OwnE K F H [] []
  | cons {v : V} {vs : List V} {s : S} {ss : List S} {f : List Addr} : Own K F H v s f → OwnE K F H vs ss → OwnE K F H (v :: vs) (s :: ss)
def atAll (E : En) : List Rs → Option (List S)
  | [] => some []
  | r :: rs => match r.at E, atAll E rs with
    | some s, some ss => some (s :: ss)
    | _, _ => none
theorem RsAll.owns {rs : List Rs} (R : Rep K F H ρ E fp) (a : RsAll K F H ρ E vs rs fr) (h : atAll E rs = some ss) : OwnE K F H vs ss := by
  induction a generalizing ss with
  | nil => cases h; exact .nil
  | @cons v vs r rs f g a t ih =>
    simp only [atAll] at h
    split at h
    · next d ds' e1 e2 =>
      cases h
      obtain ⟨f, o⟩ := a.own R e1
      exact .cons o (ih e2)
    · cases h
def RvSC (K : PySem.W.Frag) (r : List V → Hp → VK → Prop) (f : List S → Option S) : Prop :=
  ∀ {F H : Hp} {vs : List V} {ss : List S} {c : S}, (∀ a o, F a = some o → H a = some o) → OwnE K F H vs ss → f ss = some c → ∀ {Q : VK}, Mk K F H c Q → r vs H Q
def dCS (f : List S → Option S) (dr : En → Option (List Rs)) (E : En) : Option Rs := match dr E with
  | some rs => match atAll E rs with
    | some ss => (f ss).map .val
    | none => none
  | none => none
theorem p_cs {r : List V → Hp → VK → Prop} {f : List S → Option S} (hr : RvSC K r f) (h : EvA K n as tr dr) : EvP K n as (tCB r tr) (dCS f dr) := by
  intro F H σ E fp L R r1 e Q q
  unfold dCS at e
  split at e
  · next rs er =>
    split at e
    · next ss es =>
      obtain ⟨c, ec, rfl⟩ := Option.map_eq_some_iff.mp e
      refine h L R er fun vs F1 H1 f1 g1 a1 n1 o1 => hr (R.grow g1).sub (a1.owns (R.grow g1) es) ec fun v F' H' fr g o nd of => q v F' H' fr (by simpa using g1.drop.seq0 g) o nd of
    · cases e
  · cases e
def eCS (f : List S → Option S) (d : En → Option (S × En)) (E : En) : Option (S × En) := match d E with
  | some (s, E') => (f [s]).map (·, E')
  | none => none
/-- of what a call tells: f must not keep its parts (they are data) -/
theorem e_cs1 {r : List V → Hp → VK → Prop} {f : List S → Option S} (hr : RvSC K r f) (h : EvE K n as te de) : EvE K n as (tCB r (tCons te tNil)) (eCS f de) := by
  intro F H σ E fp L R s E' e Q q
  unfold eCS at e
  split at e
  · next s1 E1 ed =>
    obtain ⟨c, ec, e2⟩ := Option.map_eq_some_iff.mp e
    cases e2
    refine h L R ed fun v F1 H1 fr fp1 g1 R1 o1 nd1 of1 => hr R1.sub (.cons o1 .nil) ec fun w F' H' f2 g o nd of => ?_
    have R2 := R1.grow g
    exact q w F' H' f2 fp1 ((g1.less fun a m => List.mem_append_right _ m).trans (g.ours fp1)) R2 o (R1.apart_new g nd) of
  · cases e
def fList : List S → Option S
  | [s] => match (s.seqL <|> s.seqT) with
    | some ds => some (.lst (ds.map S.dat))
    | none => none
  | _ => none
theorem OwnE.one (o : OwnE K F H vs [s]) : ∃ v f, vs = [v] ∧ Own K F H v s f := by
  cases o with
  | cons a t => cases t; exact ⟨_, _, rfl, a⟩
theorem rc_list : RvSC K (fun xs H Q => ∃ p ys, xs = [.ref p] ∧ (SqL K H p ys ∨ SqT K H p ys) ∧ ∀ l, H l = none → Q (.ref l) (upd H l (.lst ys))) fList := by
  intro F H vs ss c sub o e Q m
  unfold fList at e
  split at e
  · next s =>
    split at e
    · next ds hd =>
      cases e
      obtain ⟨v, f, rfl, o'⟩ := o.one
      clear o
      have o := o'
      obtain ⟨p, xs, rfl, hq, da⟩ := o.sq sub hd
      exact ⟨p, xs, rfl, hq, mk_lst sub (dats_own da) m⟩
    · cases e
  · cases e
def fTuple : List S → Option S
  | [s] => match (s.seqL <|> s.seqT) with
    | some ds => some (.dat (.tuple ds))
    | none => none
  | _ => none
theorem rc_tuple : RvSC K (rTupQ K) fTuple := by
  intro F H vs ss c sub o e Q m
  unfold fTuple at e
  split at e
  · next s =>
    split at e
    · next ds hd =>
      cases e
      obtain ⟨v, f, rfl, o'⟩ := o.one
      clear o
      have o := o'
      cases h : s.seqL with
      | some ds' =>
        rw [h] at hd
        cases hd
        obtain ⟨p, xs, rfl, hq, da⟩ := o.sqL sub h
        exact ⟨p, xs, rfl, .inl ⟨hq, mk_tup sub da m⟩⟩
      | none =>
        rw [h] at hd
        have h2 : s.seqT = some ds := hd
        have dp : Dq K F v (.tuple ds) := by
          cases s with
          | dat d => cases d with
            | tuple ds' => cases h2; exact (o.dat_inv rfl).1
            | _ => cases h2
          | _ => cases h2
        obtain ⟨p, xs, rfl, hq, da⟩ := Mv.Dq.tuple_inv dp
        exact ⟨p, xs, rfl, .inr ⟨SqT.mono sub hq, mk_dat sub dp m⟩⟩
    · cases e
  · cases e
def tupD (E : En) : List Rs → Option (List PyData)
  | [] => some []
  | .val (.dat d) :: rs => (tupD E rs).map (d :: ·)
  | _ => none
def dTup (dr : En → Option (List Rs)) (E : En) : Option Rs := match dr E with
  | some rs => (tupD E rs).map fun ds => .val (.dat (.tuple ds))
  | none => none
theorem RsAll.tupD {rs : List Rs} (a : RsAll K F H ρ E vs rs fr) (h : tupD E rs = some ds) : DqAll K F vs ds := by
  induction a generalizing ds with
  | nil => cases h; exact .nil
  | @cons v vs r rs f g a t ih => cases r with
    | pl p => cases h
    | val s => cases s with
      | dat d =>
        obtain ⟨ds', h1, rfl⟩ := Option.map_eq_some_iff.mp h
        exact .cons (Own.dat_inv (show Own K F H v (.dat d) f from a) rfl).1 (ih h1)
      | _ => cases h
theorem RsAll.len {rs : List Rs} (a : RsAll K F H ρ E vs rs fr) : vs.length = rs.length := by
  induction a with
  | nil => rfl
  | cons _ _ ih => simp only [List.length_cons, ih]
def dTupL (dr : En → Option (List Rs)) (E : En) : Option Rs := match dr E with
  | some rs => if rs.length < 1000 then dTup dr E else none
  | none => none
theorem p_tup (h : EvA K n as tr dr) : EvP K n as (tTupF tr) (dTupL dr) := by
  intro F H σ E fp L R r1 e Q q
  unfold dTupL at e
  split at e
  · next rs er =>
    split at e
    · next hl =>
      unfold dTup at e
      rw [er] at e
      obtain ⟨ds, hd, rfl⟩ := Option.map_eq_some_iff.mp e
      refine h L R er fun vs F1 H1 f1 g1 a1 n1 o1 => ⟨by rw [a1.len, sizeLine_eq]; omega, ?_⟩
      exact mk_tup (R.grow g1).sub (a1.tupD hd) fun v F' H' fr g o nd of => q v F' H' fr (by simpa using g1.drop.seq0 g) o nd of
    · cases e
  · cases e
def lstS : List Rs → Option (List S)
  | [] => some []
  | .val s :: rs => (lstS rs).map (s :: ·)
  | _ => none
def dLst (dr : En → Option (List Rs)) (E : En) : Option Rs := match dr E with
  | some rs => if rs.length < 1000 then (lstS rs).map fun ss => .val (.lst ss) else none
  | none => none
theorem RsAll.lstS {rs : List Rs} (a : RsAll K F H ρ E vs rs fr) (h : lstS rs = some ss) : OwnL K F H vs ss fr := by
  induction a generalizing ss with
  | nil => cases h; exact .nil
  | @cons v vs r rs f g a t ih => cases r with
    | pl p => cases h
    | val s =>
      obtain ⟨ss', h1, rfl⟩ := Option.map_eq_some_iff.mp h
      exact .cons a (ih h1)
theorem p_lst (h : EvA K n as tr dr) : EvP K n as (tLst tr) (dLst dr) := by
  intro F H σ E fp L R r1 e Q q
  unfold dLst at e
  split at e
  · next rs er =>
    split at e
    · next hl =>
      obtain ⟨ss, hs, rfl⟩ := Option.map_eq_some_iff.mp e
      refine h L R er fun vs F1 H1 f1 g1 a1 n1 o1 => ⟨by rw [a1.len, sizeLine_eq]; omega, fun p hp => ?_⟩
      have R1 := R.grow g1
      have g : Grow F1 H1 [] F1 (upd H1 p (.lst vs)) [p] := Grow.alloc R1.sub hp
      have o := a1.lstS hs
      have np : p ∉ f1 := fun m => by obtain ⟨w, hw⟩ := o.there p m; rw [hp] at hw; cases hw
      refine q _ F1 _ (p :: f1) ?_ (lst_write (o.frame (fun _ _ h => h) g.sub fun a m u e => g.keep a u e (fun z => nomatch z))) (List.nodup_cons.mpr ⟨np, n1⟩) fun a m => ?_
      · have := g1.seq0 g
        exact this.less fun a m => by
          rcases List.mem_cons.mp m with rfl | m
          · exact List.mem_append_right _ List.mem_cons_self
          · exact List.mem_append_left _ m
      · rcases List.mem_cons.mp m with rfl | m
        · exact fresh_none R1.sub hp
        · exact o1 a m
    · cases e
  · cases e
end Mv
set_option maxHeartbeats 4000000
namespace Mv
open PySem PySem.Spec PyProof.Rows L2
variable {K : PySem.W.Frag} {F F' F1 F2 F3 H H' H1 H2 H3 : Hp} {v u x y w : V} {vs ws xs : List V} {s t c : S} {ss tts : List S} {fp fq fr fp' fp1 fp2 f1 f2 : List Addr} {ρ as : Ro} {E E' : En} {n : Nat}
variable {W : WXm} {te ta tb tc tk tv td : TE} {d da db dc dk dv : En → Option Rs} {tr : TA} {dr : En → Option (List Rs)} {de df : En → Option (S × En)} {tt : TT} {dte : En → Option (Bool × En)} {ds : List PyData} {Q : VK}
theorem rs_root {i : Nat} {r : Rs} (R : Rep K F H ρ E fp) (hv : ρ[i]? = some (some v)) (e : dVar i E = some r) : RsAt K F H ρ E v r [] := by
  unfold dVar at e
  cases he : E[i]? with
  | none => rw [he] at e; cases e
  | some sl =>
    rw [he] at e
    cases sl with
    | no => cases e
    | bor p =>
      cases e
      obtain ⟨v', h1, h2, h3⟩ := R.bor i p he
      rw [hv] at h1
      cases h1
      exact ⟨rfl, h2, h3⟩
    | own s =>
      have g : eget E [i] = some s := by simp only [eget, he, S.get_nil]
      obtain ⟨u, g1, g2, e1, o, c, _⟩ := R.core.take g
      have eu : u = v := by simp only [followE, hv, follow_nil] at e1; exact (Option.some.inj e1).symm
      subst eu
      have pl : some (Rs.pl [i]) = some r → RsAt K F H ρ E u r [] := fun e' => by
        have e2 := Option.some.inj e'
        subst e2
        exact ⟨rfl, e1, by rw [g]; rfl⟩
      cases s with
      | dat d => cases e; exact .dat (o.dat_inv rfl).1
      | con w =>
        cases e
        obtain ⟨rfl, _⟩ := o.con_inv rfl
        exact .con
      | lst _ => exact pl e
      | dct _ _ => exact pl e
      | ins _ _ => exact pl e
      | ext _ => exact pl e
def tV (v : V) : TE := fun _ H Q => Q v H
def tVs (vs : List V) : TA := fun _ H QA => QA vs H
/-- the j-th of the k last roots -/
def dGh (k j : Nat) (E : En) : Option Rs := if j < k then dVar (E.length - k + j) E else none
theorem gh_at {σ : L2.St} (L : σ.length = n) (R : Rep K F H (σ ++ (as ++ vs.map some)) E fp) {j : Nat} (hj : vs[j]? = some v) : (σ ++ (as ++ vs.map some))[E.length - vs.length + j]? = some (some v) := by
  have len := R.core.len
  rw [List.length_append, List.length_append, List.length_map] at len
  have jl := (List.getElem?_eq_some_iff.mp hj).1
  rw [List.getElem?_append_right (by omega), List.getElem?_append_right (by omega), List.getElem?_map]
  rw [show E.length - vs.length + j - σ.length - as.length = j by omega, hj]; rfl
theorem p_gh {j : Nat} (hj : vs[j]? = some v) : EvP K n (as ++ vs.map some) (tV v) (dGh vs.length j) := by
  intro F H σ E fp L R r e Q q
  unfold dGh at e
  rw [if_pos (List.getElem?_eq_some_iff.mp hj).1] at e
  exact q v F H [] (.refl R.sub []) (rs_root R (gh_at L R hj) e) List.nodup_nil (fun _ m => nomatch m)
def ghs (k : Nat) (E : En) : Nat → Nat → Option (List Rs)
  | _, 0 => some []
  | j, m + 1 => match dVar (E.length - k + j) E, ghs k E (j + 1) m with
    | some r, some rs => some (r :: rs)
    | _, _ => none
def dGhs (k : Nat) (E : En) : Option (List Rs) := ghs k E 0 k
theorem ghs_len (k : Nat) : ∀ {m j : Nat} {rs : List Rs}, ghs k E j m = some rs → rs.length = m
  | 0, _, _, e => by cases e; rfl
  | m + 1, j, rs, e => by
    simp only [ghs] at e
    split at e
    · next r rs' e1 e2 => cases e; simp only [List.length_cons, ghs_len k e2]
    · cases e
theorem a_ghs : EvA K n (as ++ vs.map some) (tVs vs) (dGhs vs.length) := by
  intro F H σ E fp L R rs e Q q
  have go : ∀ (m j : Nat) (rs : List Rs), ghs vs.length E j m = some rs → j + m = vs.length → RsAll K F H (σ ++ (as ++ vs.map some)) E (vs.drop j) rs [] := by
    intro m
    induction m with
    | zero =>
      intro j rs e hj
      cases e
      rw [List.drop_eq_nil_of_le (by omega)]
      exact .nil
    | succ m ih =>
      intro j rs e hj
      simp only [ghs] at e
      split at e
      · next r rs' e1 e2 =>
        cases e
        have hv : vs[j]? = some (vs[j]'(by omega)) := List.getElem?_eq_getElem _
        rw [List.drop_eq_getElem_cons (by omega)]
        exact RsAll.cons (f := []) (g := []) (rs_root R (gh_at L R hv) e1) (ih (j + 1) rs' e2 (by omega))
      · cases e
  have := go vs.length 0 rs e (by omega)
  rw [List.drop_zero] at this
  exact q vs F H [] (.refl R.sub []) this List.nodup_nil (fun _ m => nomatch m)
def EvL (K : PySem.W.Frag) (n : Nat) (as : Ro) (tr : TA) (dl : En → Option (Nat × En)) : Prop :=
  ∀ {F H : Hp} {σ : L2.St} {E : En} {fp : List Addr}, σ.length = n → Rep K F H (σ ++ as) E fp → ∀ {k : Nat} {E' : En}, dl E = some (k, E') → ∀ {Q : List V → Hp → Prop},
    (∀ vs F' H' fp', vs.length = k → Grow F H fp F' H' fp' → Rep K F' H' (σ ++ (as ++ vs.map some)) E' fp' → Q vs H') → tr σ H Q
def lNil (E : En) : Option (Nat × En) := some (0, E)
theorem l_nil : EvL K n as tNil lNil := by
  intro F H σ E fp L R k E' e Q q
  cases e
  exact q [] F H fp rfl (.refl R.sub fp) (by simpa using R)
def up1 (o : Option (Nat × En)) : Option (Nat × En) := o.map fun p => (p.1 + 1, p.2)
variable {dl : En → Option (Nat × En)}
def lConsE (de : En → Option (S × En)) (dl : En → Option (Nat × En)) (E : En) : Option (Nat × En) := match de E with
  | some (s, E1) => up1 (dl (E1 ++ [.own s]))
  | none => none
theorem l_consE (ha : EvE K n as ta de) (hr : ∀ as, EvL K n as tr dl) : EvL K n as (tCons ta tr) (lConsE de dl) := by
  intro F H σ E fp L R k E' e Q q
  unfold lConsE at e
  split at e
  · next s E1 ee =>
    obtain ⟨⟨k1, E2⟩, e2, e3⟩ := Option.map_eq_some_iff.mp e
    cases e3
    refine ha L R ee fun v F1 H1 fr fp1 g1 R1 ov nd of => hr (as ++ [some v]) L (R1.push ov nd of) e2 fun vs F2 H2 fp2 hk g2 R2 => ?_
    exact q (v :: vs) F2 H2 fp2 (by rw [List.length_cons, hk]) (g1.trans g2) (by simpa using R2)
  · cases e
def lConsP (da : En → Option Rs) (dl : En → Option (Nat × En)) (E : En) : Option (Nat × En) := match da E with
  | some (.val s) => up1 (dl (E ++ [.own s]))
  | some (.pl p) => up1 (dl (E ++ [.bor p]))
  | none => none
theorem l_consP (ha : EvP K n as ta da) (hr : ∀ as, EvL K n as tr dl) : EvL K n as (tCons ta tr) (lConsP da dl) := by
  intro F H σ E fp L R k E' e Q q
  unfold lConsP at e
  split at e
  · next s ee =>
    obtain ⟨⟨k1, E2⟩, e2, e3⟩ := Option.map_eq_some_iff.mp e
    cases e3
    refine ha L R ee fun v F1 H1 fr g1 a nd of => hr (as ++ [some v]) L ((R.grow g1).push a (R.apart_new g1 nd) of) e2 fun vs F2 H2 fp2 hk g2 R2 => ?_
    exact q (v :: vs) F2 H2 fp2 (by rw [List.length_cons, hk]) ((g1.ours fp).trans g2) (by simpa using R2)
  · next p ee =>
    obtain ⟨⟨k1, E2⟩, e2, e3⟩ := Option.map_eq_some_iff.mp e
    cases e3
    refine ha L R ee fun v F1 H1 fr g1 a nd of => ?_
    obtain ⟨a1, a2, a3⟩ := a
    subst a1
    refine hr (as ++ [some v]) L ((R.grow g1).hold a2 a3) e2 fun vs F2 H2 fp2 hk g2 R2 => ?_
    exact q (v :: vs) F2 H2 fp2 (by rw [List.length_cons, hk]) (g1.mine.trans g2) (by simpa using R2)
  · cases e
/-- all of them pure: no roots wanted, but they may be held -/
def eEff (dl : En → Option (Nat × En)) (dc : Nat → En → Option (S × En)) (E : En) : Option (S × En) := match dl E with
  | some (k, E1) => match dc k E1 with
    | some (s, E2) => some (s, stripN k E2)
    | none => none
  | none => none
theorem e_eff {C : List V → Hp → VK → Prop} {dcc : Nat → En → Option (S × En)} (hl : EvL K n as tr dl) (hc : ∀ vs : List V, EvE K n (as ++ vs.map some) (fun _ H Q => C vs H Q) (dcc vs.length)) :
    EvE K n as (fun σ H Q => tr σ H fun vs H1 => C vs H1 Q) (eEff dl dcc) := by
  intro F H σ E fp L R s E' e Q q
  unfold eEff at e
  split at e
  · next k E1 el =>
    split at e
    · next s2 E2 ec =>
      cases e
      refine hl L R el fun vs F1 H1 fp1 hk g1 R1 => ?_
      subst hk
      refine hc vs L R1 ec fun v F2 H2 fr fp2 g2 R2 ov nd of => ?_
      obtain ⟨fq, R3, sb⟩ := R2.stripN vs.length rfl
      refine q v F2 H2 fr fq ((g1.trans g2).less fun a m => ?_) R3 ov ?_ of
      · exact List.mem_append.mpr ((List.mem_append.mp m).imp id (sb a))
      · exact List.nodup_append.mpr ⟨(List.nodup_append.mp nd).1, R3.nd, fun a m b m2 => (List.nodup_append.mp nd).2.2 a m b (sb b m2)⟩
    · cases e
  · cases e
variable {r : List V → Hp → VK → Prop}
def dWhen (k m : Nat) (d : En → Option (S × En)) (E : En) : Option (S × En) := if k = m then d E else none
theorem e_callE {m : Nat} {g : List S → Option (S × List S)} {EX : XK} (hl : EvL K n as tr dl) : EvE K n as (tCall (spMv K m g) [] EX tr) (eEff dl fun k => dWhen k m (eCall g (dGhs k))) := by
  have hc : ∀ vs : List V, EvE K n (as ++ vs.map some) (fun _ H Q => spMv K m g (vs ++ []) H Q EX) (dWhen vs.length m (eCall g (dGhs vs.length))) := by
    intro vs F H σ E fp L R s E' e Q q
    unfold dWhen at e
    by_cases hk : vs.length = m
    · rw [if_pos hk] at e
      exact e_call (tr := tVs vs) (EX := EX) a_ghs (fun E rs h => (ghs_len _ h).trans hk) L R e q
    · rw [if_neg hk] at e
      cases e
  intro F H σ E fp L R s E' e Q q
  exact e_eff (C := fun vs H Q => spMv K m g (vs ++ []) H Q EX) (dcc := fun k => dWhen k m (eCall g (dGhs k))) hl hc L R e q
theorem e_op2E {r2 : R2} {dop : (En → Option Rs) → (En → Option Rs) → En → Option Rs} (hp : ∀ {as : Ro} {ta tb : TE} {da db : En → Option Rs}, EvP K n as ta da → EvP K n as tb db → EvP K n as (tOp r2 ta tb) (dop da db)) (hl : EvL K n as (tCons ta (tCons tb tNil)) dl) :
    EvE K n as (tOp r2 ta tb) (eEff dl fun k => dWhen k 2 (ePure (dop (dGh k 0) (dGh k 1)))) := by
  have hc : ∀ vs : List V, EvE K n (as ++ vs.map some) (fun _ H Q => match vs with | [x, y] => r2 x y H Q | _ => False) (dWhen vs.length 2 (ePure (dop (dGh vs.length 0) (dGh vs.length 1)))) := by
    intro vs F H σ E fp L R s E' e Q q
    unfold dWhen at e
    split at e
    · next hk =>
      match vs, hk with
      | [x, y], _ => exact e_pure (hp (ta := tV x) (tb := tV y) (p_gh (vs := [x, y]) rfl) (p_gh (vs := [x, y]) rfl)) L R e q
    · cases e
  intro F H σ E fp L R s E' e Q q
  exact e_eff (tr := tCons ta (tCons tb tNil)) (C := fun vs H Q => match vs with | [x, y] => r2 x y H Q | _ => False) (dcc := fun k => dWhen k 2 (ePure (dop (dGh k 0) (dGh k 1)))) hl hc L R e q
theorem Rep.pop {σ : L2.St} {E0 : En} (R : Rep K F H (σ ++ (as ++ [some w])) (E0 ++ [.own s]) fp) :
    ∃ f1 f2, Own K F H w s f2 ∧ Rep K F H (σ ++ as) (E0.map (killHead E0.length)) f1 ∧ fp.Perm (f2 ++ f1) := by
  obtain ⟨f, l, pm⟩ := R.core.own
  have len : E0.length = (σ ++ as).length := by
    have := R.core.len
    simp only [List.length_append, List.length_cons, List.length_nil] at this ⊢
    omega
  rw [← List.append_assoc, rootS_app len, rootV_app] at l
  obtain ⟨f1, f2, rfl, l1, l2⟩ := l.split (by rw [rootS_len len]; unfold rootV; rw [List.length_map])
  have ow : ∃ f2', f2 = f2' ∧ Own K F H w s f2' := by
    cases l2 with
    | cons a t => cases t; exact ⟨_, by simp, a⟩
  obtain ⟨f2', rfl, ow⟩ := ow
  have pm2 : fp.Perm (f2 ++ f1) := pm.trans List.perm_append_comm
  have nd := pm2.nodup_iff.mp R.nd
  refine ⟨f1, f2, ow, ⟨⟨by rw [List.length_map]; exact len, ⟨f1, by rw [rootS_killHead]; exact l1, List.Perm.refl _⟩, fun j z hj => ?_⟩, R.sub, (List.nodup_append.mp nd).2.1, fun a m => R.off a (pm2.mem_iff.mpr (List.mem_append_right _ m)), fun j p hb => ?_⟩, pm2⟩
  · have hj' := (killHead_get E0 j z).mp hj
    have jl := (List.getElem?_eq_some_iff.mp hj').1
    obtain ⟨v, hv⟩ := R.core.set j z (by rw [List.getElem?_append_left jl]; exact hj')
    exact ⟨v, by rw [← List.append_assoc, List.getElem?_append_left (by omega)] at hv; exact hv⟩
  · rw [List.getElem?_map] at hb
    cases hE : E0[j]? with
    | none => rw [hE] at hb; cases hb
    | some sl =>
      rw [hE] at hb
      cases sl with
      | no => cases hb
      | own z => cases hb
      | bor q =>
        simp only [Option.map_some, killHead, Option.some.injEq] at hb
        by_cases hq : q.head? = some E0.length
        · rw [if_pos hq] at hb; cases hb
        · rw [if_neg hq] at hb
          cases hb
          have jl := (List.getElem?_eq_some_iff.mp hE).1
          obtain ⟨v, e1, e2, e3⟩ := R.bor j p (by rw [List.getElem?_append_left jl]; exact hE)
          refine ⟨v, by rw [← List.append_assoc, List.getElem?_append_left (by omega)] at e1; exact e1, ?_, ?_⟩
          · cases p with
            | nil => cases e2
            | cons i p =>
              unfold followE at e2 ⊢
              dsimp only at e2 ⊢
              rw [← List.append_assoc] at e2
              by_cases hi : i < (σ ++ as).length
              · rw [List.getElem?_append_left hi] at e2; exact e2
              · exfalso
                have : i ≠ E0.length := fun z => hq (by rw [z]; rfl)
                rw [List.getElem?_eq_none_iff.mpr (by simp only [List.length_append, List.length_cons, List.length_nil] at len hi ⊢; omega)] at e2
                cases e2
          · cases p with
            | nil => cases e3
            | cons i p =>
              obtain ⟨t, ht⟩ := Option.isSome_iff_exists.mp e3
              obtain ⟨i', q', s', he, ei, hg⟩ := eget_some ht
              cases he
              have hi : i ≠ E0.length := fun z => hq (by rw [z]; rfl)
              have hl := (List.getElem?_eq_some_iff.mp ei).1
              rw [List.length_append, List.length_cons, List.length_nil] at hl
              rw [List.getElem?_append_left (by omega)] at ei
              have := (killHead_get (i := E0.length) E0 i s').mpr ei
              simp only [eget, this, hg]; rfl
/-- the last k roots' values, from the first -/
def popS : Nat → En → Option (List S × En)
  | 0, E => some ([], E)
  | k + 1, E => match E.getLast? with
    | some (.own s) => match popS k (E.dropLast.map (killHead (E.length - 1))) with
      | some (ss, E') => some (ss ++ [s], E')
      | none => none
    | _ => none
theorem Rep.popN {σ : L2.St} : ∀ (k : Nat) {vs : List V} {E E' : En} {ss : List S} {fp : List Addr}, vs.length = k → Rep K F H (σ ++ (as ++ vs.map some)) E fp → popS k E = some (ss, E') →
    ∃ f1 f2, OwnL K F H vs ss f2 ∧ Rep K F H (σ ++ as) E' f1 ∧ fp.Perm (f2 ++ f1)
  | 0, vs, E, E', ss, fp, h, R, e => by
    have : vs = [] := List.eq_nil_of_length_eq_zero h
    subst this
    cases e
    exact ⟨fp, [], .nil, by simpa using R, by simp⟩
  | k + 1, vs, E, E', ss, fp, h, R, e => by
    rcases List.eq_nil_or_concat vs with z | ⟨ys, w, rfl⟩
    · rw [z] at h; cases h
    · rw [List.concat_eq_append] at h
      rw [List.concat_eq_append, List.map_append, ← List.append_assoc as] at R
      simp only [popS] at e
      split at e
      · next s hs =>
        split at e
        · next ss1 E1 e1 =>
          cases e
          have hE : E = E.dropLast ++ [.own s] := by
            rcases List.eq_nil_or_concat E with z | ⟨E0, z, rfl⟩
            · rw [z] at hs; cases hs
            · rw [List.concat_eq_append] at hs ⊢
              rw [List.getLast?_concat] at hs
              cases hs
              rw [List.dropLast_concat]
          rw [hE] at R
          obtain ⟨g1, g2, ow, R1, p1⟩ := Rep.pop (as := as ++ ys.map some) R
          rw [show E.length - 1 = E.dropLast.length by simp] at e1
          obtain ⟨h1, h2, l, R2, p2⟩ := Rep.popN k (vs := ys) (by simpa using h) R1 e1
          refine ⟨h1, h2 ++ g2, by rw [List.concat_eq_append]; simpa using l.append (OwnL.cons (K := K) (F := F) (H := H) ow .nil), R2, ?_⟩
          refine p1.trans ((List.Perm.append_left g2 p2).trans ?_)
          rw [← List.append_assoc]
          exact List.Perm.append_right h1 List.perm_append_comm
        · cases e
      · cases e
/-- [..] of what calls tell -/
def eLst (dl : En → Option (Nat × En)) (E : En) : Option (S × En) := match dl E with
  | some (k, E1) => if k < 1000 then match popS k E1 with
      | some (ss, E2) => some (.lst ss, E2)
      | none => none
    else none
  | none => none
theorem e_lst (hl : EvL K n as tr dl) : EvE K n as (tLst tr) (eLst dl) := by
  intro F H σ E fp L R s E' e Q q
  unfold eLst at e
  split at e
  · next k E1 el =>
    split at e
    · next hk =>
      split at e
      · next ss E2 ep =>
        cases e
        refine hl L R el fun vs F1 H1 fp1 hk2 g1 R1 => ?_
        subst hk2
        refine ⟨by rw [sizeLine_eq]; omega, fun p hp => ?_⟩
        obtain ⟨h1, h2, l, R2, pm⟩ := R1.popN vs.length rfl ep
        have nd := pm.nodup_iff.mp R1.nd
        have g : Grow F1 H1 [] F1 (upd H1 p (.lst vs)) [p] := Grow.alloc R1.sub hp
        have np : p ∉ h2 ++ h1 := fun m => by obtain ⟨w, hw⟩ := R1.there p (pm.mem_iff.mpr m); rw [hp] at hw; cases hw
        have R3 := R2.grow g
        refine q _ F1 _ (p :: h2) h1 ?_ R3 (lst_write (l.frame (fun _ _ h => h) g.sub fun a m u e => g.keep a u e (fun z => nomatch z))) (by simpa using List.nodup_cons.mpr ⟨np, nd⟩) fun a m => ?_
        · refine (g1.trans (g.ours fp1)).less fun a m => ?_
          rcases List.mem_cons.mp m with rfl | m
          · exact List.mem_append_left _ (List.mem_singleton.mpr rfl)
          · exact List.mem_append_right _ (pm.mem_iff.mpr m)
        · rcases List.mem_cons.mp m with rfl | m
          · exact fresh_none R1.sub hp
          · exact R1.off a (pm.mem_iff.mpr (List.mem_append_left _ m))
      · cases e
    · cases e
  · cases e
end Mv
set_option maxHeartbeats 4000000
namespace Mv
open PySem PySem.Spec PyProof.Rows L2
variable {K : PySem.W.Frag} {F F' F1 F2 F3 H H' H1 H2 H3 : Hp} {v u x y w : V} {vs ws xs : List V} {s t c : S} {ss tts : List S} {fp fq fr fp' fp1 fp2 f1 f2 : List Addr} {ρ as : Ro} {E E' : En} {n : Nat}
variable {W : WXm} {te ta tb tc tk tv td : TE} {d da db dc dk dv : En → Option Rs} {tr : TA} {dr : En → Option (List Rs)} {de df : En → Option (S × En)} {tt : TT} {dte : En → Option (Bool × En)} {ds : List PyData} {Q : VK}
def oLSet (i : Int) (t s : S) : Option (S × S) := match t with
  | .lst ss => match ixN ss.length i with
    | some j => some (.lst (ss.set j s), .dat .none)
    | none => none
  | _ => none
def rLSet1 (i : Int) (u y : V) (H : Hp) (Q : VK) : Prop := ∃ p xs j, u = .ref p ∧ H p = some (.lst xs) ∧ ixN xs.length i = some j ∧ Q .non (upd H p (.lst (xs.set j y)))
theorem nd_lset (i : Int) : Nd1 K (rLSet1 i) (oLSet i) := by
  intro F H u y t s t' c fp1 fr sub ot os nd of e Q q
  unfold oLSet at e
  split at e
  · next ss =>
    split at e
    · next j hj =>
      cases e
      obtain ⟨a, vs, fq, rfl, hH, l, rfl⟩ := ot.lst_inv rfl
      have na : a ∉ fr := fun m => (List.nodup_append.mp nd).2.2 a m a List.mem_cons_self rfl
      have nq : a ∉ fq := (List.nodup_cons.mp (List.nodup_append.mp nd).2.1).1
      have fa : F a = none := of a (List.mem_append_right _ List.mem_cons_self)
      have jl : j < vs.length := by rw [l.length]; exact ixN_at hj
      refine ⟨a, vs, j, rfl, hH, by rw [l.length]; exact hj, ?_⟩
      obtain ⟨g1, g2, g, l2, p1, p2⟩ := l.repl jl os
      have ndf := List.nodup_append.mp nd
      have ndq := (List.nodup_cons.mp ndf.2.1).2
      have hg : ∀ b ∈ g, b ∈ fr ∨ b ∈ fq := fun b m => (List.mem_append.mp (p1.mem_iff.mp m)).imp id fun m => p2.mem_iff.mpr (List.mem_append_right _ m)
      have ng : g.Nodup := p1.nodup_iff.mpr (List.nodup_append.mpr ⟨ndf.1, (List.nodup_append.mp (p2.nodup_iff.mp ndq)).2.1, fun b m c m2 e => ndf.2.2 b m c (List.mem_cons_of_mem _ (p2.mem_iff.mpr (List.mem_append_right _ m2))) e⟩)
      have nag : a ∉ g := fun m => (hg a m).elim na nq
      have g0 : Grow F H [a] F (upd H a (.lst (vs.set j y))) [a] := Grow.write sub fa
      refine q .non F _ [] (a :: g) (g0.wide (fun b m => by rw [List.mem_singleton.mp m]; exact List.mem_append_right _ List.mem_cons_self) fun b m => ?_) (lst_write (l2.off sub fa nag)) (.dat .non) ?_ fun b m => ?_
      · left
        rw [List.nil_append] at m
        rcases List.mem_cons.mp m with rfl | m
        · exact List.mem_append_right _ List.mem_cons_self
        · exact (hg b m).elim (fun m => List.mem_append_left _ m) fun m => List.mem_append_right _ (List.mem_cons_of_mem _ m)
      · rw [List.nil_append]; exact List.nodup_cons.mpr ⟨nag, ng⟩
      · rw [List.nil_append] at m
        rcases List.mem_cons.mp m with rfl | m
        · exact fa
        · exact (hg b m).elim (fun m => of b (List.mem_append_left _ m)) fun m => of b (List.mem_append_right _ (List.mem_cons_of_mem _ m))
    · cases e
  · cases e
def dLSet (da db : En → Option Rs) (de : En → Option (S × En)) (E : En) : Option Out := match de E with
  | some (s, E1) => match da E1, db E1 with
    | some (.pl p), some (.val (.dat (.int i))) => stepAt (oLSet i) E1 p s
    | _, _ => none
  | none => none
theorem s_lset (ha : EvP K n as ta da) (hb : EvP K n as tb db) (he : EvE K n as te de) : EvS K n as W (tAsg te (gSub ta tb rSetL)) (dLSet da db de) := by
  intro F H σ E fp L R o e D g
  unfold dLSet at e
  split at e
  · next s E1 ee =>
    split at e
    · next p i ea eb =>
      refine he L R ee fun v F1 H1 fr fp1 g1 R1 ov nd of => ha L R1 ea fun x F2 H2 f2 g2 r2 n2 o2 => hb L (R1.grow g2) eb fun y F3 H3 f3 g3 r3 n3 o3 => ?_
      have R3 := (R1.grow g2).grow g3
      have g23 : Grow F1 H1 [] F3 H3 [] := (g2.seq0 g3).drop
      have ov3 : Own K F3 H3 v s fr := ov.grow g23 fun _ _ m => nomatch m
      have of3 : ∀ a ∈ fr, F3 a = none := fun a m => by
        obtain ⟨o, eo⟩ := ov.there a m
        exact g23.off a (by rw [eo]; exact fun z => nomatch z) (fun z => nomatch z) (of a m)
      have r2' := r2.grow (R1.grow g2) g3
      cases (Own.dat_inv (show Own K F3 H3 y _ f3 from r3) rfl).1
      unfold stepAt at e
      split at e
      · next t et =>
        split at e
        · next t' c eo =>
          cases e
          have gg : Grow F H fp F3 H3 (fr ++ fp1) := by
            have := g1.trans (g23.ours (fr ++ fp1))
            simpa using this
          have fin := mut1 (nd_lset i) R3 r2' ov3 nd of3 et eo (Q := fun _ H4 => D.nx σ H4) fun v F' H' fv fp' g4 R4 ov4 nd4 of4 => ?_
          · obtain ⟨a, ys, j, rfl, hp, hj, hq⟩ := fin
            exact ⟨a, ys, i, j, rfl, rfl, hp, hj, hq⟩
          · exact g σ F' H' fp' L ((gg.trans g4).less fun a m => List.mem_append_right _ m) R4
        · cases e
      · cases e
    · cases e
  · cases e
end Mv
set_option maxHeartbeats 4000000
namespace Mv
open PySem PySem.Spec PyProof.Rows L2
variable {K : PySem.W.Frag} {F F' F1 F2 F3 H H' H1 H2 H3 : Hp} {v u x y w : V} {vs ws xs : List V} {s t c : S} {ss tts : List S} {fp fq fr fp' fp1 fp2 f1 f2 : List Addr} {ρ as : Ro} {E E' : En} {n : Nat}
variable {W : WXm} {te ta tb tc tk tv td : TE} {d da db dc dk dv : En → Option Rs} {tr : TA} {dr : En → Option (List Rs)} {de df : En → Option (S × En)} {tt : TT} {dte : En → Option (Bool × En)} {ds : List PyData} {Q : VK}
abbrev KD := List (Key × PyData)
/-- a dict of data as it is laid -/
structure KDq (K : PySem.W.Frag) (F : Hp) (kvs : List (Key × V)) (kds : KD) : Prop where
  keys : kvs.map (·.1) = kds.map (·.1)
  vals : DqAll K F (kvs.map (·.2)) (kds.map (·.2))
theorem KDq.mono {kvs : List (Key × V)} {kds : KD} (h : KDq K F kvs kds) (k : ∀ b o, F b = some o → F' b = some o) : KDq K F' kvs kds := ⟨h.keys, DqAll.mono k h.vals⟩
theorem KDq.len {kvs : List (Key × V)} {kds : KD} (h : KDq K F kvs kds) : kvs.length = kds.length := by have := congrArg List.length h.keys; simpa using this
theorem KDq.own {kvs : List (Key × V)} {kds : KD} (h : KDq K F kvs kds) : OwnL K F H (kvs.map (·.2)) ((kds.map fun p => (p.1, S.dat p.2)).map (·.2)) [] := by
  have e : (kds.map fun p => (p.1, S.dat p.2)).map (·.2) = (kds.map (·.2)).map S.dat := by simp
  rw [e]
  exact dats_own (H := H) h.vals
theorem DqAll.set {y : V} {d : PyData} : ∀ {i : Nat} {vs : List V} {ds : List PyData}, DqAll K F vs ds → Dq K F y d → DqAll K F (vs.set i y) (ds.set i d)
  | _, _, _, .nil, _ => by simpa using DqAll.nil
  | 0, _, _, .cons _ t, h => .cons h t
  | i + 1, _, _, .cons a t, h => .cons a (Mv.DqAll.set (i := i) t h)
theorem KDq.put {kvs : List (Key × V)} {kds : KD} {k : Key} {d : PyData} (h : KDq K F kvs kds) (nd : (kds.map (·.1)).Nodup) (hv : Dq K F v d) : KDq K F (putK kvs k v) (putS kds k d) := by
  rw [putK_kix v kvs (by rw [h.keys]; exact nd)]
  unfold putS
  rw [h.keys]
  split
  · next i hi =>
    exact ⟨by rw [setSnd_fst, setSnd_fst]; exact h.keys, by rw [setSnd_snd, setSnd_snd]; exact Mv.DqAll.set h.vals hv⟩
  · exact ⟨by simp [h.keys], by simpa using Mv.DqAll.append h.vals (.cons hv .nil)⟩
open PySem.W (alike alikeAll AlikeAll minD)
end Mv
set_option maxHeartbeats 4000000
namespace Mv
open PySem PySem.Spec PyProof.Rows L2
variable {K : PySem.W.Frag} {F F' F1 F2 F3 H H' H1 H2 H3 : Hp} {v u x y w : V} {vs ws xs : List V} {s t c : S} {ss tts : List S} {fp fq fr fp' fp1 fp2 f1 f2 : List Addr} {ρ as : Ro} {E E' : En} {n : Nat}
variable {W : WXm} {te ta tb tc tk tv td : TE} {d da db dc dk dv : En → Option Rs} {tr : TA} {dr : En → Option (List Rs)} {de df : En → Option (S × En)} {tt : TT} {dte dtf : En → Option (Bool × En)} {ds : List PyData} {Q : VK}
theorem rootS_killNo {i : Nat} : ∀ {ρ : Ro} {E : En} {v : Option V}, E.length = ρ.length → ρ[i]? = some v → rootS ρ (slotSet E i .no) = (rootS ρ E).set i (.con (v.getD .non)) := by
  intro ρ E v l h
  have hi := (List.getElem?_eq_some_iff.mp h).1
  have e1 : ρ = ρ.set i v := by
    apply List.ext_getElem?
    intro j
    by_cases ij : i = j
    · subst ij; rw [List.getElem?_set_self hi, h]
    · rw [List.getElem?_set_ne ij]
  have := rootS_set2 (ρ := ρ) (E := E.map (killHead i)) (i := i) (v := v) (e := .no) (by rw [List.length_map]; exact l)
  rw [← e1, rootS_killHead] at this
  unfold slotSet
  rw [this]
  rfl
theorem Rep.takeSlot {i : Nat} (R : Rep K F H ρ E fp) (hE : E[i]? = some (Sl.own s)) (hv : ρ[i]? = some (some v)) :
    ∃ fr fq, Own K F H v s fr ∧ Rep K F H ρ (slotSet E i .no) fq ∧ fp.Perm (fr ++ fq) := by
  obtain ⟨f, l, pm⟩ := R.core.own
  have len := R.core.len
  obtain ⟨x, g1, g2, e1, o1, l2, p1⟩ := l.take (rootS_get len hE)
  have ex : x = v := by
    unfold rootV at e1
    rw [List.getElem?_map, hv] at e1
    simpa using e1.symm
  subst ex
  have hi := (List.getElem?_eq_some_iff.mp hv).1
  have pm2 : fp.Perm (g1 ++ g2) := pm.trans p1
  have nd := pm2.nodup_iff.mp R.nd
  have hEl : i < E.length := by omega
  refine ⟨g1, g2, o1, ⟨⟨by unfold slotSet; rw [List.length_set, List.length_map]; exact len, ⟨g2, ?_, List.Perm.refl _⟩, fun j z hj => ?_⟩, R.sub, (List.nodup_append.mp nd).2.1, fun a m => R.off a (pm2.mem_iff.mpr (List.mem_append_right _ m)), fun j p hb => ?_⟩, pm2⟩
  · rw [rootS_killNo len hv]; exact l2
  · by_cases ij : i = j
    · subst ij; exact ⟨_, hv⟩
    · unfold slotSet at hj
      rw [List.getElem?_set_ne ij] at hj
      exact R.core.set j z ((killHead_get E j z).mp hj)
  · by_cases ij : i = j
    · subst ij
      unfold slotSet at hb
      rw [List.getElem?_set_self (by rw [List.length_map]; exact hEl)] at hb
      cases hb
    · unfold slotSet at hb
      rw [List.getElem?_set_ne ij, List.getElem?_map] at hb
      cases hE2 : E[j]? with
      | none => rw [hE2] at hb; cases hb
      | some sl =>
        rw [hE2] at hb
        cases sl with
        | no => cases hb
        | own w => cases hb
        | bor q =>
          simp only [Option.map_some, killHead, Option.some.injEq] at hb
          by_cases hq : q.head? = some i
          · rw [if_pos hq] at hb; cases hb
          · rw [if_neg hq] at hb
            cases hb
            obtain ⟨w, e1, e2, e3⟩ := R.bor j _ hE2
            exact ⟨w, e1, e2, by rw [eget_set hq]; exact e3⟩
def eMove (i : Nat) (E : En) : Option (S × En) := match E[i]? with
  | some (.own s) => some (s, slotSet E i .no)
  | _ => none
theorem e_move {i : Nat} (hi : i < n) : EvE K n as (tVar i) (eMove i) := by
  intro F H σ E fp L R s0 E0 e Q q
  unfold eMove at e
  split at e
  · next s he =>
    cases e
    obtain ⟨v, hv⟩ := R.core.set i _ he
    have hv' : σ[i]? = some (some v) := by rwa [List.getElem?_append_left (by omega)] at hv
    obtain ⟨fr, fq, ow, R2, pm⟩ := R.takeSlot he hv
    exact ⟨v, hv', q v F H fr fq ((Grow.refl R.sub fp).less fun a m => pm.mem_iff.mpr m) R2 ow (pm.nodup_iff.mp R.nd) fun a m => R.off a (pm.mem_iff.mpr (List.mem_append_left _ m))⟩
  · cases e
theorem dl_nil : ∀ E rs, dNil E = some rs → rs.length = 0 := fun E rs h => by cases h; rfl
theorem dl_cons {m : Nat} (h : ∀ E rs, dr E = some rs → rs.length = m) : ∀ E rs, dCons da dr E = some rs → rs.length = m + 1 := fun E rs e => by
  unfold dCons at e
  split at e
  · next a r ea er => cases e; rw [List.length_cons, h E r er]
  · cases e
def eIfE (dt : En → Option (Bool × En)) (da db : En → Option (S × En)) (E : En) : Option (S × En) := match dt E with
  | some (true, E1) => da E1
  | some (false, E1) => db E1
  | none => none
theorem e_ifE (ht : EvTE K n as tt dte) (ha : EvE K n as ta de) (hb : EvE K n as tb df) : EvE K n as (tIf tt ta tb) (eIfE dte de df) := by
  intro F H σ E fp L R s E' e Q q
  unfold eIfE at e
  split at e
  · next E1 et => exact ht L R et fun F1 H1 fp1 g1 R1 => iteT (ha L R1 e fun v F2 H2 fr fp2 g2 => q v F2 H2 fr fp2 (g1.trans g2))
  · next E1 et => exact ht L R et fun F1 H1 fp1 g1 R1 => iteF (hb L R1 e fun v F2 H2 fr fp2 g2 => q v F2 H2 fr fp2 (g1.trans g2))
  · cases e
/-- the promise of nothing -/
def gNone (_ : List S) : Option (S × List S) := none
theorem fn_none {P : Program} {w : World} {mg : Str → Option Value} {base : Heap} {CX : CXT} {k : Nat} {f : Addr} {fd : FuncData} {ps : List Str} : FnOk P w K mg base CX k f fd ps (spMv K ps.length gNone) :=
  ⟨fun vs H Q E h => h.1, fun A outer s H args us vs Q E hr he hb hv h => by
    obtain ⟨_, F, ss, fp, s, ss', sub, l, nd, of, hg, q⟩ := h
    cases hg⟩
end Mv
set_option maxHeartbeats 4000000
namespace L2
open PySem PySem.Spec PyProof.Rows
end L2
set_option maxHeartbeats 4000000
namespace Mv
open PySem PySem.Spec PyProof.Rows L2
variable {X : Cx} {K : PySem.W.Frag} {e : Expr}
theorem pe_K {t : PySem.W.Frag → TE} (h : PE X e (t X.K)) (hK : X.K = K := by rfl) : PE X e (t K) := hK ▸ h
def rLenK (K : PySem.W.Frag) : List V → Hp → VK → Prop := fun xs H Q => ∃ p ys, xs = [.ref p] ∧ (SqL K H p ys ∨ SqT K H p ys) ∧ Q (.int ys.length) H
theorem call_lenK : CallR X (.builtin "len") (rLenK X.K) := call_len_seq
def rListOfK (K : PySem.W.Frag) : List V → Hp → VK → Prop := fun xs H Q => ∃ p ys, xs = [.ref p] ∧ (SqL K H p ys ∨ SqT K H p ys) ∧ ∀ l, H l = none → Q (.ref l) (upd H l (.lst ys))
theorem call_listK : CallR X (.type "list") (rListOfK X.K) := call_list_of
variable {n : Nat} {as : Ro} {te : TE} {tl th : TO} {d : En → Option Rs} {dl dh : En → Option (Option Int)} {dn : En → Option (Nat × En)} {dlo dhi : En → Option (Option Int × En)}
theorem p_sliceT (h : EvP K n as te d) (hl : EvO K n as tl dl) (hh : EvO K n as th dh) : EvP K n as (tSl (rSlF K) te tl th) (dSl fSlT d dl dh) := p_slice (r := rSlF K) (f := fSlT) (@rv_slT K) h hl hh
end Mv
set_option maxHeartbeats 4000000
namespace Mv
open PySem PySem.Spec PyProof.Rows L2
variable {E E' E1 E2 : En} {s t : S} {d1 d2 : En → Option Out} {dt : En → Option (Bool × En)}
theorem dSeq_nx (h : d1 E = some (.nx E1)) : dSeq d1 d2 E = d2 E1 := by unfold dSeq; rw [h]
theorem dSeq_go {r : Option Out} (h : d1 E = some (.nx E1)) (h2 : d2 E1 = r) : dSeq d1 d2 E = r := by rw [dSeq_nx h]; exact h2
theorem fnG_rt {n : Nat} {ss ss' : List S} (h : d1 (entry n ss) = some (.rt s E)) (h2 : ownSs (E.drop n) = some ss') : fnG n d1 ss = some (s, ss') := by unfold fnG; rw [h]; simp only [h2]; rfl
theorem fnG_nx {n : Nat} {ss ss' : List S} (h : d1 (entry n ss) = some (.nx E)) (h2 : ownSs (E.drop n) = some ss') : fnG n d1 ss = some (.dat .none, ss') := by unfold fnG; rw [h]; simp only [h2]; rfl
theorem dSeq_rt (h : d1 E = some (.rt s E1)) : dSeq d1 d2 E = some (.rt s E1) := by unfold dSeq; rw [h]
theorem dIf_true (h : dt E = some (true, E1)) : dIf dt d1 d2 E = d1 E1 := by unfold dIf; rw [h]
theorem dIf_false (h : dt E = some (false, E1)) : dIf dt d1 d2 E = d2 E1 := by unfold dIf; rw [h]
theorem dIf_t {r : Option Out} (h : dt E = some (true, E1)) (h2 : d1 E1 = r) : dIf dt d1 d2 E = r := by rw [dIf_true h]; exact h2
theorem dIf_f {r : Option Out} (h : dt E = some (false, E1)) (h2 : d2 E1 = r) : dIf dt d1 d2 E = r := by rw [dIf_false h]; exact h2
theorem dLoop_end {rd : En → Nat → Option (Option Rs)} {bd : Rs → En → Option En} {db : En → Option Out} {fuel i : Nat} (h : rd E i = some none) : dLoop rd bd db fuel i E = some (.nx E) := by
  rw [dLoop.eq_def]; simp only [h]
theorem dLoop_nx {rd : En → Nat → Option (Option Rs)} {bd : Rs → En → Option En} {db : En → Option Out} {fuel i : Nat} {r : Rs} (h : rd E i = some (some r)) (hb : bd r E = some E1) (hd : db E1 = some (.nx E2)) : dLoop rd bd db (fuel + 1) i E = dLoop rd bd db fuel (i + 1) E2 := by
  rw [dLoop.eq_def]; simp only [h, hb, hd]
theorem lcLoop_end {rd : En → Nat → Option (Option Rs)} {j : Nat} {de : En → Option (S × En)} {fuel i : Nat} {acc : List S} (h : rd E i = some none) : dLcLoop rd j dt de fuel i acc E = some (acc, E) := by
  rw [dLcLoop.eq_def]; simp only [h]
theorem lcLoop_yes {rd : En → Nat → Option (Option Rs)} {j : Nat} {de : En → Option (S × En)} {fuel i : Nat} {acc : List S} {r : Rs} {E3 : En} (h : rd E i = some (some r)) (hb : bName j r E = some E1) (ht : dt E1 = some (true, E2)) (he : de E2 = some (s, E3)) (hl : acc.length < 100000) :
    dLcLoop rd j dt de (fuel + 1) i acc E = dLcLoop rd j dt de fuel (i + 1) (acc ++ [s]) (slotSet E3 j .no) := by
  rw [dLcLoop.eq_def]; simp only [h, hb, ht, he, if_pos hl]
theorem lcLoop_no {rd : En → Nat → Option (Option Rs)} {j : Nat} {de : En → Option (S × En)} {fuel i : Nat} {acc : List S} {r : Rs} (h : rd E i = some (some r)) (hb : bName j r E = some E1) (ht : dt E1 = some (false, E2)) :
    dLcLoop rd j dt de (fuel + 1) i acc E = dLcLoop rd j dt de fuel (i + 1) acc (slotSet E2 j .no) := by
  rw [dLcLoop.eq_def]; simp only [h, hb, ht]
def tI (ns : List Int) : S := .dat (.tuple (ns.map .int))
def lI (ns : List Int) : S := .lst (ns.map fun i => .dat (.int i))
theorem eCall_go {g : List S → Option (S × List S)} {dr : En → Option (List Rs)} {rs : List Rs} {ss ss' : List S} (h1 : dr E = some rs) (h2 : placesOk rs = true) (h3 : argS E rs = some ss) (h4 : g ss = some (s, ss')) : eCall g dr E = some (s, killAll (putAll E rs ss') rs) := by
  unfold eCall
  simp only [h1, if_pos h2, h3, h4]
theorem dSet_go {i : Nat} {de : En → Option (S × En)} (h : de E = some (s, E1)) : dSet i de E = some (.nx (slotSet E1 i (.own s))) := by unfold dSet; rw [h]
theorem cutD_from {α : Type} {xs : List α} {k : Nat} (h : k ≤ xs.length) : cutD xs (some (k : Int)) none = xs.drop k := by
  unfold cutD
  rw [HT.sIx_nat, HT.sIx_none, Nat.min_eq_left h, List.take_of_length_le]
  rw [List.length_drop]; exact Nat.le_refl _
theorem dcons_go {da : En → Option Rs} {dr : En → Option (List Rs)} {r : Rs} {rs : List Rs} (h : da E = some r) (h2 : dr E = some rs) : dCons da dr E = some (r :: rs) := by unfold dCons; rw [h, h2]
theorem slT_from {da dl : En → Option Rs} {ns : List Int} {k : Nat} (ha : da E = some (.val (tI ns))) (hl : dl E = some (.val (.dat (.int (k : Int))))) (h : k ≤ ns.length) : dSl fSlT da (dPart dl) dNoPart E = some (.val (tI (ns.drop k))) := by
  unfold dSl dPart
  rw [ha, hl]
  show (fSlT (tI ns) (some (k : Int)) none).map Rs.val = _
  show (some (S.dat (.tuple (cutD (ns.map PyData.int) (some (k : Int)) none)))).map Rs.val = _
  rw [cutD_from (by simpa using h), ← List.map_drop]; rfl
theorem ixN_in {n j : Nat} (hj : j < n) : ixN n (j : Int) = some j := by
  unfold ixN
  rw [if_pos (Int.natCast_nonneg j), if_pos (by exact_mod_cast hj)]; rfl
end Mv
set_option maxHeartbeats 4000000
namespace Mv
open PySem PySem.Spec PyProof.Rows L2
variable {E E' E1 E2 : En} {s t : S}
theorem lc_pure {rd : En → Nat → Option (Option Rs)} {j : Nat} {de : En → Option (S × En)} {E : En} (out : Nat → S) (n : Nat) (hn : n < 100000)
    (hs : ∀ i, i < n → ∃ r E1 E3, rd E i = some (some r) ∧ bName j r E = some E1 ∧ de E1 = some (out i, E3) ∧ slotSet E3 j .no = E) (he : rd E n = some none) :
    ∀ (m i fuel : Nat) (acc : List S), i + m = n → m ≤ fuel → acc.length = i → dLcLoop rd j eYes de fuel i acc E = some (acc ++ (List.range' i m).map out, E) := by
  intro m
  induction m with
  | zero =>
    intro i fuel acc hi _ _
    have : i = n := by omega
    subst this
    rw [lcLoop_end he]; simp
  | succ m ih =>
    intro i fuel acc hi hf ha
    cases fuel with
    | zero => omega
    | succ fuel =>
      obtain ⟨r, E1, E3, h1, h2, h3, h4⟩ := hs i (by omega)
      rw [lcLoop_yes h1 h2 rfl h3 (by omega), h4, ih (i + 1) fuel (acc ++ [out i]) (by omega) (by omega) (by simp [ha])]
      simp [List.range'_succ]
theorem rdD_I {ns : List Int} {i : Nat} {h : Int} (h3 : ns[i]? = some h) : rdD (ns.map .int) E i = some (some (.val (.dat (.int h)))) := by
  unfold rdD
  simp [List.getElem?_map, h3]
theorem rdD_end {ns : List Int} {i : Nat} (h3 : ns.length ≤ i) : rdD (ns.map .int) E i = some none := by
  unfold rdD
  simp [List.getElem?_map, List.getElem?_eq_none_iff.mpr h3]
theorem map_range' {α β : Type} (f : α → β) (xs : List α) (out : Nat → β) (h : ∀ i a, xs[i]? = some a → out i = f a) : (List.range' 0 xs.length).map out = xs.map f := by
  apply List.ext_getElem?
  intro i
  rw [List.getElem?_map, List.getElem?_map]
  by_cases hi : i < xs.length
  · have e : (List.range' 0 xs.length)[i]? = some i := by rw [List.getElem?_range' (by omega)]; simp
    rw [e, List.getElem?_eq_getElem hi]
    simp [h i xs[i] (List.getElem?_eq_getElem hi)]
  · have e : (List.range' 0 xs.length)[i]? = none := List.getElem?_eq_none_iff.mpr (by simp; omega)
    rw [e, List.getElem?_eq_none_iff.mpr (by omega)]; rfl
theorem boolsD_trues (n : Nat) : boolsD (List.replicate n (PyData.bool true)) = some (List.replicate n true) := by
  induction n with
  | zero => rfl
  | succ n ih => rw [List.replicate_succ, List.replicate_succ]; simp [boolsD, ih]
theorem toDs_dats : ∀ (ds : List PyData), S.toDs (ds.map S.dat) = some ds
  | [] => rfl
  | d :: ds => by simp [S.toDs, S.toD, toDs_dats ds]
theorem all_trues {n : Nat} : fAll [.list (List.replicate n (.bool true))] = some (.bool true) := by
  simp [fAll, boolsD_trues]
variable {de df : En → Option (S × En)} {a c : PyData}
theorem eAndV_t {r : Option (S × En)} (h : de E = some (.dat (.bool true), E1)) (h2 : df E1 = r) : eAndV de df E = r := by unfold eAndV; rw [h]; exact h2
theorem eCB1_go {f : List PyData → Option PyData} (h : de E = some (s, E1)) (h2 : s.toD = some a) (h3 : f [a] = some c) : eCB1 f de E = some (.dat c, E1) := by unfold eCB1; rw [h]; simp only [h2, h3]; rfl
theorem eCS_go {f : List S → Option S} (h : de E = some (s, E1)) (h3 : f [s] = some t) : eCS f de E = some (t, E1) := by unfold eCS; rw [h]; simp only [h3]; rfl
theorem dRet_go (h : de E = some (s, E1)) : dRet de E = some (.rt s E1) := by unfold dRet; rw [h]
theorem dDrop_go (h : de E = some (s, E1)) : dDrop de E = some (.nx E1) := by unfold dDrop; rw [h]
theorem eTest_go {b : Bool} (h : de E = some (.dat (.bool b), E1)) : eTest de E = some (b, E1) := by unfold eTest; rw [h]
theorem eNot_go {dt : En → Option (Bool × En)} {b : Bool} (h : dt E = some (b, E1)) : eNot dt E = some (!b, E1) := by unfold eNot; rw [h]; rfl
theorem eOr_f {dt du : En → Option (Bool × En)} {r : Option (Bool × En)} (h : dt E = some (false, E1)) (h2 : du E1 = r) : eOr dt du E = r := by unfold eOr; rw [h]; exact h2
theorem eLc_go {src : En → Option Src} {j : Nat} {dt : En → Option (Bool × En)} {acc : List S} {c : Src} (h : src E = some c) (h2 : dLcLoop c.rd j dt de c.fuel 0 [] (slotSet (c.env ++ c.exE) j .no) = some (acc, E1)) : eLc src j dt de E = some (.lst acc, stripE c E1) := by
  unfold eLc; rw [h]; simp only [h2]
theorem dFor_go {src : En → Option Src} {bd : Rs → En → Option En} {db : En → Option Out} {c : Src} (h : src E = some c) (h2 : dLoop c.rd bd db c.fuel 0 (c.env ++ c.exE) = some (.nx E1)) : dFor src bd db E = some (.nx (stripE c E1)) := by
  unfold dFor; rw [h]; simp only [h2]; rfl
/-- a loop of n turns that each go on -/
theorem loop_nx {rd : En → Nat → Option (Option Rs)} {bd : Rs → En → Option En} {db : En → Option Out} (env : Nat → En) (n : Nat) (hs : ∀ i, i < n → ∃ r E1, rd (env i) i = some (some r) ∧ bd r (env i) = some E1 ∧ db E1 = some (.nx (env (i + 1)))) (he : rd (env n) n = some none) :
    ∀ (m i fuel : Nat), i + m = n → m ≤ fuel → dLoop rd bd db fuel i (env i) = some (.nx (env n)) := by
  intro m
  induction m with
  | zero => intro i fuel hi _; have : i = n := by omega
            subst this; exact dLoop_end he
  | succ m ih =>
    intro i fuel hi hf
    cases fuel with
    | zero => omega
    | succ fuel =>
      obtain ⟨r, E1, h1, h2, h3⟩ := hs i (by omega)
      rw [dLoop_nx h1 h2 h3]
      exact ih (i + 1) fuel (by omega) (by omega)
/-- a loop whose state is found on the way: J i E what holds ahead of turn i -/
theorem loop_inv {rd : En → Nat → Option (Option Rs)} {bd : Rs → En → Option En} {db : En → Option Out} (J : Nat → En → Prop) (n : Nat) (hs : ∀ i E, i < n → J i E → ∃ r E1 E2, rd E i = some (some r) ∧ bd r E = some E1 ∧ db E1 = some (.nx E2) ∧ J (i + 1) E2) (he : ∀ E, J n E → rd E n = some none) :
    ∀ (m i fuel : Nat) (E : En), i + m = n → m ≤ fuel → J i E → ∃ E', dLoop rd bd db fuel i E = some (.nx E') ∧ J n E' := by
  intro m
  induction m with
  | zero => intro i fuel E hi _ hJ; have : i = n := by omega
            subst this; exact ⟨E, dLoop_end (he E hJ), hJ⟩
  | succ m ih =>
    intro i fuel E hi hf hJ
    cases fuel with
    | zero => omega
    | succ fuel =>
      obtain ⟨r, E1, E2, h1, h2, h3, h4⟩ := hs i E (by omega) hJ
      rw [dLoop_nx h1 h2 h3]
      exact ih (i + 1) fuel E2 (by omega) (by omega) h4
theorem iRange_go {d : En → Option Rs} {j : Int} (h : d E = some (.val (.dat (.int j)))) (h1 : 0 ≤ j) (h2 : j < 1000000) : iRange d E = some ⟨E, [], fun _ i => some (if i < j.toNat then some (.val (.dat (.int (i : Nat)))) else none), j.toNat⟩ := by
  unfold iRange
  rw [h]
  exact if_pos ⟨by omega, by omega⟩
theorem rng_rd {n i : Nat} (h : i < n) : (fun (_ : En) (i : Nat) => (some (if i < n then some (Rs.val (.dat (.int (i : Nat)))) else none) : Option (Option Rs))) E i = some (some (.val (.dat (.int (i : Nat))))) := by
  show some (if i < n then _ else _) = _
  rw [if_pos h]
theorem rng_end {n : Nat} : (fun (_ : En) (i : Nat) => (some (if i < n then some (Rs.val (.dat (.int (i : Nat)))) else none) : Option (Option Rs))) E n = some none := by
  show some (if n < n then _ else _) = _
  rw [if_neg (by omega)]
end Mv
set_option maxHeartbeats 4000000
namespace Mv
open PySem PySem.Spec PyProof.Rows L2
variable {X : Cx} {K : PySem.W.Frag} {F F' F1 F2 F3 H H' H1 H2 H3 : Hp} {v u x y w : V} {vs ws xs : List V} {s t c : S} {ss tts : List S} {fp fq fr fp' fp1 fp2 f1 f2 : List Addr} {ρ as : Ro} {E E' : En} {n : Nat}
variable {W : WXm} {te ta tb tc tk tv td : TE} {d da db dc dk dv : En → Option Rs} {tr : TA} {dr : En → Option (List Rs)} {de df : En → Option (S × En)} {dl : En → Option (Nat × En)} {ds : List PyData} {Q : VK}
theorem e_tupE (hl : EvL K n as tr dl) : EvE K n as (tTupF tr) (eEff dl fun k => ePure (dTupL (dGhs k))) := by
  have hc : ∀ vs : List V, EvE K n (as ++ vs.map some) (fun _ H Q => vs.length ≤ sizeLine ∧ ∀ (p : Addr) (ob : Obj), H p = none → ob.dict = none → Q (.ref p) (upd H p (.frz ob (.tup vs)))) (ePure (dTupL (dGhs vs.length))) := by
    intro vs F H σ E fp L R s E' e Q q
    exact e_pure (p_tup (tr := tVs vs) a_ghs) L R e q
  intro F H σ E fp L R s E' e Q q
  exact e_eff (C := fun vs H Q => vs.length ≤ sizeLine ∧ ∀ (p : Addr) (ob : Obj), H p = none → ob.dict = none → Q (.ref p) (upd H p (.frz ob (.tup vs)))) (dcc := fun k => ePure (dTupL (dGhs k))) hl hc L R e q
end Mv
set_option maxHeartbeats 4000000
namespace Mv
open PySem PySem.Spec PyProof.Rows L2
end Mv
set_option maxHeartbeats 4000000
namespace Mv
open PySem PySem.Spec PyProof.Rows L2
variable {K : PySem.W.Frag} {F F' F1 F2 F3 H H' H1 H2 H3 : Hp} {v u x y w : V} {vs ws xs : List V} {s t c : S} {ss tts : List S} {fp fq fr fp' fp1 fp2 f1 f2 : List Addr} {ρ as : Ro} {E E' : En} {n : Nat}
variable {W : WXm} {te ta tb tc tk tv td : TE} {d da db dc dk dv : En → Option Rs} {tr : TA} {dr : En → Option (List Rs)} {de df : En → Option (S × En)} {tt : TT} {dte : En → Option (Bool × En)} {Q : VK} {dl : En → Option (Nat × En)}
inductive Rx where
  | rt (s : S)
  | ex (c : Nat)
def spMvX (K : PySem.W.Frag) (m : Nat) (g : List S → Option (Rx × List S)) : Sp := fun vs H Q EX => vs.length = m ∧ ∃ F ss fp r ss', (∀ a o, F a = some o → H a = some o) ∧ OwnL K F H vs ss fp ∧ fp.Nodup ∧ (∀ a ∈ fp, F a = none) ∧ g ss = some (r, ss') ∧
  match r with
  | .rt s => ∀ v F' H' fr fp', Grow F H fp F' H' (fr ++ fp') → OwnL K F' H' vs ss' fp' → Own K F' H' v s fr → (fr ++ fp').Nodup → (∀ a ∈ fr ++ fp', F' a = none) → Q v H'
  | .ex c => ∀ C F' H' fp', clsOf K c C → Grow F H fp F' H' fp' → OwnL K F' H' vs ss' fp' → fp'.Nodup → (∀ a ∈ fp', F' a = none) → EX (.ref C) none H'
def fnGX (n : Nat) (d : En → Option Out) (ss : List S) : Option (Rx × List S) := match d (entry n ss) with
  | some (.rt s E) => (ownSs (E.drop n)).map (.rt s, ·)
  | some (.nx E) => (ownSs (E.drop n)).map (.rt (.dat .none), ·)
  | some (.ex c E) => (ownSs (E.drop n)).map (.ex c, ·)
  | _ => none
section
variable {P : Program} {w : World} {mg : Str → Option Value} {base : Heap}
/-- A DEF OF THE TEXT that may raise -/
theorem fn_mvX {x qual : Str} {st : Stmt} {f : Addr} {fd : FuncData} {N ps : List Str} {k : Nat} {dd : En → Option Out} (Fn : Fun K x qual st f fd) (Sc : FnScope N ps (defScope st))
    (body : ∀ (cdv : Value) (A : Around) (outer : List Env) (s : Shared) (H : Hp) (EX : XK) (as : Ro), Room k (A.deeper (envOfC qual (defScope st) s.heap.objs.size f cdv)) →
      ∃ t, PSs (cxOf (L2.CX P w) P w K mg base N qual (defScope st) f cdv A outer s H EX) (defBody st) t ∧ EvS K N.length as (fun c d _ H => EX c d H) t dd) :
    FnOk P w K mg base (L2.CX P w) (k + 1) f fd ps (spMvX K ps.length (fnGX N.length dd)) := by
  have hps : ps.length ≤ N.length := by have := congrArg List.length Sc.pre; rw [List.length_take] at this; omega
  refine Fn.okX Sc (fun vs H Q E h => h.1) (fun cdv A outer s H vs Q E hr h => ?_)
  obtain ⟨hl, F, ss, fp, r, ss', sub, l, nd, of, hg, q⟩ := h
  obtain ⟨t, h1, h2⟩ := body cdv A outer s H E (vs.map some) hr
  refine ⟨t, h1, ?_⟩
  have R := Rep.entry (N := N) sub l nd of (by omega)
  have L : (start N vs).length = N.length := by rw [start_eq, List.length_append, List.length_map, List.length_replicate]; omega
  unfold fnGX at hg
  split at hg
  · next r' E' hd =>
    obtain ⟨s2, e1, e2⟩ := Option.map_eq_some_iff.mp hg
    cases e2
    refine h2 L R hd fun v σ' F' H' fr fp' L' g R' ow nd' of' => ?_
    obtain ⟨fq, l2, n2, sb⟩ := R'.args L' e1
    have nd2 : (fr ++ fq).Nodup := nodup_two (List.nodup_append.mp nd').1 n2 fun a m b m2 => (List.nodup_append.mp nd').2.2 a m b (sb b m2)
    refine q v F' H' fr fq (g.less fun a m => ?_) l2 ow nd2 fun a m => ?_
    · rcases List.mem_append.mp m with m | m
      · exact List.mem_append_left _ m
      · exact List.mem_append_right _ (sb a m)
    · rcases List.mem_append.mp m with m | m
      · exact of' a m
      · exact R'.off a (sb a m)
  · next E' hd =>
    obtain ⟨s2, e1, e2⟩ := Option.map_eq_some_iff.mp hg
    cases e2
    refine h2 L R hd fun σ' F' H' fp' L' g R' => ?_
    obtain ⟨fq, l2, n2, sb⟩ := R'.args L' e1
    exact q .non F' H' [] fq (g.less fun a m => sb a (by simpa using m)) l2 (.dat .non) (by simpa using n2) fun a m => R'.off a (sb a (by simpa using m))
  · next c E' hd =>
    obtain ⟨s2, e1, e2⟩ := Option.map_eq_some_iff.mp hg
    cases e2
    refine h2 L R hd fun C σ' F' H' fp' hC L' g R' => ?_
    obtain ⟨fq, l2, n2, sb⟩ := R'.args L' e1
    exact q C F' H' fq hC (g.less sb) l2 n2 fun a m => R'.off a (sb a m)
  · cases hg
end
/-- an expression that may raise -/
def EvX (K : PySem.W.Frag) (n : Nat) (as : Ro) (W : WXm) (te : TE) (d : En → Option (Rx × En)) : Prop :=
  ∀ {F H : Hp} {σ : L2.St} {E : En} {fp : List Addr}, σ.length = n → Rep K F H (σ ++ as) E fp → ∀ {r : Rx} {E' : En}, d E = some (r, E') → ∀ {Q : VK},
    (match r with
     | .rt s => ∀ v F' H' fr fp', Grow F H fp F' H' (fr ++ fp') → Rep K F' H' (σ ++ as) E' fp' → Own K F' H' v s fr → (fr ++ fp').Nodup → (∀ a ∈ fr, F' a = none) → Q v H'
     | .ex c => ∀ C F' H' fp', clsOf K c C → Grow F H fp F' H' fp' → Rep K F' H' (σ ++ as) E' fp' → W (.ref C) none σ H') → te σ H Q
def xCall (g : List S → Option (Rx × List S)) (dr : En → Option (List Rs)) (E : En) : Option (Rx × En) := match dr E with
  | some rs => if placesOk rs = true then match argS E rs with
      | some ss => match g ss with
        | some (r, ss') => some (r, killAll (putAll E rs ss') rs)
        | none => none
      | none => none
    else none
  | none => none
theorem call_close {rs : List Rs} {fr fa fh : List Addr} {E1 : En} (R1 : Rep K F1 H1 ρ E fp) (a : RsAll K F1 H1 ρ E vs rs fr) (ok : placesOk rs = true) (nd : (fr ++ fp).Nodup) (offAll : ∀ b ∈ fr ++ fp, F1 b = none)
    (c1 : Core K F1 H1 ρ E1 fh) (pm : (fr ++ fp).Perm (fa ++ fh)) (keep : ∀ q, (eget E q).isSome = true → (∀ p, Rs.pl p ∈ rs → within p q = false) → (eget E1 q).isSome = true)
    (close : ∀ F' H' ss' fa', Core K F' H' ρ E1 fh → OwnL K F' H' vs ss' fa' → ∃ fz fd, Core K F' H' ρ (putAll E rs ss') (fz ++ fh) ∧ fa'.Perm (fz ++ fd))
    {ss' : List S} {fr2 fa2 : List Addr} (g2 : Grow F1 H1 fa F2 H2 (fr2 ++ fa2)) (l2 : OwnL K F2 H2 vs ss' fa2) (nd2 : (fr2 ++ fa2).Nodup) (of2 : ∀ b ∈ fr2 ++ fa2, F2 b = none) :
    ∃ fz, Rep K F2 H2 ρ (killAll (putAll E rs ss') rs) (fz ++ fh) ∧ Grow F1 H1 (fa ++ fh) F2 H2 (fr2 ++ (fz ++ fh)) ∧ (fr2 ++ (fz ++ fh)).Nodup := by
  have ndall : (fa ++ fh).Nodup := pm.nodup_iff.mp nd
  have memH : ∀ b ∈ fh, b ∈ fr ++ fp := fun b m => pm.mem_iff.mpr (List.mem_append_right _ m)
  have dj : ∀ b ∈ fh, b ∉ fa := fun b m1 m2 => (List.nodup_append.mp ndall).2.2 b m2 b m1 rfl
  have keepH : ∀ b ∈ fh, ∀ o, H1 b = some o → H2 b = some o := fun b m o e => g2.keep b o e (dj b m)
  have c2 := c1.frame g2.f g2.sub keepH
  obtain ⟨fz, fd, c3, pz⟩ := close F2 H2 ss' fa2 c2 l2
  have subz : ∀ b ∈ fz, b ∈ fa2 := fun b m => pz.mem_iff.mpr (List.mem_append_left _ m)
  have thereH : ∀ b ∈ fh, ∃ o, H1 b = some o := c1.there
  have notnew : ∀ b ∈ fh, b ∉ fr2 ++ fa2 := fun b m m2 => by
    obtain ⟨o, eo⟩ := thereH b m
    rcases g2.new b m2 with z | z
    · exact dj b m z
    · rw [eo] at z; cases z
  have ndz : (fz ++ fh).Nodup := by
    have n1 := (List.nodup_append.mp nd2).2.1
    exact nodup_two (List.nodup_append.mp (pz.nodup_iff.mp n1)).1 (List.nodup_append.mp ndall).2.1 fun b m c mc e => by
      subst e
      exact notnew b mc (List.mem_append_right _ (subz b m))
  have R2 : Rep K F2 H2 ρ (killAll (putAll E rs ss') rs) (fz ++ fh) := by
    refine ⟨killAll_core c3, g2.sub, ndz, fun b m => ?_, fun i p hb => ?_⟩
    · rcases List.mem_append.mp m with m | m
      · exact of2 b (List.mem_append_right _ (subz b m))
      · obtain ⟨o, eo⟩ := thereH b m
        exact g2.off b (by rw [eo]; exact fun z => nomatch z) (dj b m) (offAll b (memH b m))
    · obtain ⟨hb1, hb2⟩ := killAll_bor hb
      have hb3 := putAll_bor hb1
      obtain ⟨w, k1, k2, k3⟩ := R1.bor i p hb3
      have k4 := keep p k3 hb2
      obtain ⟨t4, ht4⟩ := Option.isSome_iff_exists.mp k4
      refine ⟨w, k1, by rw [c1.follow_keep (fun b o e => g2.sub b o (g2.f b o e)) ht4 keepH]; exact k2, ?_⟩
      rw [killAll_get]
      have go : ∀ (rs : List Rs) (ss : List S) (E : En), (eget E p).isSome = true → (∀ q, Rs.pl q ∈ rs → (eget E q).isSome = true) → placesOk rs = true → (∀ q, Rs.pl q ∈ rs → within q p = false) → (eget (putAll E rs ss) p).isSome = true := by
        intro rs
        induction rs with
        | nil => intro ss E h _ _ _; simpa [putAll] using h
        | cons r rs ih =>
          intro ss E h hp ok hw
          cases ss with
          | nil => cases r <;> simpa [putAll] using h
          | cons s ss =>
            cases r with
            | val _ =>
              simp only [putAll]
              exact ih ss E h (fun q m => hp q (List.mem_cons_of_mem _ m)) (by simpa only [placesOk] using ok) fun q m => hw q (List.mem_cons_of_mem _ m)
            | pl q0 =>
              simp only [placesOk, Bool.and_eq_true] at ok
              simp only [putAll]
              obtain ⟨t0, ht0⟩ := Option.isSome_iff_exists.mp (hp q0 List.mem_cons_self)
              exact ih ss (eput E q0 s) (eget_ok ht0 h (hw q0 List.mem_cons_self)) (fun q m => by rw [eget_apart (apartAll_mem ok.1 m)]; exact hp q (List.mem_cons_of_mem _ m)) ok.2 fun q m => hw q (List.mem_cons_of_mem _ m)
      exact go rs ss' E k3 a.places ok hb2
  refine ⟨fz, R2, g2.wide (fun b m => List.mem_append_left _ m) fun b m => ?_, ?_⟩
  · rcases List.mem_append.mp m with m | m
    · exact (g2.new b (List.mem_append_left _ m)).imp (fun z => List.mem_append_left _ z) id
    · rcases List.mem_append.mp m with m | m
      · exact (g2.new b (List.mem_append_right _ (subz b m))).imp (fun z => List.mem_append_left _ z) id
      · exact .inl (List.mem_append_right _ m)
  · refine nodup_two (List.nodup_append.mp nd2).1 ndz fun b m c mc e => ?_
    subst e
    rcases List.mem_append.mp mc with mc | mc
    · exact (List.nodup_append.mp nd2).2.2 b m b (subz b mc) rfl
    · exact notnew b mc (List.mem_append_left _ m)
theorem x_call {m : Nat} {g : List S → Option (Rx × List S)} (hr : EvA K n as tr dr) (hm : ∀ E rs, dr E = some rs → rs.length = m) : EvX K n as W (tCallS (spMvX K m g) (WE W) tr) (xCall g dr) := by
  intro F H σ E fp L R r E' e Q q
  unfold xCall at e
  split at e
  · next rs ers =>
    split at e
    · next ok =>
      split at e
      · next ss ess =>
        split at e
        · next r' ss' eg =>
          cases e
          refine hr L R ers fun vs F1 H1 fr g1 a nd of => ?_
          have R1 := R.grow g1
          obtain ⟨fa, fh, E1, l, c1, pm, keep, close⟩ := takeAll a R1.core ok ess
          have ndn := R1
          have nda := R.apart_new g1 nd
          have ndall : (fa ++ fh).Nodup := pm.nodup_iff.mp nda
          have memA : ∀ b ∈ fa, b ∈ fr ++ fp := fun b m => pm.mem_iff.mpr (List.mem_append_left _ m)
          have offAll : ∀ b ∈ fr ++ fp, F1 b = none := fun b m => (List.mem_append.mp m).elim (of b) (R1.off b)
          have g1' : Grow F H fp F1 H1 (fa ++ fh) := (g1.ours fp).less fun b m => pm.mem_iff.mpr m
          refine ⟨by rw [l.length, argS_len ess, hm E rs ers], F1, ss, fa, r, ss', g1.sub, l, (List.nodup_append.mp ndall).1, fun b m => offAll b (memA b m), eg, ?_⟩
          cases r with
          | rt s =>
            refine fun v F2 H2 fr2 fa2 g2 l2 ow nd2 of2 => ?_
            obtain ⟨fz, R2, gg, nn⟩ := call_close R1 a ok nda offAll c1 pm keep close g2 l2 nd2 of2
            exact q v F2 H2 fr2 (fz ++ fh) (g1'.trans gg) R2 ow nn fun b m => of2 b (List.mem_append_left _ m)
          | ex c =>
            refine fun C F2 H2 fa2 hC g2 l2 nd2 of2 => ?_
            obtain ⟨fz, R2, gg, nn⟩ := call_close (fr2 := []) R1 a ok nda offAll c1 pm keep close g2 l2 nd2 of2
            exact q C F2 H2 (fz ++ fh) hC (g1'.trans gg) R2
        · cases e
      · cases e
    · cases e
  · cases e
def dDropX (d : En → Option (Rx × En)) (E : En) : Option Out := match d E with
  | some (.rt _, E') => some (.nx E')
  | some (.ex c, E') => some (.ex c E')
  | none => none
theorem s_dropX {dx : En → Option (Rx × En)} (h : EvX K n as W te dx) : EvS K n as W (tDrop te) (dDropX dx) := by
  intro F H σ E fp L R o e D g
  unfold dDropX at e
  split at e
  · next s E' ed =>
    cases e
    exact h L R ed fun v F1 H1 fr fp1 g1 R1 ow nd of => g σ F1 H1 fp1 L (g1.less fun a m => List.mem_append_right _ m) R1
  · next c E' ed =>
    cases e
    exact h L R ed fun C F1 H1 fp1 hC g1 R1 => g C σ F1 H1 fp1 hC L g1 R1
  · cases e
/-- raise X('..') -/
def dRaise (c : Nat) (E : En) : Option Out := some (.ex c E)
theorem s_raise {c : Nat} {C : Addr} (hC : clsOf K c C) : EvS K n as W (fun _ σ H => W (.ref C) none σ H) (dRaise c) := by
  intro F H σ E fp L R o e D g
  cases e
  exact g C σ F H fp hC L (.refl R.sub fp) R
end Mv
set_option maxHeartbeats 6400000
namespace PySem
open PySem.W PySem.SeqAt PyProof.Rows
section
variable {prog : Program} {w : World} {A : Around} {E : Value → Shared → Prop} {s : Shared}
theorem hx_shift (hh : A.handled = none) (I ax : Addr) (hne : ax ≠ I) (items : Array Value) (k : Nat) (hk : k ≤ items.size) :
    WalksS prog w A I [I, ax] [I] (fun a b => b = a) (items.size - k) (fun i v => items[i + k]? = some v) (fun i s => s.heap.IsTupleIter I ax (i + k) ∧ s.heap.IsTuple ax items) :=
  let W := (Walks.tuple (prog := prog) (w := w) (A := A) hh I ax hne items).toS
  { sub := W.sub
    grefl := W.grefl
    gtrans := W.gtrans
    frame := fun i s h' tk st tl hk => W.frame (i + k) s h' tk st tl hk
    item := fun i s Q E hi st hQ => W.item (i + k) s Q E (by omega) st fun v s' p st' m => hQ v s' p (by rw [show i + 1 + k = i + k + 1 by omega]; exact st') m
    done := fun s Q E st hQ => W.done s Q E (by rw [show items.size - k + k = items.size by omega] at st; exact st) hQ
    self := fun i s Q E st hQ => W.self (i + k) s Q E st hQ }
theorem hx_unpack_star {t : Addr} {items : Array Value} {x : Value} {rest : List Value} {Q : List Value → Shared → Prop} (hh : A.handled = none) (ht : s.heap.IsTuple t items) (hi : items.toList = x :: rest) (hz : items.size ≤ sizeLine)
    (hQ : ∀ (h' : Heap) (tk : Nat), (∀ b o, s.heap.get? b = some o → h'.get? b = some o) → Q [x, .ref h'.objs.size] { s with heap := h'.push { cls := .type "list", data := .seq rest.toArray }, toks := tk }) :
    wpAny (model prog w) A (unpackItems (.ref t) 2 (some 1)) Q E s := by
  have hlt : t ≠ s.heap.objs.size := by obtain ⟨o, ho, _⟩ := ht; exact Nat.ne_of_lt (Heap.lt_size ho)
  have hsz : items.size = rest.length + 1 := by have := congrArg List.length hi; simpa using this
  unfold unpackItems
  refine wpAny_bind ?_
  unfold notIterableAtAll
  refine wpAny_bind (wpAny_specialOf ht.typeIs F.slot_tuple_iter.lookup ?_)
  refine wpAny_pure ?_
  simp only [Bool.false_eq_true, if_false]
  refine wpAny_bind (wpAny_holding (wpAny_pyIter_tuple ht ?_))
  refine wpAny_bind (wpAny_holding (wpAny_draw_tuple hlt 1 0 _ _ ⟨_, Heap.get?_push_size _ rfl, rfl, rfl⟩ (ht.push _) (by omega) fun h₁ hit₁ hs₁ => ?_))
  have hall : List.take 1 (List.drop 0 items.toList) = [x] := by rw [hi]; rfl
  rw [hall]
  rw [if_neg (by simp)]
  have ht₁ : h₁.IsTuple t items := (ht.push _).extBut hs₁.extBut hlt
  have kp : ∀ b o, s.heap.get? b = some o → h₁.get? b = some o := fun b o e => hs₁.extBut b o (Nat.ne_of_lt (Heap.lt_size e)) (Heap.get?_push_of_some _ e)
  have W := hx_shift (prog := prog) (w := w) (A := A.in1) (by simpa using hh) s.heap.objs.size t hlt items 1 (by omega)
  refine wpAny_bind (wpAny_holding (wpAny_collect_iter (T := "tuple_iterator") (.inr (.inr (.inr rfl))) W (fun i s' st => ?_) ⟨by simpa using hit₁, ht₁⟩ (fun b hb => ?_) (by simp) (fun s' acc hm ha => ?_) (by omega)))
  · obtain ⟨⟨o, ho, hc, _⟩, _⟩ := st
    exact ⟨o, ho, hc⟩
  · rcases List.mem_cons.mp hb with rfl | hb
    · obtain ⟨o, ho, _⟩ := hit₁; exact Heap.lt_size ho
    · rw [List.mem_singleton.mp hb]; obtain ⟨o, ho, _⟩ := ht₁; exact Heap.lt_size ho
  · obtain ⟨h9, g9, d9, tk9, os9⟩ := s'
    have eg : g9 = s.gens := hm.gens
    have ed : d9 = s.drawn := hm.drawn
    have eo : os9 = s.os := hm.os
    subst eg; subst ed; subst eo
    have hacc : acc.toList = rest := by
      apply List.ext_getElem?
      intro i
      have hs : acc.size = rest.length := by rw [ha.1, hsz]; omega
      by_cases hlt2 : i < rest.length
      · have h1 : acc[i]? = some (acc[i]'(by omega)) := Array.getElem?_eq_getElem _
        have h2 := ha.2 i _ h1
        have h3 : items.toList[i + 1]? = some (acc[i]'(by omega)) := by simpa using h2
        rw [hi, List.getElem?_cons_succ] at h3
        rw [h3]
        simpa using h1
      · rw [List.getElem?_eq_none (by simpa using (by omega : acc.size ≤ i)), List.getElem?_eq_none (by omega)]
    rw [hacc]
    rw [if_neg (by simp)]
    have et : rest.take (rest.length - (2 - 1 - 1)) = rest := by simp
    have ed2 : rest.drop (rest.length - (2 - 1 - 1)) = [] := by simp
    rw [et, ed2]
    refine wpAny_bind (wpAny_newList ?_ (by omega))
    refine wpAny_pure ?_
    refine hQ h9 tk9 fun b o e => ?_
    have hb : b ≠ s.heap.objs.size := Nat.ne_of_lt (Heap.lt_size e)
    exact hm.heap b o (by simpa using hb) (kp b o e)
end
end PySem
namespace L2
open PySem PySem.Spec PyProof.Rows PySem.W PySem.SeqAt
section
variable {X : Cx}
/-- x, *r = a tuple -/
def gStar (K : PySem.W.Frag) (i j : Nat) : TG := fun v σ H Q => ∃ a x xs, v = .ref a ∧ SqT K H a (x :: xs) ∧ ∀ p, H p = none → Q ((σ.set i (some x)).set j (some (.ref p))) (upd H p (.lst xs))
theorem pg_star {i j k : Nat} {x y : Str} {p1 p2 p3 p4 : Pos} (hc : X.calm = true) (hN : X.N.Nodup) (hi : X.N[i]? = some x) (hj : X.N[j]? = some y) (hx : Loc X.env.scope x) (hy : Loc X.env.scope y)
    (hfx : X.fn x = true ∨ X.env.scope.names.lookup x = some .local := by first | exact .inl rfl | exact .inr rfl | assumption) (hfy : X.fn y = true ∨ X.env.scope.names.lookup y = some .local := by first | exact .inl rfl | exact .inr rfl | assumption) :
    PG X (.Tuple [.Name x p1, .Starred (.Name y p2) p3] k p4) (gStar X.K i j) := by
  have g1 : PG X (.Name x p1) (gName i) := pg_name hN hi hx hfx
  have g2 : PG X (.Name y p2) (gName j) := pg_name hN hj hy hfy
  refine ⟨fun pins s σ H v u Q I r h => ?_⟩
  obtain ⟨a, x1, xs, rfl, hs, q⟩ := h
  cases r
  obtain ⟨its, rv, ht, hz⟩ := I.tuple hs
  cases rv with
  | @cons _ w1 _ us r1 rr =>
    rw [PyProof.Rows.assign_Tuple]
    refine wpAny_bind (wpAny_standAt ?_)
    have ea : assignEach [Expr.Name x p1, .Starred (.Name y p2) p3] X.env = [(false, assign (.Name x p1) X.env), (true, assign (.Name y p2) X.env)] := rfl
    rw [ea]
    unfold unpack
    have hlen := rr.length
    simp only [List.length_cons] at hz
    refine wpAny_bind (wpAny_holding (hx_unpack_star (items := (w1 :: us).toArray) (x := w1) (rest := us) (I.ok.hd hc) ht (by simp) (by rw [List.size_toArray, List.length_cons]; omega) fun h' tk kp => ?_))
    have I1 : Inv X pins σ H { s with heap := h', toks := tk } := I.kept kp
    have hn : H h'.objs.size = none := I1.hok.fresh (Nat.le_refl _)
    have I2 : Inv X pins σ (upd H h'.objs.size (.lst xs)) { s with heap := h'.push { cls := .type "list", data := .seq us.toArray }, toks := tk } :=
      Inv.laid (s := { s with heap := h', toks := tk }) (t' := tk) I1 (fun b u e => Heap.get?_push_of_some _ e) (Nat.le_refl _) ?_
    · show wpAny _ _ (assignInOrder [assign (.Name x p1) X.env, assign (.Name y p2) X.env] [w1, .ref h'.objs.size]) _ _ _
      refine assignInOrder_cons (thn (g1.run pins _ σ _ x1 w1 (fun σ' H' => σ' = σ.set i (some x1) ∧ H' = upd H h'.objs.size (.lst xs)) I2 r1 ⟨rfl, rfl⟩) fun _ s3 ⟨σ3, H3, I3, e1, e2⟩ => ?_)
      subst e1
      subst e2
      refine assignInOrder_cons (thn (g2.run pins s3 _ _ (.ref h'.objs.size) (.ref h'.objs.size) Q I3 rfl (q _ hn)) fun _ s4 ⟨σ4, H4, I4, q4⟩ => ?_)
      exact assignInOrder_nil ⟨σ4, H4, I4, q4⟩
    · exact ⟨by omega, us, 0, rr, Heap.get?_push_size _ rfl⟩
end
end L2
set_option maxHeartbeats 4000000
namespace Mv
open PySem PySem.Spec PyProof.Rows L2
end Mv
set_option maxHeartbeats 4000000
namespace Mv
open PySem PySem.Spec PyProof.Rows L2
end Mv
set_option maxHeartbeats 6400000
namespace L2
open PySem PySem.Spec PyProof.Rows
end L2
set_option maxHeartbeats 6400000
namespace PySem
theorem hx_list_add (l : Addr) (items : Array Value) (n : Nat) (dd : Option Addr) (sl : Array (Option Value)) (b : Addr) (items2 : Array Value) (n2 : Nat) (dd2 : Option Addr) (sl2 : Array (Option Value)) (hc0 : items.size + items2.size ≤ sizeLine) :
    Meets (Builtin.«list.__add__» ⟨[.ref l, .ref b], []⟩) (fun _ R s => s.heap.get? l = some { cls := .type "list", dict := dd, data := .seq items n, slots := sl } ∧ s.heap.get? b = some { cls := .type "list", dict := dd2, data := .seq items2 n2, slots := sl2 } ∧ R (.ok (.ret (Value.ref s.heap.objs.size))) { s with heap := s.heap.push { cls := Value.type "list", data := Data.seq (items ++ items2) }, toks := s.toks }) :=
  .of_wp fun prog w A R s h => by obtain ⟨hp, g, d, tk, os⟩ := s; obtain ⟨hl, hb, h⟩ := h; have f1 := AutoSeq1.idx_int; have f2 := AutoSeq1.sub_tuple_tuple; have f3 := AutoSeq1.sub_list_list; have f4 := AutoSeq1.sub_tuple_list; have f5 := AutoSeq1.sub_list_tuple; wp_walk using AutoSeq1.wpAny_loadPart' hl, AutoSeq1.wpAny_loadPart' hb; exact ⟨_, rfl, h⟩
end PySem
namespace L2
open PySem PySem.Spec PyProof.Rows
section
variable {X : Cx}
def rCatS (K : PySem.W.Frag) : R2 := fun x y H Q => ∃ l b xs zs, x = .ref l ∧ y = .ref b ∧ SqL K H l xs ∧ SqL K H b zs ∧ xs.length + zs.length ≤ sizeLine ∧ ∀ p, H p = none → Q (.ref p) (upd H p (.lst (xs ++ zs)))
theorem op_catS : OpR X (binaryOp .Add) (rCatS X.K) := by
  intro pins s σ H x y v u Q I rx ry h
  obtain ⟨l, b, xs, zs, rfl, rfl, hH, hB, hz, q⟩ := h
  cases rx
  cases ry
  obtain ⟨its, r, ⟨⟨c1, d1, t1, s1⟩, n, e, hc, hd, hs⟩, z⟩ := I.list hH
  obtain ⟨its2, r2, ⟨⟨c2, d2, t2, s2⟩, n2, e2, hc2, hd2, hs2⟩, z2⟩ := I.list hB
  simp only at hc hd hs hc2 hd2 hs2
  subst hc hd hs hc2 hd2 hs2
  have l1 := r.length
  have l2 := r2.length
  refine concat_meets ⟨_, e, rfl⟩ ⟨_, e2, rfl⟩ noFill_list_add seq_list_add PySem.F.slot_list_add PySem.F.entry_list_add (PySem.F.args_list_add_2 _ _) (hx_list_add l its.toArray n none s1 b its2.toArray n2 none s2 (by rw [List.size_toArray, List.size_toArray]; omega)) ⟨e, e2, ?_⟩
  have ea : its.toArray ++ its2.toArray = (its ++ its2).toArray := by simp
  rw [ea]
  exact ⟨.ref _, _, I.lnew (t' := s.toks) (r.append r2) (by rw [List.length_append]; omega), rfl, q _ I.fresh⟩
end
end L2
set_option maxHeartbeats 6400000
namespace L2
open PySem PySem.Spec PyProof.Rows
end L2
set_option maxHeartbeats 1000000
namespace L2
open PySem PySem.Spec PyProof.Rows
end L2
set_option maxHeartbeats 4000000
namespace Mv
open PySem PySem.Spec PyProof.Rows L2
variable {K : PySem.W.Frag} {F F' F1 F2 F3 H H' H1 H2 H3 : Hp} {v u x y w : V} {vs ws xs : List V} {s t c : S} {ss tts : List S} {fp fq fr fp' fp1 fp2 f1 f2 : List Addr} {ρ as : Ro} {E E' : En} {n : Nat}
variable {W : WXm} {te ta tb tc tk tv td : TE} {d da db dc dk dv : En → Option Rs} {tr : TA} {dr : En → Option (List Rs)} {de df : En → Option (S × En)} {tt : TT} {dte : En → Option (Bool × En)} {Q : VK} {dl : En → Option (Nat × En)} {js : List Nat} {ds : List PyData}
def fCatL (a b : S) : Option S := match a.seqL with
  | some ds => match b.seqL with
    | some es => if ds.length + es.length < 100000 then some (.lst ((ds ++ es).map S.dat)) else none
    | none => none
  | none => none
theorem rv_catL : RvS2 K (rCatS K) fCatL := by
  intro F H x y a b c f1 f2 sub o1 o2 e Q m
  unfold fCatL at e
  split at e
  · next ds e1 =>
    split at e
    · next es e2 =>
      split at e
      · next hl =>
        cases e
        obtain ⟨l, xs, rfl, h1, da1⟩ := o1.sqL sub e1
        obtain ⟨l', zs, rfl, h2, da2⟩ := o2.sqL sub e2
        refine ⟨l, l', xs, zs, rfl, rfl, h1, h2, by rw [Mv.DqAll.len da1, Mv.DqAll.len da2, sizeLine_eq]; omega, mk_lst sub ?_ m⟩
        rw [List.map_append]
        simpa using (dats_own da1).append (dats_own da2)
      · cases e
    · cases e
  · cases e
def dStarA (da : En → Option Rs) (dr : En → Option (List Rs)) (E : En) : Option (List Rs) := match da E, dr E with
  | some r, some rs => match r.at E with
    | some s => match (s.seqL <|> s.seqT) with
      | some ds => some (ds.map (fun d => .val (.dat d)) ++ rs)
      | none => none
    | none => none
  | _, _ => none
theorem rs_dats (da : DqAll K F xs ds) {rs : List Rs} {ys : List V} {f : List Addr} (a : RsAll K F H ρ E ys rs f) : RsAll K F H ρ E (xs ++ ys) (ds.map (fun d => Rs.val (.dat d)) ++ rs) f := by
  induction xs generalizing ds with
  | nil => cases da; exact a
  | cons x xs ih => cases da with
    | cons h t => exact RsAll.cons (f := []) (Own.dat h) (ih t)
theorem p_star1 (ha : EvP K n as ta da) (hr : EvA K n as tr dr) : EvA K n as (StX.tStar K ta tr) (dStarA da dr) := by
  intro F H σ E fp L R rs e Q q
  unfold dStarA at e
  split at e
  · next r rs' ea er =>
    split at e
    · next s es =>
      split at e
      · next ds hd =>
        cases e
        refine ha L R ea fun v F1 H1 f1 g1 a1 n1 o1 => ?_
        have R1 := R.grow g1
        obtain ⟨fq, ow⟩ := a1.own R1 es
        obtain ⟨a, xs, rfl, hq, dd⟩ := ow.sq R1.sub hd
        refine ⟨a, xs, rfl, hq.symm, hr L R1 er fun ys F2 H2 f2 g2 a2 n2 o2 => ?_⟩
        exact q (xs ++ ys) F2 H2 f2 (by simpa using g1.drop.seq0 g2) (rs_dats (DqAll.mono g2.f dd) a2) n2 o2
      · cases e
    · cases e
  · cases e
end Mv
set_option maxHeartbeats 4000000
namespace Mv
open PySem PySem.Spec PyProof.Rows L2
end Mv
set_option maxHeartbeats 4000000
namespace Mv
open PySem PySem.Spec PyProof.Rows L2
variable {K : PySem.W.Frag} {F F' F1 F2 F3 H H' H1 H2 H3 : Hp} {v u x y w : V} {vs ws xs : List V} {s t c : S} {ss tts : List S} {fp fq fr fp' fp1 fp2 f1 f2 : List Addr} {ρ as : Ro} {E E' : En} {n : Nat}
variable {W : WXm} {te ta tb tc tk tv td : TE} {d da db dc dk dv : En → Option Rs} {tr : TA} {dr : En → Option (List Rs)} {de df : En → Option (S × En)} {tt : TT} {dte : En → Option (Bool × En)} {Q : VK} {dl : En → Option (Nat × En)} {js : List Nat} {ds : List PyData}
inductive PlAll (H : Hp) (ρ : Ro) (E : En) : List V → List (List Nat) → Prop
  | nil : PlAll H ρ E [] []
  | cons {v : V} {vs : List V} {p : List Nat} {ps : List (List Nat)} : followE H ρ p = some v → (eget E p).isSome = true → PlAll H ρ E vs ps → PlAll H ρ E (v :: vs) (p :: ps)
theorem PlAll.len {vs : List V} {ps : List (List Nat)} (h : PlAll H ρ E vs ps) : vs.length = ps.length := by
  induction h with
  | nil => rfl
  | cons _ _ _ ih => simp [ih]
theorem PlAll.imp {ρ' : Ro} {vs : List V} {ps : List (List Nat)} (h : PlAll H ρ E vs ps) (k : ∀ p ∈ ps, ∀ v, followE H ρ p = some v → (eget E p).isSome = true → followE H' ρ' p = some v ∧ (eget E' p).isSome = true) : PlAll H' ρ' E' vs ps := by
  induction h with
  | nil => exact .nil
  | cons a b _ ih =>
    obtain ⟨a', b'⟩ := k _ List.mem_cons_self _ a b
    exact .cons a' b' (ih fun p m => k p (List.mem_cons_of_mem _ m))
theorem PlAll.grow {vs : List V} {ps : List (List Nat)} (h : PlAll H ρ E vs ps) (R : Rep K F H ρ E fp) (g : Grow F H fq F' H' fr) (dj : ∀ a ∈ fp, a ∉ fq) : PlAll H' ρ E vs ps := h.imp fun p _ v h1 h2 => by
  obtain ⟨t, ht⟩ := Option.isSome_iff_exists.mp h2
  exact ⟨by rw [R.core.follow_keep (fun b o e => g.sub b o (g.f b o e)) ht fun a m o e => g.keep a o e (dj a m)]; exact h1, h2⟩
end Mv
set_option maxHeartbeats 4000000
namespace Mv
open PySem PySem.Spec PyProof.Rows L2
end Mv
set_option maxHeartbeats 4000000
namespace Mv
open PySem PySem.Spec PyProof.Rows L2
end Mv
set_option maxHeartbeats 4000000
namespace Mv
open PySem PySem.Spec PyProof.Rows L2
end Mv
set_option maxHeartbeats 4000000
namespace Mv
open PySem PySem.Spec PyProof.Rows L2
end Mv
set_option maxHeartbeats 4000000
namespace Mv
open PySem PySem.Spec PyProof.Rows L2
end Mv
set_option maxHeartbeats 400000
namespace Mv
open PySem PySem.Spec PyProof.Rows L2
end Mv
set_option maxHeartbeats 400000
namespace Mv
open PySem PySem.Spec PyProof.Rows L2
end Mv
set_option maxHeartbeats 400000
namespace Mv
open PySem PySem.Spec PyProof.Rows L2
end Mv
set_option maxHeartbeats 4000000
namespace Mv
open PySem PySem.Spec PyProof.Rows L2
end Mv
set_option maxHeartbeats 4000000
namespace Mv
open PySem PySem.Spec PyProof.Rows L2
end Mv
set_option maxHeartbeats 4000000
namespace Mv
open PySem PySem.Spec PyProof.Rows L2
end Mv
set_option maxHeartbeats 4000000
namespace Mv
open PySem PySem.Spec PyProof.Rows L2
end Mv
set_option maxHeartbeats 4000000
namespace Mv
open PySem PySem.Spec PyProof.Rows L2
end Mv
set_option maxHeartbeats 6400000
namespace L2
open PySem PySem.Spec PyProof.Rows PySem.W PySem.SeqAt
end L2
set_option maxHeartbeats 4000000
namespace Mv
open PySem PySem.Spec PyProof.Rows L2
end Mv
set_option maxHeartbeats 4000000
namespace Mv
open PySem PySem.Spec PyProof.Rows L2
end Mv
set_option maxHeartbeats 6400000
namespace L2
open PySem PySem.Spec PyProof.Rows PySem.W PySem.SeqAt
end L2
set_option maxHeartbeats 4000000
namespace Mv
open PySem PySem.Spec PyProof.Rows L2
end Mv
set_option maxHeartbeats 4000000
namespace Mv
open PySem PySem.Spec PyProof.Rows L2
end Mv
set_option maxHeartbeats 4000000
namespace Mv
open PySem PySem.Spec PyProof.Rows L2
end Mv
set_option maxHeartbeats 4000000
namespace Mv
open PySem PySem.Spec PyProof.Rows L2
variable {K : PySem.W.Frag} {F F' H H' : Hp} {v u x y w : V} {vs ws xs ys : List V} {s t c : S}
abbrev T3 := Int × Int × Int
def c3 (p : T3) : Int := p.1 * 10000000000 + p.2.1 * 100000 + p.2.2
end Mv
set_option maxHeartbeats 4000000
namespace Mv
open PySem PySem.Spec PyProof.Rows L2
end Mv
set_option maxHeartbeats 1000000
namespace L2
open PySem PySem.Spec PyProof.Rows
end L2
set_option maxHeartbeats 4000000
namespace Mv
open PySem PySem.Spec PyProof.Rows L2
end Mv
set_option maxHeartbeats 4000000
namespace NX
open PySem PySem.Spec PyProof.Rows L2
open Sem (wp)
abbrev NK := List Int × Int
section
variable {prog : Program} {w : World}
def IsNest (prog : Program) (w : World) (h : Heap) (k : NK) (a : Addr) : Prop := ∃ o b n t, h.get? a = some o ∧ o.cls = .type "tuple" ∧ o.data = .seq #[.ref b, .int k.2 t] n ∧ IsTupleKey (intKind prog w) h k.1 b
theorem IsNest.typeIs {s : Shared} {k : NK} {a : Addr} (x : IsNest prog w s.heap k a) : s.TypeIs (.ref a) "tuple" := let ⟨o, _, _, _, ho, hc, _⟩ := x; ⟨o, ho, hc⟩
theorem IsNest.inj {h : Heap} {a : Addr} {x y : NK} (hx : IsNest prog w h x a) (hy : IsNest prog w h y a) : x = y := by
  obtain ⟨o, b, n, t, ho, _, hd, hi⟩ := hx
  obtain ⟨o', b', n', t', ho', _, hd', hi'⟩ := hy
  obtain rfl : o = o' := Option.some.inj (ho.symm.trans ho')
  rw [hd] at hd'
  injection hd' with h1 _
  have h2 : [Value.ref b, Value.int x.2 t] = [Value.ref b', Value.int y.2 t'] := congrArg Array.toList h1
  injection h2 with h3 h4
  injection h3 with h3
  injection h4 with h4 _
  injection h4 with h4 _
  subst h3
  exact Prod.ext (hi.inj hi') h4
theorem IsNest.keeps {h h' : Heap} {k : NK} {a d : Addr} {o : Obj} {es ep} (x : IsNest prog w h k a) (ho : h.get? d = some o) (hd : o.data = .dict es ep) (hs : Heap.SameBut d h h') : IsNest prog w h' k a := by
  obtain ⟨o', b, n, t, ho', hc, hd', hi⟩ := x
  have hne : a ≠ d := by
    rintro rfl
    obtain rfl : o' = o := Option.some.inj (ho'.symm.trans ho)
    rw [hd] at hd'; exact nomatch hd'
  exact ⟨o', b, n, t, (hs.2 a hne).trans ho', hc, hd', hi.keeps ho hd hs⟩
def nestHash (prog : Program) (w : World) (k : NK) : Int := reduceHash (Builtin.Tuple.tupleHashOf [tupleKeyHash (intKind prog w) k.1, (intKind prog w).hash k.2])
variable {A : Around} {E : Value → Shared → Prop} {s : Shared}
theorem int_is (k : Int) (t : Tok) : (intKind prog w).is k (.int k t) = true := by
  show Value.isInt k (.int k t) = true
  unfold Value.isInt
  simp
theorem pyHash_nest {k : NK} {a : Addr} {Q : Int → Shared → Prop} (hu : A.units + 1 < cLine) (hk : IsNest prog w s.heap k a) (h : Q (nestHash prog w k) { s with toks := s.toks + (k.1.length + 1 + 1 + 1) }) :
    wpAny (model prog w) A (pyHash (.ref a)) Q E s := by
  have hT := hk.typeIs
  obtain ⟨o, b, n, t, ho, _, hd, hi⟩ := hk
  unfold pyHash
  first | unfold pyHashByItsType | skip
  first | refine wpAny_bind (wpAny_cRoomFor_or (.inr (Nat.lt_of_succ_lt hu)) ?_) | skip
  refine wpAny_bind (wpAny_specialOf hT F.slot_tuple_hash.lookup ?_)
  show wpAny _ _ (if (some (Value.builtin "tuple.__hash__") == some Value.none) = true then _ else _) Q E s
  rw [if_neg (by rw [beq_builtin_none]; exact Bool.false_ne_true)]
  refine wpAny_bind (wpAny_specialOf hT F.slot_tuple_hash.lookup ?_)
  show wpAny _ _ (callSpecialIfBoundUnlessNone? (.ref a) "__hash__" _ >>= _) Q E s
  refine wpAny_bind (wpAny_callSpecialIfBoundUnlessNone?_slot hT F.slot_tuple_hash (wpAny_call_entry F.slot_tuple_hash hT F.entry_tuple_hash ?_ (F.args_tuple_hash_1 _)))
  show wpAny _ _ (Builtin.Tuple.tupleItemsOf (.ref a) >>= _) _ _ s
  refine wpAny_bind (wpAny_tupleItemsOf ho hd ?_)
  refine wpAny_bind ?_
  rw [← Array.forIn_toList]
  show wpAny _ _ (forIn [Value.ref b, Value.int k.2 t] _ _) _ _ _
  rw [List.forIn_cons]
  refine wpAny_bind (wpAny_bind (wpAny_pyHash_tuple (A := A.in1) hu hi ?_))
  refine wpAny_pure ?_
  show wpAny _ _ (forIn [Value.int k.2 t] _ _) _ _ _
  rw [List.forIn_cons]
  refine wpAny_bind (wpAny_bind ((intKind prog w).pyHash (int_is k.2 t) ?_))
  refine wpAny_pure ?_
  show wpAny _ _ (forIn [] _ _) _ _ _
  rw [List.forIn_nil]
  refine wpAny_pure ?_
  show wpAny _ _ (retInt (Builtin.Tuple.tupleHashOf [tupleKeyHash (intKind prog w) k.1, (intKind prog w).hash k.2])) _ _ _
  refine wpAny_ret_mkInt ?_
  show wpAny _ _ (if (decide (-(2 : Int) ^ 63 ≤ Builtin.Tuple.tupleHashOf [tupleKeyHash (intKind prog w) k.1, (intKind prog w).hash k.2]) && decide (Builtin.Tuple.tupleHashOf [tupleKeyHash (intKind prog w) k.1, (intKind prog w).hash k.2] < 2 ^ 63)) = true then _ else _) Q E _
  unfold nestHash reduceHash at h
  by_cases hr : (decide (-(2 : Int) ^ 63 ≤ Builtin.Tuple.tupleHashOf [tupleKeyHash (intKind prog w) k.1, (intKind prog w).hash k.2]) && decide (Builtin.Tuple.tupleHashOf [tupleKeyHash (intKind prog w) k.1, (intKind prog w).hash k.2] < 2 ^ 63)) = true
  · rw [if_pos hr]
    rw [if_pos hr] at h
    exact wpAny_pure (by simpa [Nat.add_assoc] using h)
  · rw [if_neg hr]
    rw [if_neg hr] at h
    exact wpAny_bind (wpAny_rule (wpAny_pure (by simpa [Nat.add_assoc] using h)))
theorem nest_eq_tree {x y : NK} {a b : Addr} {P : Fin → Shared → Prop} (hu : A.units < cLine) (hx : IsNest prog w s.heap x a) (hy : IsNest prog w s.heap y b) (h : P (.done (.ret (.bool (decide (x = y))))) s) :
    wpAny (model prog w) A (Builtin.«tuple.__eq__» ⟨[.ref a, .ref b], []⟩) P E s := by
  have hTb := hy.typeIs
  obtain ⟨oa, a1, na, ta, hoa, _, hda, hia⟩ := hx
  obtain ⟨ob, b1, nb, tb, hob, _, hdb, hib⟩ := hy
  show wpAny _ _ (isInstance (.ref b) (.type "tuple") >>= _) _ _ s
  refine wpAny_bind (wpAny_isInstance hTb isSubtype_tuple_tuple ?_)
  simp only [Bool.not_true, Bool.false_eq_true, if_false]
  refine wpAny_bind (wpAny_tupleItemsOf hoa hda ?_)
  refine wpAny_bind (wpAny_tupleItemsOf hob hdb ?_)
  refine wpAny_bind ?_
  show wpAny _ _ (forIn [(Value.ref a1, Value.ref b1), (Value.int x.2 ta, Value.int y.2 tb)] _ _) _ _ _
  rw [List.forIn_cons]
  refine wpAny_bind (wpAny_bind (wpAny_eqBool_tuple hu hia hib ?_))
  by_cases e1 : x.1 = y.1
  · rw [decide_eq_true e1]
    simp only [Bool.not_true, Bool.false_eq_true, if_false]
    refine wpAny_pure ?_
    show wpAny _ _ (forIn [(Value.int x.2 ta, Value.int y.2 tb)] _ _) _ _ _
    rw [List.forIn_cons]
    refine wpAny_bind (wpAny_bind ((intKind prog w).eqBool (int_is x.2 ta) (int_is y.2 tb) ?_))
    by_cases e2 : x.2 = y.2
    · rw [decide_eq_true e2]
      simp only [Bool.not_true, Bool.false_eq_true, if_false]
      refine wpAny_pure ?_
      show wpAny _ _ (forIn [] _ _) _ _ _
      rw [List.forIn_nil]
      refine wpAny_pure (wpAny_pure ?_)
      rw [decide_eq_true (Prod.ext e1 e2 : x = y)] at h
      exact h
    · rw [decide_eq_false e2]
      simp only [Bool.not_false, if_true]
      rw [decide_eq_false (fun z => e2 (by rw [z]))] at h
      exact wpAny_bind (wpAny_pure (wpAny_pure (wpAny_pure (wpAny_pure h))))
  · rw [decide_eq_false e1]
    simp only [Bool.not_false, if_true]
    rw [decide_eq_false (fun z => e1 (by rw [z]))] at h
    exact wpAny_bind (wpAny_pure (wpAny_pure (wpAny_pure (wpAny_pure h))))
theorem eqBool_nest {x y : NK} {a b : Addr} {Q : Bool → Shared → Prop} (hu : A.units + 1 < cLine) (hx : IsNest prog w s.heap x a) (hy : IsNest prog w s.heap y b) (h : Q (decide (x = y)) s) :
    wpAny (model prog w) A (eqBool (.ref a) (.ref b)) Q E s := by
  unfold eqBool
  try with_reducible refine wpAny_holding ?_
  show wpAny _ _ (if (Value.ref a == Value.ref b) = true then _ else _) Q E s
  by_cases hab : (Value.ref a == Value.ref b) = true
  · rw [if_pos hab]
    have e : a = b := by have := eq_of_beq hab; injection this
    subst e
    obtain rfl := hx.inj hy
    exact wpAny_bind (wpAny_rule (wpAny_pure (by simpa using h)))
  · rw [if_neg hab]
    exact wpAny_bind (wpAny_richCompare_same_room (op := .Eq) hx.typeIs hy.typeIs F.slot_tuple_eq
      (wpAny_call_entry F.slot_tuple_eq hx.typeIs F.entry_tuple_eq (nest_eq_tree hu hx hy ⟨_, rfl, (fun e => nomatch e), wpAny_truthy_bool h⟩) (F.args_tuple_eq_2 _ _)) (Nat.lt_of_succ_lt hu))
theorem quiet_tuple (m : Nat) {ks : List Int} {a : Addr} {Q : Bool → Shared → Prop} (hk : IsTupleKey (intKind prog w) s.heap ks a) (h : Q true s) : wpAny (model prog w) A (eqIsQuiet (m + 1) (.ref a)) Q E s := by
  have hT := hk.typeIs
  obtain ⟨o, items, n, ho, _, hd, hi⟩ := hk
  unfold eqIsQuiet
  refine wpAny_bind (wpAny_specialOf hT F.slot_tuple_eq.lookup ?_)
  show wpAny _ _ (isInstance (.ref a) (.type "tuple") >>= _) _ _ s
  refine wpAny_bind (wpAny_isInstance hT isSubtype_tuple_tuple ?_)
  simp only [Bool.not_true, Bool.false_eq_true, if_false]
  refine wpAny_bind (wpAny_seqItems ho hd ?_)
  refine wpAny_bind ?_
  show wpAny _ _ (forIn items _ _) _ _ s
  rw [← Array.forIn_toList]
  refine wpAny_forIn_list _ (fun rest r s' => r.1 = none ∧ s' = s ∧ ∀ v ∈ rest, carriedByValue v = true) _ ?_ ?_ _ _ ⟨rfl, rfl, hi.byValue⟩
  · rintro v rest r s' ⟨hr, rfl, hall⟩
    rw [eqIsQuiet_byValue _ (hall v List.mem_cons_self)]
    refine wpAny_bind (wpAny_pure ?_)
    simp only [Bool.not_true, Bool.false_eq_true, if_false]
    exact wpAny_pure ⟨rfl, rfl, fun u hu' => hall u (List.mem_cons_of_mem _ hu')⟩
  · rintro ⟨r1, r2⟩ s' ⟨hr, rfl, _⟩
    simp only at hr
    subst hr
    exact wpAny_pure h
theorem quiet_nest {k : NK} {a : Addr} {Q : Bool → Shared → Prop} (hk : IsNest prog w s.heap k a) (h : Q true s) : wpAny (model prog w) A (eqIsQuiet 8 (.ref a)) Q E s := by
  have hT := hk.typeIs
  obtain ⟨o, b, n, t, ho, _, hd, hi⟩ := hk
  unfold eqIsQuiet
  refine wpAny_bind (wpAny_specialOf hT F.slot_tuple_eq.lookup ?_)
  show wpAny _ _ (isInstance (.ref a) (.type "tuple") >>= _) _ _ s
  refine wpAny_bind (wpAny_isInstance hT isSubtype_tuple_tuple ?_)
  simp only [Bool.not_true, Bool.false_eq_true, if_false]
  refine wpAny_bind (wpAny_seqItems ho hd ?_)
  refine wpAny_bind ?_
  show wpAny _ _ (forIn #[Value.ref b, Value.int k.2 t] _ _) _ _ s
  rw [← Array.forIn_toList]
  show wpAny _ _ (forIn [Value.ref b, Value.int k.2 t] _ _) _ _ s
  rw [List.forIn_cons]
  refine wpAny_bind (wpAny_bind (quiet_tuple _ hi ?_))
  simp only [Bool.not_true, Bool.false_eq_true, if_false]
  refine wpAny_pure ?_
  show wpAny _ _ (forIn [Value.int k.2 t] _ _) _ _ s
  rw [List.forIn_cons]
  rw [eqIsQuiet_byValue _ (show carriedByValue (Value.int k.2 t) = true from rfl)]
  refine wpAny_bind (wpAny_bind (wpAny_pure ?_))
  simp only [Bool.not_true, Bool.false_eq_true, if_false]
  refine wpAny_pure ?_
  show wpAny _ _ (forIn [] _ _) _ _ s
  rw [List.forIn_nil]
  exact wpAny_pure (wpAny_pure h)
end
def nestKind (prog : Program) (w : World) : HeapKind prog w NK where
  is := IsNest prog w
  hash := nestHash prog w
  draws := fun k => k.1.length + 1 + 1 + 1
  room := fun A => A.units + 1 < cLine
  inj := fun hx hy => hx.inj hy
  keeps := fun x ho hd hs => x.keeps ho hd hs
  pyHash := fun hu hk h => pyHash_nest hu hk h
  eqBool := fun hu hx hy h => eqBool_nest hu hx hy h
  quiet := fun hk h => quiet_nest hk h
end NX
set_option maxHeartbeats 4000000
namespace NX
open PySem PySem.Spec PyProof.Rows L2
def DN (P : Program) (w : World) (a : Addr) (xs : List (NK × Addr × Value)) : HO := .ext fun h => (a == sysModules) = false ∧ xs.length ≤ sizeLine ∧ (xs.map (·.1)).Nodup ∧
  ∃ o es ep, h.get? a = some o ∧ o.ExactDict ∧ o.data = .dict es ep ∧ es.toList = xs.map (entryOfKey (nestKind P w))
def NestK (K : PySem.W.Frag) (H : Hp) (k : NK) (b : Addr) : Prop := ∃ c, TupQ K H b [.ref c, .int k.2] ∧ TupQ K H c (k.1.map V.int)
theorem NestK.mono {K : PySem.W.Frag} {H H' : Hp} {k : NK} {b : Addr} (h : NestK K H k b) (e : ∀ b o, H b = some o → H' b = some o) : NestK K H' k b := by
  obtain ⟨c, h1, h2⟩ := h
  exact ⟨c, h1.mono e, h2.mono e⟩
section
variable {X : Cx} {pins : List (Addr × Obj)} {σ : L2.St} {H : Hp} {s : Shared} {a b : Addr} {k : NK} {A : Around} {E : Value → Shared → Prop} {xs : List (NK × Addr × Value)}
theorem DN.ok {P : Program} {w : World} {H : Hp} {h : Heap} (z : xs.length ≤ sizeLine) (hd : (a == sysModules) = false) (dd : h.DictOfH (nestKind P w) a xs) : ObjOk P w H h a (DN P w a xs) := by
  obtain ⟨o, es, ep, h1, h2, h3, h4, h5, h6⟩ := dd
  refine ⟨⟨hd, z, h6, o, es, ep, h1, h2, h3, h4⟩, ⟨o, h1⟩, fun ha hb ⟨a1, a2, a3, o', es', ep', b1, b2, b3, b4⟩ k => ⟨a1, a2, a3, o', es', ep', k _ b1, b2, b3, b4⟩⟩
/-- the keys that the dict holds stand in H -/
def KeysIn (K : PySem.W.Frag) (H : Hp) (xs : List (NK × Addr × Value)) : Prop := ∀ x ∈ xs, NestK K H x.1 x.2.1
theorem KeysIn.mono {K : PySem.W.Frag} {H H' : Hp} (h : KeysIn K H xs) (e : ∀ b o, H b = some o → H' b = some o) : KeysIn K H' xs := fun x m => (h x m).mono e
end
end NX
set_option maxHeartbeats 4000000
namespace Mv
open PySem PySem.Spec PyProof.Rows L2 NX
variable {K : PySem.W.Frag} {F F' F1 F2 F3 H H' H1 H2 H3 : Hp} {v u x y : V} {vs ws : List V} {s t : S} {ss tts : List S} {fp fq fr fp' fp1 fp2 f1 f2 : List Addr} {ρ as : Ro} {E E' : En} {n : Nat}
variable {W : WXm} {te ta tb tc : TE} {d da db dc : En → Option Rs} {tr : TA} {dr : En → Option (List Rs)} {de df : En → Option (S × En)} {tt : TT} {dte : En → Option (Bool × En)}
def rIxA (K : PySem.W.Frag) : R2 := fun x y H Q => rIxL K x y H Q ∨ rIxT K x y H Q
theorem ix_any {X : Cx} : IxR X (rIxA X.K) := by
  intro value slice pins s σ H x y v u Q I rx ry h hs
  rcases h with h | h
  · exact ix_list value slice pins s σ H x y v u Q I rx ry h hs
  · exact ix_tup value slice pins s σ H x y v u Q I rx ry h hs
def dIxA (da db : En → Option Rs) (E : En) : Option Rs := match dIxL da db E with
  | some r => some r
  | none => dIxT da db E
theorem p_ixA (ha : EvP K n as ta da) (hb : EvP K n as tb db) : EvP K n as (tOp (rIxA K) ta tb) (dIxA da db) := by
  intro F H σ E fp L R r' e Q q
  unfold dIxA at e
  split at e
  · next r0 e0 =>
    cases e
    unfold dIxL at e0
    split at e0
    · next r i ea eb =>
      refine ha L R ea fun x F1 H1 f1 g1 r1 n1 o1 => hb L (R.grow g1) eb fun y F2 H2 f2 g2 r2 n2 o2 => .inl ?_
      have R2 := (R.grow g1).grow g2
      have r1' := r1.grow (R.grow g1) g2
      have gg := (g1.seq0 g2).drop
      cases (Own.dat_inv (show Own K F2 H2 y _ f2 from r2) rfl).1
      split at e0
      · next ss es =>
        split at e0
        · next j ej =>
          split at e0
          · next s hs =>
            obtain ⟨fq, o⟩ := r1'.own R2 es
            obtain ⟨a, vs, fq', rfl, hH, l, _⟩ := o.lst_inv rfl
            obtain ⟨w, f, hw, ow⟩ := l.nth hs
            refine ⟨a, vs, i, w, rfl, rfl, .inl (.inl hH), by unfold atI; rw [l.length, ej]; exact hw, ?_⟩
            exact q w F2 H2 [] gg (r1'.kid R2 es hH hw hs ow e0) List.nodup_nil (fun _ m => nomatch m)
          · cases e0
        · cases e0
      · next ds es =>
        split at e0
        · next j ej =>
          obtain ⟨d, hd, rfl⟩ := Option.map_eq_some_iff.mp e0
          obtain ⟨fq, o⟩ := r1'.own R2 es
          obtain ⟨a, xs, rfl, hq, da⟩ := Mv.Dq.list_inv (o.dat_inv rfl).1
          obtain ⟨w, hw, dw⟩ := Mv.DqAll.nth da hd
          refine ⟨a, xs, i, w, rfl, rfl, SqL.mono R2.sub hq, by unfold atI; rw [Mv.DqAll.len da, ej]; exact hw, ?_⟩
          exact q w F2 H2 [] gg (.dat dw) List.nodup_nil (fun _ m => nomatch m)
        · cases e0
      · cases e0
    · cases e0
  · unfold dIxT at e
    split at e
    · next r i ea eb =>
      refine ha L R ea fun x F1 H1 f1 g1 r1 n1 o1 => hb L (R.grow g1) eb fun y F2 H2 f2 g2 r2 n2 o2 => .inr ?_
      have R2 := (R.grow g1).grow g2
      have r1' := r1.grow (R.grow g1) g2
      cases (Own.dat_inv (show Own K F2 H2 y _ f2 from r2) rfl).1
      split at e
      · next ds es =>
        split at e
        · next j ej =>
          obtain ⟨d, hd, rfl⟩ := Option.map_eq_some_iff.mp e
          obtain ⟨fq, o⟩ := r1'.own R2 es
          obtain ⟨a, xs, rfl, hq, da⟩ := Mv.Dq.tuple_inv (o.dat_inv rfl).1
          obtain ⟨w, hw, dw⟩ := Mv.DqAll.nth da hd
          refine ⟨a, xs, i, w, rfl, rfl, SqT.mono R2.sub hq, by unfold atI; rw [Mv.DqAll.len da, ej]; exact hw, ?_⟩
          exact q w F2 H2 [] (g1.seq0 g2).drop (.dat dw) List.nodup_nil (fun _ m => nomatch m)
        · cases e
      · cases e
    · cases e
end Mv
set_option maxHeartbeats 4000000
namespace Mv
open PySem PySem.Spec PyProof.Rows L2 NX
variable {K : PySem.W.Frag} {F F' F1 F2 F3 H H' H1 H2 H3 : Hp} {v u x y : V} {vs ws : List V} {s t : S} {ss tts : List S} {fp fq fr fp' fp1 fp2 f1 f2 : List Addr} {ρ as : Ro} {E E' : En} {n : Nat}
variable {W : WXm} {te ta tb tc : TE} {d da db dc : En → Option Rs} {tr : TA} {dr : En → Option (List Rs)} {de df : En → Option (S × En)} {tt : TT} {dte : En → Option (Bool × En)} {t1 t2 ts : TS}
variable {P : Program} {w : World} {a : Addr} {z z' : List NK}
def IZ (P : Program) (w : World) (K : PySem.W.Frag) (F H : Hp) (fp : List Addr) (a : Addr) (z : List NK) : Prop :=
  a ∉ fp ∧ F a = none ∧ ∃ xs : List (NK × Addr × Value), xs.map (·.1) = z ∧ H a = some (DN P w a xs) ∧ KeysIn K F xs
theorem IZ.there (h : IZ P w K F H fp a z) : H a ≠ none := by
  obtain ⟨_, _, xs, _, e, _⟩ := h
  rw [e]; exact fun q => nomatch q
theorem IZ.grow (h : IZ P w K F H fp a z) (g : Grow F H fp F' H' fp') : IZ P w K F' H' fp' a z := by
  have h0 := h.there
  obtain ⟨h1, h2, xs, e1, e2, e3⟩ := h
  exact ⟨fun m => (g.new a m).elim h1 h0, g.off a h0 h1 h2, xs, e1, g.keep a _ e2 h1, e3.mono g.f⟩
theorem IZ.sub (h : IZ P w K F H fp a z) (s : ∀ b ∈ fq, b ∈ fp) : IZ P w K F H fq a z := ⟨fun m => h.1 (s a m), h.2⟩
def Out.goZ (P : Program) (w : World) (K : PySem.W.Frag) (n : Nat) (as : Ro) (a : Addr) (z' : List NK) (F H : Hp) (fp : List Addr) (D : Ends) : Out → Prop
  | .nx E' => ∀ (σ' : L2.St) F' H' fp', σ'.length = n → Grow F H (a :: fp) F' H' (a :: fp') → Rep K F' H' (σ' ++ as) E' fp' → IZ P w K F' H' fp' a z' → D.nx σ' H'
  | .bk E' => ∀ (σ' : L2.St) F' H' fp', σ'.length = n → Grow F H (a :: fp) F' H' (a :: fp') → Rep K F' H' (σ' ++ as) E' fp' → IZ P w K F' H' fp' a z' → D.bk σ' H'
  | .ct E' => ∀ (σ' : L2.St) F' H' fp', σ'.length = n → Grow F H (a :: fp) F' H' (a :: fp') → Rep K F' H' (σ' ++ as) E' fp' → IZ P w K F' H' fp' a z' → D.ct σ' H'
  | .ex _ _ => False
  | .rt s E' => ∀ v (σ' : L2.St) F' H' fr fp', σ'.length = n → Grow F H (a :: fp) F' H' (a :: (fr ++ fp')) → Rep K F' H' (σ' ++ as) E' fp' → Own K F' H' v s fr → (fr ++ fp').Nodup → (∀ b ∈ fr, F' b = none) → IZ P w K F' H' (fr ++ fp') a z' → D.rt v H'
theorem Out.goZ.grow {o : Out} {D : Ends} (h : o.goZ P w K n as a z' F H fp D) (g : Grow F H (a :: fp) F1 H1 (a :: fp1)) : o.goZ P w K n as a z' F1 H1 fp1 D := by
  cases o with
  | rt s E' => exact fun v σ' F' H' fr fp' L g' R o nd of i => h v σ' F' H' fr fp' L (g.trans g') R o nd of i
  | ex c E' => exact h
  | _ => exact fun σ' F' H' fp' L g' R i => h σ' F' H' fp' L (g.trans g') R i
def zPutKey (k : NK) (z : List NK) : List NK := if k ∈ z then z else z ++ [k]
end Mv
set_option maxHeartbeats 4000000
namespace Mv
open PySem PySem.Spec PyProof.Rows L2 NX
end Mv
set_option maxHeartbeats 4000000
namespace Mv
open PySem PySem.Spec PyProof.Rows L2 CLX LamX
structure LamId where
  qual : Str
  params : Arguments
  body : Expr
  scope : Scope
  cl : List (Str × Addr)
def lamX (i : LamId) : Xt where
  At := fun K F H v fp => fp = [] ∧ ∃ f, v = .ref f ∧ IsLm F i.qual i.params i.body i.scope i.cl f
  frame := fun kF sub h k => ⟨h.1, let ⟨f, e, l⟩ := h.2; ⟨f, e, l.mono kF⟩⟩
  there := fun h a m => by rw [h.1] at m; cases m
def tabX (P : Addr) (q : Str) : Xt where
  At := fun K F H v fp => v = .ref P ∧ fp = [P] ∧ TabG F H P q
  frame := fun kF sub h k => ⟨h.1, h.2.1, h.2.2.grow kF fun ps e => k P (by rw [h.2.1]; exact List.mem_singleton.mpr rfl) _ e⟩
  there := fun h a m => by
    obtain ⟨_, rfl, ps, e, _⟩ := h
    rw [List.mem_singleton.mp m]
    exact ⟨_, e⟩
section
variable {K : PySem.W.Frag} {F F' H H' : Hp} {v : V} {n : Nat} {as : Ro} {E : En} {fp : List Addr}
open Classical in
/-- a lambda, its code object told in the table at slot j -/
noncomputable def eLm (j : Nat) (P : Addr) (i : LamId) (E : En) : Option (S × En) := match E[j]? with
  | some (.own (.ext x)) => if x = tabX P i.qual then some (.ext (lamX i), ekill E [j]) else none
  | _ => none
theorem eLm_go {j : Nat} {P : Addr} {i : LamId} (h : E[j]? = some (.own (.ext (tabX P i.qual)))) : eLm j P i E = some (.ext (lamX i), ekill E [j]) := by
  unfold eLm
  rw [h]
  exact if_pos rfl
theorem e_lm {j : Nat} {P : Addr} {i : LamId} : EvE K n as (tLm P i.qual i.params i.body i.scope i.cl) (eLm j P i) := by
  intro F H σ E fp L R s0 E0 e Q q
  unfold eLm at e
  split at e
  · next x ex =>
    split at e
    · next hx =>
      subst hx
      cases e
      have hg : eget E [j] = some (.ext (tabX P i.qual)) := by simp only [eget, ex, S.get_nil]
      obtain ⟨u, fp1, fp2, h1, o1, pm, fin⟩ := R.focus2 hg
      obtain ⟨rfl, rfl, tg⟩ := o1.ext_inv rfl
      have offP : F P = none := R.off P (pm.mem_iff.mpr (List.mem_append_left _ (List.mem_singleton.mpr rfl)))
      refine ⟨F, tg, R.sub, offP, fun f G1 H1 m il => ?_⟩
      have g : Grow F H ([] ++ [P]) G1 H1 ([] ++ [P]) := ⟨m.g, m.sub, fun a o ea na => m.keep a o ea (fun z => na (by rw [z]; simp)), fun a ma => .inl ma, fun a h0 na fa => by
        cases q : G1 a with
        | none => rfl
        | some o => exact absurd (m.new a (by rw [q]; simp) fa) h0⟩
      have oP : G1 P = none := by
        cases q : G1 P with
        | none => rfl
        | some o =>
          obtain ⟨ps, e1, _⟩ := tg
          have := m.new P (by rw [q]; simp) offP
          rw [e1] at this; cases this
      obtain ⟨R1, nd, g1⟩ := fin G1 H1 (.ext (tabX P i.qual)) [P] [] [] g (fun _ z => nomatch z) (.ext ⟨rfl, rfl, m.tab⟩) (by simp) (fun a ma => by rw [List.mem_singleton.mp ma]; exact oP)
      have ep : eput E [j] (.ext (tabX P i.qual)) = E := by
        have hj := (List.getElem?_eq_some_iff.mp ex)
        simp only [eput, ex, S.put_nil]
        obtain ⟨hl, he⟩ := hj
        rw [← he]
        exact List.set_getElem_self hl
      rw [ep] at R1
      refine q (.ref f) G1 H1 [] ([P] ++ fp2) ?_ R1 (.ext ⟨rfl, f, rfl, il⟩) (by simpa using nd) (fun _ z => nomatch z)
      exact (show Grow F H fp G1 H1 ([P] ++ fp2) from g1)
    · cases e
  · cases e
end
end Mv
set_option maxHeartbeats 4000000
namespace Mv
open PySem PySem.Spec PyProof.Rows L2
section
variable {K : PySem.W.Frag} {F F' F1 F2 H H' H1 H2 : Hp} {v : V} {n : Nat} {as : Ro} {E E' : En} {fp : List Addr} {te ta tb : TE} {d da db : En → Option Rs} {de : En → Option (S × En)} {tr : TA} {dr : En → Option (List Rs)}
theorem dat_at {ρ : Ro} {r : List Addr} {D : PyData} (a : RsAt K F H ρ E v (.val (.dat D)) r) : Dq K F v D ∧ r = [] := Own.dat_inv (show Own K F H v (.dat D) r from a) rfl
/-- x.m(), x a text -/
def dM0 (f : Str → Option PyData) (d : En → Option Rs) (E : En) : Option Rs := match d E with
  | some (.val (.dat (.str a))) => (f a).map fun c => .val (.dat c)
  | _ => none
theorem p_m0 {r : V → List V → Hp → VK → Prop} {f : Str → Option PyData} (hr : ∀ {a c} {H : Hp} {Q : VK}, f a = some c → isSc c = true ∧ (Q (scV c) H → r (.str a) [] H Q)) (h : EvP K n as te d) : EvP K n as (tM0 r te) (dM0 f d) := by
  intro F H σ E fp L R r1 e Q q
  unfold dM0 at e
  split at e
  · next a ed =>
    obtain ⟨c, ec, rfl⟩ := Option.map_eq_some_iff.mp e
    refine h L R ed fun v F1 H1 fr g1 a1 nd of => ?_
    obtain ⟨h1, rfl⟩ := dat_at a1
    cases h1
    obtain ⟨sc, hq⟩ := hr (H := H1) (Q := Q) ec
    exact ⟨⟨a, rfl⟩, hq (q _ F1 H1 [] g1 (.dat (scV_dp sc)) List.nodup_nil fun _ m => nomatch m)⟩
  · cases e
def fDig (a : Str) : Option PyData := some (.bool (Txt.isdigit a))
theorem p_isdigit (h : EvP K n as te d) : EvP K n as (tM0 (fun x xs H Q => ∃ a, x = .str a ∧ xs = [] ∧ True ∧ Q (.bl (Txt.isdigit a)) H) te) (dM0 fDig d) :=
  p_m0 (fun {a c H Q} e => by cases e; exact ⟨rfl, fun q => ⟨a, rfl, rfl, trivial, q⟩⟩) h
/-- x.m(y), both texts -/
def dM1 (f : Str → Str → Option PyData) (da db : En → Option Rs) (E : En) : Option Rs := match da E, db E with
  | some (.val (.dat (.str a))), some (.val (.dat (.str b))) => (f a b).map fun c => .val (.dat c)
  | _, _ => none
theorem p_m1 {r : V → List V → Hp → VK → Prop} {f : Str → Str → Option PyData} (hr : ∀ {a b c} {H : Hp} {Q : VK}, f a b = some c → isSc c = true ∧ (Q (scV c) H → r (.str a) [.str b] H Q)) (ha : EvP K n as ta da) (hb : EvP K n as tb db) : EvP K n as (tM1 r ta tb) (dM1 f da db) := by
  intro F H σ E fp L R r1 e Q q
  unfold dM1 at e
  split at e
  · next a b ea eb =>
    obtain ⟨c, ec, rfl⟩ := Option.map_eq_some_iff.mp e
    refine ha L R ea fun v F1 H1 fr g1 a1 nd of => ?_
    obtain ⟨h1, rfl⟩ := dat_at a1
    cases h1
    refine ⟨⟨a, rfl⟩, hb L (R.grow g1) eb fun u F2 H2 fr2 g2 a2 nd2 of2 => ?_⟩
    obtain ⟨h2, rfl⟩ := dat_at a2
    cases h2
    obtain ⟨sc, hq⟩ := hr (H := H2) (Q := Q) ec
    exact hq (q _ F2 H2 [] (g1.trans g2) (.dat (scV_dp sc)) List.nodup_nil fun _ m => nomatch m)
  · cases e
def fStarts (a b : Str) : Option PyData := some (.bool (Txt.startswith a b))
theorem p_startswith (ha : EvP K n as ta da) (hb : EvP K n as tb db) : EvP K n as (tM1 (fun x xs H Q => ∃ a b, x = .str a ∧ xs = [.str b] ∧ Q (.bl (Txt.startswith a b)) H) ta tb) (dM1 fStarts da db) :=
  p_m1 (fun {a b c H Q} e => by cases e; exact ⟨rfl, fun q => ⟨a, b, rfl, rfl, q⟩⟩) ha hb
/-- x.split(y) -/
def dSplit (da db : En → Option Rs) (E : En) : Option Rs := match da E, db E with
  | some (.val (.dat (.str a))), some (.val (.dat (.str b))) => if (b.length == 0) = false ∧ a.length + 2 ≤ sizeLine then some (.val (.lst ((Txt.split a b).map fun x => .dat (.str x)))) else none
  | _, _ => none
theorem strs_own : ∀ (xs : List Str), OwnL K F H (xs.map V.str) (xs.map fun x => S.dat (.str x)) []
  | [] => .nil
  | x :: xs => .cons (fp := []) (fq := []) (.dat (.str x)) (strs_own xs)
theorem p_split (ha : EvP K n as ta da) (hb : EvP K n as tb db) : EvP K n as (tM1 (fun x xs H Q => ∃ a b, x = .str a ∧ xs = [.str b] ∧ (b.length == 0) = false ∧ a.length + 2 ≤ sizeLine ∧ rNewStrs (Txt.split a b) H Q) ta tb) (dSplit da db) := by
  intro F H σ E fp L R r1 e Q q
  unfold dSplit at e
  split at e
  · next a b ea eb =>
    split at e
    · next hc =>
      cases e
      refine ha L R ea fun v F1 H1 fr g1 a1 nd of => ?_
      obtain ⟨h1, rfl⟩ := dat_at a1
      cases h1
      refine ⟨⟨a, rfl⟩, hb L (R.grow g1) eb fun u F2 H2 fr2 g2 a2 nd2 of2 => ?_⟩
      obtain ⟨h2, rfl⟩ := dat_at a2
      cases h2
      have g12 := g1.trans g2
      refine ⟨a, b, rfl, rfl, hc.1, hc.2, ?_⟩
      exact mk_lst (F := F2) (ss := (Txt.split a b).map fun x => S.dat (.str x)) g12.sub (strs_own _) fun v F' H' fr g3 o nd3 of3 => q v F' H' fr (by simpa using g12.trans g3) o nd3 of3
    · cases e
  · cases e
def strsS : List S → Option (List Str)
  | [] => some []
  | .dat (.str x) :: r => (strsS r).map (x :: ·)
  | _ => none
theorem strs_inv : ∀ {vs : List V} {ss : List S} {fp : List Addr} {xs : List Str}, OwnL K F H vs ss fp → strsS ss = some xs → vs = xs.map V.str ∧ fp = []
  | _, _, _, xs, .nil, e => by cases e; exact ⟨rfl, rfl⟩
  | _, _, _, xs, .cons (s := s) o l, e => by
    unfold strsS at e
    split at e
    · next h => cases h
    · next x r h =>
      cases h
      obtain ⟨ys, ey, rfl⟩ := Option.map_eq_some_iff.mp e
      obtain ⟨h1, rfl⟩ := o.dat_inv rfl
      cases h1
      obtain ⟨rfl, rfl⟩ := strs_inv l ey
      exact ⟨rfl, rfl⟩
    · cases e
def rJoinK (K : PySem.W.Frag) : V → List V → Hp → VK → Prop := fun x xs H Q => ∃ a p, ∃ ys : List Str, x = .str a ∧ xs = [.ref p] ∧ (SqL K H p (ys.map V.str) ∨ SqT K H p (ys.map V.str)) ∧ (ys.map (·.length)).sum + ys.length * a.length ≤ 16777216 ∧ Q (.str (Txt.join a ys)) H
/-- x.join(a list of its own) -/
def eJoin (da : En → Option Rs) (de : En → Option (S × En)) (E : En) : Option (S × En) := match da E with
  | some (.val (.dat (.str a))) => match de E with
    | some (.lst ss, E1) => match strsS ss with
      | some ys => if (ys.map (·.length)).sum + ys.length * a.length ≤ 16777216 then some (.dat (.str (Txt.join a ys)), E1) else none
      | none => none
    | _ => none
  | _ => none
theorem e_join (ha : EvP K n as ta da) (he : EvE K n as te de) : EvE K n as (tM1 (rJoinK K) ta te) (eJoin da de) := by
  intro F H σ E fp L R s0 E0 e Q q
  unfold eJoin at e
  split at e
  · next a ea =>
    split at e
    · next ss E1 ee =>
      split at e
      · next ys ey =>
        split at e
        · next hc =>
          cases e
          refine ha L R ea fun v F1 H1 fr g1 a1 nd of => ?_
          obtain ⟨h1, rfl⟩ := dat_at a1
          cases h1
          refine ⟨⟨a, rfl⟩, he L (R.grow g1) ee fun u F2 H2 fr2 fp2 g2 R2 ow nd2 of2 => ?_⟩
          obtain ⟨p, vs, fq, rfl, hp, l, rfl⟩ := ow.lst_inv rfl
          obtain ⟨rfl, rfl⟩ := strs_inv l ey
          refine ⟨a, p, ys, rfl, rfl, .inl (.inl (.inl hp)), hc, ?_⟩
          have g12 := g1.mine.trans g2
          exact q _ F2 H2 [] fp2 (g12.less fun a m => List.mem_append_right _ (by simpa using m)) R2 (.dat (.str _)) (by simpa using (List.nodup_append.mp nd2).2.1) (fun _ m => nomatch m)
        · cases e
      · cases e
    · cases e
  · cases e
def fPow : PyData → PyData → Option PyData | .int i, .int j => if 0 ≤ j ∧ j ≤ 1000000 ∧ i.natAbs < 2 ^ 64 then some (.int (i ^ j.toNat)) else none | _, _ => none
theorem rv_pow : Rv2 K (rI CPow fun i j => .int (i ^ j.toNat)) fPow := by
  intro H x y a b c ha hb e Q q
  unfold fPow at e
  split at e
  · next i j =>
    split at e
    · next h => cases e; cases ha; cases hb; exact ⟨i, j, rfl, rfl, h, q rfl⟩
    · cases e
  · cases e
def fDivW : PyData → PyData → Option PyData | .int i, .int j => if 0 < j ∧ j < 18446744073709551616 then some (.int (i / j)) else none | _, _ => none
theorem rv_divW : Rv2 K (rI CDivW fun i j => .int (i / j)) fDivW := by
  intro H x y a b c ha hb e Q q
  unfold fDivW at e
  split at e
  · next i j =>
    split at e
    · next h =>
      cases e; cases ha; cases hb
      exact ⟨i, j, rfl, rfl, ⟨h.1, Nat.lt_of_lt_of_le ((Nat.log2_lt (by omega)).mpr (by omega : j.natAbs < 2 ^ 64)) (by decide)⟩, q rfl⟩
    · cases e
  · cases e
def fAddS : PyData → PyData → Option PyData | .str i, .str j => if i.length + j.length ≤ sizeLine then some (.str (i ++ j)) else none | _, _ => none
theorem rv_addS : Rv2 K (fun x y H Q => ∃ i j, x = .str i ∧ y = .str j ∧ i.length + j.length ≤ sizeLine ∧ Q (.str (i ++ j)) H) fAddS := by
  intro H x y a b c ha hb e Q q
  unfold fAddS at e
  split at e
  · next i j =>
    split at e
    · next h => cases e; cases ha; cases hb; exact ⟨i, j, rfl, rfl, h, q rfl⟩
    · cases e
  · cases e
/-- str(x), x a number or a text -/
def rStr : List V → Hp → VK → Prop := fun xs H Q => (∃ i, xs = [.int i] ∧ i.natAbs.log2 < 1920 ∧ Q (.str (toString i)) H) ∨ ∃ a, xs = [.str a] ∧ Q (.str a) H
theorem call_str {X : Cx} : CallR X (.type "str") rStr := by
  intro pins s σ H xs us Q I r h
  rcases h with h | h
  · exact call_str_int pins s σ H xs us Q I r h
  · exact SkE.call_str_str pins s σ H xs us Q I r h
def fStr : List PyData → Option PyData
  | [.int i] => if i.natAbs.log2 < 1920 then some (.str (toString i)) else none
  | [.str a] => some (.str a)
  | _ => none
theorem rc_str : RvC K rStr fStr := by
  intro H vs ds c a e Q q
  unfold fStr at e
  split at e
  · next i =>
    split at e
    · next h =>
      cases e
      cases a with
      | cons a1 t => cases t; cases a1; exact .inl ⟨i, rfl, h, q rfl⟩
    · cases e
  · next x =>
    cases e
    cases a with
    | cons a1 t => cases t; cases a1; exact .inr ⟨x, rfl, q rfl⟩
  · cases e
def fIntT : List PyData → Option PyData
  | [.str a] => if a.length ≤ 640 then (PySem.intText? a).map .int else none
  | _ => none
theorem rc_intT : RvC K (fun xs H Q => ∃ a n, xs = [.str a] ∧ PySem.intText? a = some n ∧ a.length ≤ 640 ∧ Q (.int n) H) fIntT := by
  intro H vs ds c a e Q q
  unfold fIntT at e
  split at e
  · next x =>
    split at e
    · next h =>
      obtain ⟨m, em, rfl⟩ := Option.map_eq_some_iff.mp e
      cases a with
      | cons a1 t => cases t; cases a1; exact ⟨x, m, rfl, em, h, q rfl⟩
    · cases e
  · cases e
def fLenS : List PyData → Option PyData
  | [.str a] => if a.length ≤ sizeLine then some (.int (a.length : Nat)) else none
  | _ => none
theorem rc_lenS : RvC K (fun xs H Q => ∃ z, xs = [.str z] ∧ z.length ≤ sizeLine ∧ Q (.int z.length) H) fLenS := by
  intro H vs ds c a e Q q
  unfold fLenS at e
  split at e
  · next x =>
    split at e
    · next h =>
      cases e
      cases a with
      | cons a1 t => cases t; cases a1; exact ⟨x, rfl, h, q rfl⟩
    · cases e
  · cases e
end
end Mv
set_option maxHeartbeats 4000000
namespace NX
open PySem PySem.Spec PyProof.Rows L2
section
variable {prog : Program} {w : World} {A : Around} {E : Value → Shared → Prop} {s : Shared} {l : Addr} {items : Array Value}
theorem liter_self {it : Addr} {i : Nat} {Q : Value → Shared → Prop} (hit : s.heap.IsListIter it l i) (h : Q (.ref it) s) : wpAny (model prog w) A (pyIter (.ref it)) Q E s := by
  obtain ⟨o, ho, hc, hd⟩ := hit
  have ty : s.TypeIs (.ref it) "list_iterator" := ⟨o, ho, hc⟩
  refine wpAny_pyIter_slot ty slot_listiter_iter (wpAny_call_entry slot_listiter_iter ty entry_listiter_iter ?_ (args_listiter_iter _))
  show wpAny _ _ (ret (.ref it)) _ _ s
  exact wpAny_pure ⟨_, rfl, "list_iterator", _, ty, slot_listiter_next.lookup, h⟩
/-- the walk over what is left of a list, from the i-th on -/
theorem walks_rest {I : Addr} {i : Nat} (hh : A.handled = none) (hne : l ≠ I) (hi : i ≤ items.size) : WalksS prog w A I [I, l] [I] (fun a b => a = b) (items.size - i) (fun j v => items[i + j]? = some v) (fun j s => s.heap.IsListIter I l (i + j) ∧ s.heap.IsList l items) where
  sub := fun b hb => by simp at hb; simp [hb]
  grefl := fun _ => rfl
  gtrans := fun _ _ _ h1 h2 => h1.trans h2
  frame := fun j s h' tk st _ k => by
    obtain ⟨⟨o, ho, hc, hd⟩, ⟨ol, hol, hcl, nl, hdl⟩⟩ := st
    exact ⟨⟨o, k I (by simp) o ho, hc, hd⟩, ⟨ol, k l (by simp) ol hol, hcl, nl, hdl⟩⟩
  item := fun j s Q E hj st hQ => by
    obtain ⟨hit, hl⟩ := st
    have hlt : i + j < items.size := by omega
    refine wpAny_pyNext_list_item hit hl (x := items[i + j]) (by simp [hlt]) fun h₁ hit₁ hs₁ => ?_
    refine hQ _ _ (by simp [hlt]) ⟨by rw [← Nat.add_assoc]; exact hit₁, hl.extBut hs₁.extBut hne⟩ ⟨fun b o hb e => (hs₁.2 b (by simpa using hb)).trans e, rfl, rfl, rfl, Nat.le_refl _⟩
  done := fun s Q E st hQ => by
    obtain ⟨hit, hl⟩ := st
    refine wpAny_pyNext_list_end hh hit hl (by rw [Array.getElem?_eq_none]; omega) fun h' he => ?_
    exact hQ _ ⟨fun b o hb e => he b o (by simpa using hb) e, rfl, rfl, rfl, Nat.le_refl _⟩
  self := fun j s Q E st hQ => liter_self st.1 hQ
theorem unpack_star {n : Nat} {Q : List Value → Shared → Prop} (hh : A.handled = none) (hl : s.heap.IsList l items) (hn : n ≤ items.size) (hz : items.size ≤ sizeLine)
    (hQ : ∀ (h2 : Heap) (tk : Tok), (∀ b o, s.heap.get? b = some o → h2.get? b = some o) → Q (items.toList.take n ++ [.ref h2.objs.size]) { s with heap := h2.push { cls := .type "list", data := .seq (items.toList.drop n).toArray }, toks := tk }) :
    wpAny (model prog w) A (unpackItems (.ref l) (n + 1) (some n)) Q E s := by
  have hlt : l ≠ s.heap.objs.size := by obtain ⟨o, ho, _⟩ := hl; exact Nat.ne_of_lt (Heap.lt_size ho)
  unfold unpackItems
  refine wpAny_bind ?_
  unfold notIterableAtAll
  refine wpAny_bind (wpAny_specialOf hl.typeIs slot_list_iter.lookup ?_)
  refine wpAny_pure ?_
  simp only [Bool.false_eq_true, if_false]
  refine wpAny_bind (wpAny_holding (wpAny_pyIter_list hl ?_))
  refine wpAny_bind (wpAny_holding (PySem.W.kun_draw hlt n 0 _ _ ⟨_, Heap.get?_push_size _ rfl, rfl, rfl⟩ (hl.push _) (by omega) fun h₁ hit₁ hs₁ => ?_))
  rw [List.drop_zero]
  have hlen : (items.toList.take n).length = n := by rw [List.length_take]; simp; omega
  rw [if_neg (by rw [hlen]; exact Nat.lt_irrefl _)]
  have hl₁ : h₁.IsList l items := (hl.push _).extBut hs₁.extBut hlt
  rw [Nat.zero_add] at hit₁
  have h1s : s.heap.objs.size < h₁.objs.size := by
    obtain ⟨o, ho, _⟩ := hit₁
    exact Heap.lt_size ho
  have lls : l < h₁.objs.size := by
    obtain ⟨o, ho, _⟩ := hl₁
    exact Heap.lt_size ho
  have W := walks_rest (prog := prog) (w := w) (A := A.in1) (items := items) (l := l) (I := s.heap.objs.size) (i := n) hh hlt hn
  refine wpAny_bind (wpAny_holding (wpAny_collect_iter (T := "list_iterator") (.inr (.inr (.inl rfl))) W (fun j s st => by
    obtain ⟨⟨o, ho, hc, _⟩, _⟩ := st
    exact ⟨o, ho, hc⟩) (s := { s with heap := h₁ }) ⟨hit₁, hl₁⟩ (fun b hb => ?_) (by simp) (fun s' acc mv it => ?_) (by omega)))
  · rcases List.mem_cons.mp hb with rfl | hb
    · exact h1s
    · rw [List.mem_singleton.mp hb]; exact lls
  · have eacc : acc.toList = items.toList.drop n := by
      refine List.ext_getElem? fun j => ?_
      by_cases hj : j < acc.size
      · have h1 : acc[j]? = some acc[j] := by simp [hj]
        have h2 := it.2 j _ h1
        rw [List.getElem?_drop]
        simpa using (h1.trans h2.symm)
      · rw [List.getElem?_eq_none (by simpa using hj), List.getElem?_eq_none]
        have := it.1
        rw [List.length_drop]
        simp only [Array.length_toList]
        omega
    rw [eacc]
    have hrl : (items.toList.drop n).length = items.size - n := by rw [List.length_drop]; simp
    simp only [Nat.add_sub_cancel_left, Nat.add_one_sub_one, Nat.sub_self]
    rw [if_neg (Nat.not_lt_zero _)]
    simp only [Nat.sub_zero, List.take_length, List.drop_length, List.append_nil]
    refine wpAny_bind (wpAny_newObj_type ?_ (by show (items.toList.drop n).toArray.size ≤ sizeLine; simp; omega))
    refine wpAny_pure ?_
    obtain ⟨h2, g2, d2, t2, o2⟩ := s'
    obtain ⟨m1, m2, m3, m4, m5⟩ := mv
    have m2 : g2 = s.gens := m2.symm
    have m3 : d2 = s.drawn := m3
    have m4 : o2 = s.os := m4
    subst m2 m3 m4
    refine hQ h2 t2 fun b o e => ?_
    have hb : b ≠ s.heap.objs.size := Nat.ne_of_lt (Heap.lt_size e)
    exact m1 b o (by simpa using hb) ((hs₁.2 b hb).trans (Heap.get?_push_of_some _ e))
/-- a, .., *c = a list: what the names before get, what the last gets -/
def gStar (K : PySem.W.Frag) (n : Nat) (t : TGs) : TG := fun v σ H Q => ∃ a xs, v = .ref a ∧ SqL K H a xs ∧ n ≤ xs.length ∧ ∀ p, H p = none → t (xs.take n ++ [.ref p]) σ (upd H p (.lst (xs.drop n))) Q
end
section
variable {X : Cx} {pos : Pos}
theorem pgs_star {e : Expr} {p : Pos} {es : List Expr} {t : TG} {u : TGs} (h1 : PG X e t) (h2 : PGs X es u) : PGs X (.Starred e p :: es) (gCons t u) := by
  refine ⟨fun pins s σ H vs us Q I r h => ?_⟩
  obtain ⟨v, vr, rfl, h⟩ := h
  cases r with
  | cons r rr =>
    show wpAny _ _ (assignInOrder (assign e X.env :: (assignEach es X.env).map (·.2)) _) _ _ s
    exact assignInOrder_cons (thn (h1.run pins s σ H _ _ _ I r h) fun _ s1 ⟨σ1, H1, I1, q1⟩ => h2.run pins s1 σ1 H1 _ _ Q I1 rr q1)
theorem pg_star {es : List Expr} {k : Nat} {t : TGs} {n : Nat} (hc : X.calm = true) (h : PGs X es t)
    (hn : (assignEach es X.env).length = n + 1 := by rfl) (hst : (assignEach es X.env).findIdx? (·.1) = some n := by rfl) : PG X (.Tuple es k pos) (gStar X.K n t) := by
  refine ⟨fun pins s σ H v u Q I r hw => ?_⟩
  obtain ⟨a, xs, e1, hq, hl, hw⟩ := hw
  subst e1
  cases r
  obtain ⟨its, rv, pl, hz⟩ := I.list hq
  rw [PyProof.Rows.assign_Tuple]
  refine wpAny_bind (wpAny_standAt ?_)
  unfold unpack
  rw [hn, hst]
  have el : its.toArray.size = xs.length := by simp [rv.length]
  refine wpAny_bind (wpAny_holding (unpack_star (I.ok.hd hc) pl.isList (by rw [el]; exact hl) (by rw [el]; exact hz) fun h2 tk k => ?_))
  have I1 : Inv X pins σ H { s with heap := h2, toks := tk } := I.kept k
  have nf : H h2.objs.size = none := I1.hok.fresh (Nat.le_refl _)
  have I2 := I1.laid (a := h2.objs.size) (o := .lst (xs.drop n)) (t' := tk) (h' := h2.push { cls := .type "list", data := .seq (its.toArray.toList.drop n).toArray }) (fun b o e => Heap.get?_push_of_some _ e) (Nat.le_refl _)
    ⟨by rw [List.length_drop]; omega, its.drop n, 0, rv.drop n, Heap.get?_push_size _ rfl⟩
  exact h.run pins _ σ _ (xs.take n ++ [.ref h2.objs.size]) _ Q I2 (show Vals (xs.take n ++ [V.ref h2.objs.size]) (its.take n ++ [Value.ref h2.objs.size]) from (rv.take n).append (.cons (show RelV (V.ref h2.objs.size) (Value.ref h2.objs.size) from rfl) .nil)) (hw _ nf)
end
end NX
set_option maxHeartbeats 4000000
namespace Mv
open PySem PySem.Spec PyProof.Rows L2 NX
section
variable {K : PySem.W.Frag} {F F' F1 F2 H H' H1 H2 : Hp} {v : V} {n : Nat} {as : Ro} {E E' : En} {fp : List Addr} {te ta tb : TE} {de : En → Option (S × En)} {W : WXm}
theorem dats_inv : ∀ {vs : List V} {ss : List S} {fp : List Addr} {ds : List PyData}, OwnL K F H vs ss fp → datsS ss = some ds → DqAll K F vs ds ∧ fp = []
  | _, _, _, _, .nil, e => by cases e; exact ⟨.nil, rfl⟩
  | _, _, _, ds, .cons (s := s) o l, e => by
    have e2 := datsS_map e
    cases ds with
    | nil => cases e2
    | cons d ds =>
      injection e2 with h1 h2
      subst h1
      obtain ⟨q, rfl⟩ := o.dat_inv rfl
      have : datsS (ds.map S.dat) = some ds := datsS_dats ds
      rw [h2] at l
      obtain ⟨r, rfl⟩ := dats_inv l this
      exact ⟨.cons q r, rfl⟩
theorem dq_take : ∀ (k : Nat) {vs : List V} {ds : List PyData}, DqAll K F vs ds → DqAll K F (vs.take k) (ds.take k)
  | 0, _, _, _ => .nil
  | _ + 1, _, _, .nil => .nil
  | k + 1, _, _, .cons a t => .cons a (dq_take k t)
theorem dq_drop : ∀ (k : Nat) {vs : List V} {ds : List PyData}, DqAll K F vs ds → DqAll K F (vs.drop k) (ds.drop k)
  | 0, _, _, h => h
  | _ + 1, _, _, .nil => .nil
  | k + 1, _, _, .cons a t => dq_drop k t
theorem dq_app : ∀ {vs ws : List V} {ds es : List PyData}, DqAll K F vs ds → DqAll K F ws es → DqAll K F (vs ++ ws) (ds ++ es)
  | _, _, _, _, .nil, h => h
  | _, _, _, _, .cons a t, h => .cons a (dq_app t h)
def dStarS (k : Nat) (bs : List PyData → En → Option En) (de : En → Option (S × En)) (E : En) : Option Out := match de E with
  | some (.lst ss, E1) => match datsS ss with
    | some ds => if k ≤ ds.length then (bs (ds.take k ++ [.list (ds.drop k)]) E1).map .nx else none
    | none => none
  | _ => none
theorem s_star {gs : TGs} {bs : List PyData → En → Option En} {k : Nat} (hs : EvGs K n gs bs) (h : EvE K n as te de) : EvS K n as W (tAsg te (gStar K k gs)) (dStarS k bs de) := by
  intro F H σ E fp L R o e D gg
  unfold dStarS at e
  split at e
  · next ss E1 ee =>
    split at e
    · next ds hd =>
      split at e
      · next hk =>
        obtain ⟨E2, e2, rfl⟩ := Option.map_eq_some_iff.mp e
        refine h L R ee fun v F1 H1 fr fp1 g1 R1 ow nd of => ?_
        obtain ⟨a, vs, fq, rfl, ha, l, rfl⟩ := ow.lst_inv rfl
        obtain ⟨dq, rfl⟩ := dats_inv l hd
        have len := Mv.DqAll.len dq
        refine ⟨a, vs, rfl, .inl (.inl ha), by omega, fun p hp => ?_⟩
        have gs1 : Grow F1 H1 [] (upd F1 p (.lst (vs.drop k))) (upd H1 p (.lst (vs.drop k))) [] := Grow.share R1.sub hp
        have R2 := R1.grow gs1
        have da : DqAll K (upd F1 p (.lst (vs.drop k))) (vs.take k ++ [V.ref p]) (ds.take k ++ [.list (ds.drop k)]) :=
          dq_app (DqAll.mono gs1.f (dq_take k dq)) (.cons (.lst (.inl (.inl upd_same)) (DqAll.mono gs1.f (dq_drop k dq))) .nil)
        have g12 : Grow F H fp (upd F1 p (.lst (vs.drop k))) (upd H1 p (.lst (vs.drop k))) fp1 := (g1.less fun b m => List.mem_append_right _ m).trans gs1.mine
        exact hs L R2 da e2 fun σ2 F2 H2 fp2 L2 g2 R3 => gg σ2 F2 H2 fp2 L2 (g12.trans g2) R3
      · cases e
    · cases e
  · cases e
end
end Mv
set_option maxHeartbeats 4000000
namespace Mv
open PySem PySem.Spec PyProof.Rows L2 NX
section
variable {K : PySem.W.Frag} {F F' F1 F2 H H' H1 H2 : Hp} {v : V} {vs ws : List V} {ss tts : List S} {n : Nat} {as : Ro} {E E' : En} {fp fq : List Addr}
theorem Rep.pushN {σ : L2.St} : ∀ {ws : List V} {tts : List S} {fq : List Addr} {as : Ro} {E : En} {fp : List Addr}, Rep K F H (σ ++ as) E fp → OwnL K F H ws tts fq → (fp ++ fq).Nodup → (∀ a ∈ fq, F a = none) →
    ∃ fz, Rep K F H (σ ++ (as ++ ws.map some)) (E ++ tts.map Sl.own) fz ∧ fz.Perm (fp ++ fq)
  | [], _, _, as, E, fp, R, .nil, _, _ => ⟨fp, by simpa using R, by simp⟩
  | w :: ws, _, _, as, E, fp, R, .cons (s := s) (ss := tts) (fp := f1) (fq := f2) o l, nd, of => by
    have nd1 : (f1 ++ fp).Nodup := by
      have : (fp ++ f1).Nodup := (List.nodup_append.mp (by rw [← List.append_assoc] at nd; exact nd)).1
      exact List.perm_append_comm.nodup_iff.mp this
    have R1 := R.push o nd1 fun a m => of a (List.mem_append_left _ m)
    have p1 : (f1 ++ fp ++ f2).Perm (fp ++ (f1 ++ f2)) := by
      rw [← List.append_assoc]
      exact List.Perm.append_right f2 List.perm_append_comm
    obtain ⟨fz, R2, pm⟩ := Rep.pushN R1 l (p1.nodup_iff.mpr nd) fun a m => of a (List.mem_append_right _ m)
    exact ⟨fz, by simpa [List.append_assoc] using R2, pm.trans p1⟩
/-- what a def promises that has the things ws beside -/
def spG (ws : List V) (K : PySem.W.Frag) (m : Nat) (g : List S → List S → Option (S × List S × List S)) : Sp := fun vs H Q _ => vs.length = m ∧ ∃ F ss tts fp fq s ss' tts', (∀ a o, F a = some o → H a = some o) ∧ OwnL K F H vs ss fp ∧ OwnL K F H ws tts fq ∧ (fp ++ fq).Nodup ∧ (∀ a ∈ fp ++ fq, F a = none) ∧ g ss tts = some (s, ss', tts') ∧
  ∀ v F' H' fr fp' fq', Grow F H (fp ++ fq) F' H' (fr ++ (fp' ++ fq')) → OwnL K F' H' vs ss' fp' → OwnL K F' H' ws tts' fq' → Own K F' H' v s fr → (fr ++ (fp' ++ fq')).Nodup → (∀ a ∈ fr ++ (fp' ++ fq'), F' a = none) → Q v H'
def fnGG (n : Nat) (d : En → Option Out) (ss tts : List S) : Option (S × List S × List S) := match d (entry n ss ++ tts.map Sl.own) with
  | some (.rt s E) => (ownSs (E.drop n)).map fun l => (s, l.take ss.length, l.drop ss.length)
  | some (.nx E) => (ownSs (E.drop n)).map fun l => (.dat .none, l.take ss.length, l.drop ss.length)
  | _ => none
theorem OwnL.cut {k : Nat} : ∀ {vs ws : List V} {l : List S} {fp : List Addr}, OwnL K F H (vs ++ ws) l fp → vs.length = k → ∃ f1 f2, fp = f1 ++ f2 ∧ OwnL K F H vs (l.take k) f1 ∧ OwnL K F H ws (l.drop k) f2 := by
  intro vs ws l fp o hk
  have hl := o.length
  rw [List.length_append] at hl
  have e : l = l.take k ++ l.drop k := (List.take_append_drop k l).symm
  rw [e] at o
  exact OwnL.split (by rw [List.length_take]; omega) o
section
variable {P : Program} {w : World} {mg : Str → Option Value} {base : Heap}
theorem mvG_core {N ps : List Str} {dd : En → Option Out} {ws : List V} {vs : List V} {H : Hp} {Q : VK} {E : XK} {t : TS} (hps : ps.length ≤ N.length) (h : spG ws K ps.length (fnGG N.length dd) vs H Q E) (h2 : ∀ W, EvS K N.length (vs.map some ++ ws.map some) W t dd) : t { nx := fun _ H' => Q .non H', rt := Q } (start N vs) H := by
  obtain ⟨hl, F, ss, tts, fp, fq, r, ss', tts', sub, l, lw, nd, of, hg, q⟩ := h
  have R0 := Rep.entry (N := N) sub l (List.nodup_append.mp nd).1 (fun a m => of a (List.mem_append_left _ m)) (by omega)
  obtain ⟨fz, R, pm⟩ := R0.pushN lw nd fun a m => of a (List.mem_append_right _ m)
  have L : (start N vs).length = N.length := by rw [start_eq, List.length_append, List.length_map, List.length_replicate]; omega
  have hss : ss.length = vs.length := l.length.symm
  have back : ∀ {σ' : L2.St} {F' H' : Hp} {E' : En} {fp' fr : List Addr} {l : List S} {v : V} {r : S}, σ'.length = N.length → Grow F H fz F' H' (fr ++ fp') → Rep K F' H' (σ' ++ (vs.map some ++ ws.map some)) E' fp' → ownSs (E'.drop N.length) = some l → Own K F' H' v r fr → (fr ++ fp').Nodup → (∀ a ∈ fr, F' a = none) →
      (r, l.take ss.length, l.drop ss.length) = (r, ss', tts') → (∀ v F' H' fr fp' fq', Grow F H (fp ++ fq) F' H' (fr ++ (fp' ++ fq')) → OwnL K F' H' vs ss' fp' → OwnL K F' H' ws tts' fq' → Own K F' H' v r fr → (fr ++ (fp' ++ fq')).Nodup → (∀ a ∈ fr ++ (fp' ++ fq'), F' a = none) → Q v H') → Q v H' := by
    intro σ' F' H' E' fp' fr l v r L' g R' e1 ow nd' of' e2 q
    cases e2
    rw [← List.map_append] at R'
    obtain ⟨fy, l2, n2, sb⟩ := R'.args L' e1
    obtain ⟨f1, f2, rfl, l3, l4⟩ := l2.cut (k := ss.length) hss.symm
    have nd2 : (fr ++ (f1 ++ f2)).Nodup := nodup_two (List.nodup_append.mp nd').1 n2 fun a m b m2 => (List.nodup_append.mp nd').2.2 a m b (sb b m2)
    refine q v F' H' fr f1 f2 ((g.wide (fun a m => pm.mem_iff.mp m) (fun a m => (g.new a m).imp (fun z => pm.mem_iff.mp z) id)).less fun a m => ?_) l3 l4 ow nd2 fun a m => ?_
    · rcases List.mem_append.mp m with m | m
      · exact List.mem_append_left _ m
      · exact List.mem_append_right _ (sb a m)
    · rcases List.mem_append.mp m with m | m
      · exact of' a m
      · exact R'.off a (sb a m)
  unfold fnGG at hg
  split at hg
  · next r' E' hd =>
    obtain ⟨l2, e1, e2⟩ := Option.map_eq_some_iff.mp hg
    have e3 : r' = r := congrArg Prod.fst e2
    subst e3
    exact h2 (fun _ _ _ _ => True) L R hd fun v σ' F' H' fr fp' L' g R' ow nd' of' => back L' g R' e1 ow nd' of' e2 q
  · next E' hd =>
    obtain ⟨l2, e1, e2⟩ := Option.map_eq_some_iff.mp hg
    have e3 : S.dat .none = r := congrArg Prod.fst e2
    subst e3
    exact h2 (fun _ _ _ _ => True) L R hd fun σ' F' H' fp' L' g R' => back (v := .non) (fr := []) L' (by simpa using g) R' e1 (.dat .non) (by simpa using R'.nd) (fun _ z => nomatch z) e2 q
  · cases hg
/-- a def whose code object is known -/
structure FunC (K : PySem.W.Frag) (x qual : Str) (st : Stmt) (f : Addr) (fd : FuncData) (cA : Addr) : Prop where
  ex : ∃ (oc : Value) (od : Option Addr) (kV doc pm : Value) (an : Option Addr) (ct : Value) (osl : Array (Option Value)),
    fd = PySem.W.fnOf x qual (defArgs st) (defBody st) (defScope st) .none kV doc pm an (.ref cA) ct ∧ K.lookup f = some ⟨oc, od, .func fd, osl⟩ ∧ PySem.W.codeIn K (.ref cA) qual = true
theorem fn_mvGC {x qual : Str} {st : Stmt} {f cA : Addr} {fd : FuncData} {N ps : List Str} {k : Nat} {dd : En → Option Out} (ws : List V) (Fn : FunC K x qual st f fd cA) (Sc : FnScope N ps (defScope st))
    (body : ∀ (A : Around) (outer : List Env) (s : Shared) (H : Hp) (E : XK) (vs : List V), vs.length = ps.length → Room k (A.deeper (envOfC qual (defScope st) s.heap.objs.size f (.ref cA))) →
      ∃ t, PSs (cxOf CX0 P w K mg base N qual (defScope st) f (.ref cA) A outer s H E).nox (defBody st) t ∧ ∀ W, EvS K N.length (vs.map some ++ ws.map some) W t dd) :
    FnOk P w K mg base CX0 (k + 1) f fd ps (spG ws K ps.length (fnGG N.length dd)) := by
  have hps : ps.length ≤ N.length := by have := congrArg List.length Sc.pre; rw [List.length_take] at this; omega
  obtain ⟨oc, od, kV, doc, pm, an, ct, osl, rfl, lk, hcd⟩ := Fn.ex
  refine fn_of lk hcd Sc (fun vs H Q E h => h.1) fun A outer s H vs Q E hr h => ?_
  obtain ⟨t, h1, h2⟩ := body A outer s H E vs h.1 hr
  exact ⟨t, h1.nox, mvG_core hps h h2⟩
end
end
end Mv
set_option maxHeartbeats 2000000
namespace EndL
open PySem PySem.Spec PyProof.Rows L2 LamX
/-- the table of the def at f is empty -/
def TabE (K : PySem.W.Frag) (f : Addr) (h : Heap) : Prop := ∀ (c P : Addr) (o : Obj) (fd : FuncData) (e : Value) (dd : Option Addr) (vs : Array Value) (sl : Array (Option Value)), K.lookup f = some o → o.data = .func fd → fd.code = .ref c → K.lookup c = some ⟨e, dd, .fields vs, sl⟩ → vs[11]? = some (.ref P) →
  h.get? P = some { cls := .none, data := .fields #[] }
theorem walk_ofTab {l : PySem.W.OpenLaw} {n k : Nat} {q : Program} {loose : List Str} {XP : (Str → Option Value) → Heap → Prop} {YP : World → Heap → Prop} {d : DefRec} {K : Params → PySem.W.Frag} {CX : World → CXT} {x : Str}
    (hn : l.most = some n) (hn2 : n ≤ sizeLine) (hdf : d.params.defaults = []) (hr : Room k callerA) (hY : ∀ (w : World) (h : Heap), YP w h → (K w.params).In h)
    (F : ∀ (w : World) (mg : Str → Option Value) (fa : Addr) (h : Heap), (K w.params).In h → h.Ns mainGlobals mg → mg d.name = some (.ref fa) → (∀ y : Str, ((recsOf q).any fun e => e.name == y) = true → ∀ f, mg y = some (.ref f) → TabE (K w.params) f h) → LawAtS l w (K w.params) (CX w) k n x mg fa h)
    (hCX : ∀ (w : World) (H : Hp) (s : Shared) (e : Value) (s' : Shared), CX w [] H s (fun _ _ _ => False) e s' → False) :
    PySem.W.WalkO q loose XP YP l.row.toRowW d [] (fun f vs => PySem.call f vs) := by
  refine Att.attach_callB hn hdf fun w s₀ s₁ mg mb fa o pm cd doc a vs ns G Y ho hd hcd hmg hobj hints hlen hbits hg => ?_
  have KX := hY w _ Y
  have own : ∀ y : Str, ((recsOf q).any fun e => e.name == y) = true → ∀ f, mg y = some (.ref f) → TabE (K w.params) f s₁.heap := fun y hrec f hf c P o1 fd1 e dd vs1 sl k1 k2 k3 k4 k5 => by
    obtain ⟨dL, hm, hn1⟩ := List.any_eq_true.mp hrec
    have hn2 : dL.name = y := beq_iff_eq.mp hn1
    obtain ⟨a', o', fd', c', P', h1, h2, h3, h4, h5, h6⟩ := G.T.tab dL hm
    rw [hn2, hf] at h1
    cases h1
    have g1 := KX _ _ k1
    rw [g1] at h2
    cases h2
    rw [k2] at h3
    cases h3
    rw [k3] at h4
    cases h4
    obtain ⟨⟨oc, vc, e1, _, e3, e4⟩, hP⟩ := h6
    have g2 := KX _ _ k4
    rw [g2] at e1
    cases e1
    cases e3
    rw [k5] at e4
    cases e4
    exact hP
  obtain ⟨fd, cs, sp, hT, nT, C, hb, hsp, hF⟩ := F w mg fa _ KX G.T.g hmg own
  exact law_callTs KX G.T.g G.T.b G.T.builtins G.T.nolimit hg hT nT C G.T.bmain hobj hints (Nat.le_trans hlen hn2) hr hF hb (fun H hH hS => hsp H a ns hlen hbits hH hS) fun H e s' => hCX w H s₁ e s'
end EndL
namespace Mv
open PySem PySem.Spec PyProof.Rows L2 LamX CLX
/-- the script and the tables, as values -/
theorem start_law {K : PySem.W.Frag} {H : Hp} {a : Addr} {ns : List Int} (hS : SqL K H a (ns.map V.int)) (tabs : List (Addr × Str)) (nd : (tabs.map (·.1)).Nodup) (hT : ∀ p ∈ tabs, H p.1 = some (.tbl #[])) :
    ∃ F : Hp, (∀ b o, F b = some o → H b = some o) ∧ OwnL K F H [.ref a] [.dat (.list (ns.map .int))] [] ∧ OwnL K F H (tabs.map fun p => .ref p.1) (tabs.map fun p => .ext (tabX p.1 p.2)) (tabs.map (·.1)) ∧ (∀ b ∈ tabs.map (·.1), F b = none) := by
  let F : Hp := fun b => if b = a ∧ b ∉ tabs.map (·.1) then H b else none
  have sub : ∀ b o, F b = some o → H b = some o := fun b o e => by
    by_cases hb : b = a ∧ b ∉ tabs.map (·.1)
    · rw [← show F b = H b from if_pos hb]; exact e
    · rw [show F b = none from if_neg hb] at e; cases e
  have off : ∀ b ∈ tabs.map (·.1), F b = none := fun b m => if_neg fun z => z.2 m
  have hF : SqL K F a (ns.map V.int) := hS.imp (fun rd => by
    have na : a ∉ tabs.map (·.1) := fun m => by
      obtain ⟨p, hp, e⟩ := List.mem_map.mp m
      have := hT p hp
      rw [e] at this
      rcases rd with z | ⟨o, z⟩
      · rw [this] at z; cases z
      · rw [this] at z; cases z
    have fa : F a = H a := if_pos ⟨rfl, na⟩
    rcases rd with z | ⟨o, z⟩
    · exact .inl (fa.trans z)
    · exact .inr ⟨o, fa.trans z⟩) id
  have hd : ∀ (ns : List Int), DqAll K F (ns.map V.int) (ns.map PyData.int) := by
    intro ns
    induction ns with
    | nil => exact .nil
    | cons i r ih => exact .cons (.int i) ih
  refine ⟨F, sub, .cons (fp := []) (.dat (.lst hF (hd ns))) .nil, ?_, off⟩
  have : ∀ ts : List (Addr × Str), (∀ p ∈ ts, H p.1 = some (.tbl #[])) → OwnL K F H (ts.map fun p => .ref p.1) (ts.map fun p => .ext (tabX p.1 p.2)) (ts.map (·.1)) := by
    intro ts h
    induction ts with
    | nil => exact .nil
    | cons p r ih => exact .cons (fp := [p.1]) (.ext ⟨rfl, rfl, #[], h p (by simp), trivial, fun pos cv e => by cases e⟩) (ih fun q m => h q (List.mem_cons_of_mem _ m))
  exact this tabs hT
/-- a law that needs tables: from its worth to what its end asks -/
theorem law_spG {K : PySem.W.Frag} {H : Hp} {a : Addr} {ns : List Int} {E : XK} {tabs : List (Addr × Str)} {g : List S → List S → Option (S × List S × List S)} {ss tts : List S} (hS : SqL K H a (ns.map V.int)) (nd : (tabs.map (·.1)).Nodup) (hT : ∀ p ∈ tabs, H p.1 = some (.tbl #[]))
    (hg : g [.dat (.list (ns.map .int))] (tabs.map fun p => .ext (tabX p.1 p.2)) = some (.dat (.bool true), ss, tts)) : spG (tabs.map fun p => .ref p.1) K 1 g [.ref a] H (fun v _ => v = .bl true) E := by
  obtain ⟨F, sub, l1, l2, off⟩ := start_law hS tabs nd hT
  refine ⟨rfl, F, _, _, [], tabs.map (·.1), .dat (.bool true), ss, tts, sub, l1, l2, by simpa using nd, by simpa using off, hg, fun v F' H' fr fp' fq' g o1 o2 ov nd of => ?_⟩
  have := (Own.dat_inv ov rfl).1
  cases this
  rfl
end Mv
set_option maxHeartbeats 4000000
namespace K19
open PySem PySem.Spec PyProof.Rows L2 Mv
def topS (i : Nat) : Stmt := PySem.Challenge.pw_drainhouse_k19_editions_written.main.body.getD i (.Pass ⟨0, 0, 0, 0⟩)
abbrev s_is_within : Stmt := topS 18
theorem sc_is_within : FnScope ["value", "least", "most"] ["value", "least", "most"] (defScope s_is_within) := ⟨rfl, rfl, rfl, by decide +kernel, rfl, by decide +kernel, by decide +kernel⟩
abbrev s_is_house : Stmt := topS 19
theorem sc_is_house : FnScope ["value"] ["value"] (defScope s_is_house) := ⟨rfl, rfl, rfl, by decide +kernel, rfl, by decide +kernel, by decide +kernel⟩
abbrev s_is_owners : Stmt := topS 20
theorem sc_is_owners : FnScope ["value", "owner"] ["value"] (defScope s_is_owners) := ⟨rfl, rfl, rfl, by decide +kernel, rfl, by decide +kernel, by decide +kernel⟩
abbrev s_is_edition : Stmt := topS 21
theorem sc_is_edition : FnScope ["value", "number", "make", "owners"] ["value"] (defScope s_is_edition) := ⟨rfl, rfl, rfl, by decide +kernel, rfl, by decide +kernel, by decide +kernel⟩
abbrev s_check_edition : Stmt := topS 22
theorem sc_check_edition : FnScope ["edition"] ["edition"] (defScope s_check_edition) := ⟨rfl, rfl, rfl, by decide +kernel, rfl, by decide +kernel, by decide +kernel⟩
abbrev s_is_plain : Stmt := topS 25
theorem sc_is_plain : FnScope ["word"] ["word"] (defScope s_is_plain) := ⟨rfl, rfl, rfl, by decide +kernel, rfl, by decide +kernel, by decide +kernel⟩
abbrev s_written : Stmt := topS 31
theorem sc_written : FnScope ["edition", "number", "make", "owners", "words", "word"] ["edition"] (defScope s_written) := ⟨rfl, rfl, rfl, by decide +kernel, rfl, by decide +kernel, by decide +kernel⟩
abbrev s_read : Stmt := topS 32
theorem sc_read : FnScope ["text", "words", "place", "number", "make", "owners", "edition", "word"] ["text"] (defScope s_read) := ⟨rfl, rfl, rfl, by decide +kernel, rfl, by decide +kernel, by decide +kernel⟩
abbrev s_can_stand : Stmt := topS 33
theorem sc_can_stand : FnScope ["word", "place"] ["word", "place"] (defScope s_can_stand) := ⟨rfl, rfl, rfl, by decide +kernel, rfl, by decide +kernel, by decide +kernel⟩
abbrev s__law_begun : Stmt := topS 35
theorem sc__law_begun : FnScope ["_law_script", "_law_stirred", "_law_cell"] ["_law_script"] (defScope s__law_begun) := ⟨rfl, rfl, rfl, by decide +kernel, rfl, by decide +kernel, by decide +kernel⟩
abbrev s__law_take : Stmt := topS 36
theorem sc__law_take : FnScope ["_law_box", "_law_many", "_law_number"] ["_law_box", "_law_many"] (defScope s__law_take) := ⟨rfl, rfl, rfl, by decide +kernel, rfl, by decide +kernel, by decide +kernel⟩
abbrev s__law_alike : Stmt := topS 37
theorem sc__law_alike : FnScope ["_law_found", "_law_due", "_law_k"] ["_law_found", "_law_due"] (defScope s__law_alike) := ⟨rfl, rfl, rfl, by decide +kernel, rfl, by decide +kernel, by decide +kernel⟩
structure Txt (K : PySem.W.Frag) (mg : Str → Option Value) where
  n_all : mg "all" = none
  n_bool : mg "bool" = none
  n_int : mg "int" = none
  n_isinstance : mg "isinstance" = none
  n_len : mg "len" = none
  n_list : mg "list" = none
  n_range : mg "range" = none
  n_str : mg "str" = none
  n_tuple : mg "tuple" = none
  t_SLOTS : Tok
  c_SLOTS : mg "SLOTS" = some (.int (12) t_SLOTS)
  t_LAST_NAME : Tok
  c_LAST_NAME : mg "LAST_NAME" = some (.int (19) t_LAST_NAME)
  t_LAST_NUMBER : Tok
  c_LAST_NUMBER : mg "LAST_NUMBER" = some (.int (1000000) t_LAST_NUMBER)
  t_MOST_FIGURES : Tok
  c_MOST_FIGURES : mg "MOST_FIGURES" = some (.int (7) t_MOST_FIGURES)
  t_NO_MAKE : Tok
  c_NO_MAKE : mg "NO_MAKE" = some (.str ("-") t_NO_MAKE)
  t_MAKE_PLACE : Tok
  c_MAKE_PLACE : mg "MAKE_PLACE" = some (.int (1) t_MAKE_PLACE)
  t_FIRST_OWNER : Tok
  c_FIRST_OWNER : mg "FIRST_OWNER" = some (.int (2) t_FIRST_OWNER)
  t_WORDS : Tok
  c_WORDS : mg "WORDS" = some (.int (14) t_WORDS)
  a_is_within : Addr
  d_is_within : FuncData
  F_is_within : Fun K "is_within" "is_within" s_is_within a_is_within d_is_within
  b_is_within : Binds K d_is_within ["value", "least", "most"] []
  m_is_within : mg "is_within" = some (.ref a_is_within)
  a_is_house : Addr
  d_is_house : FuncData
  F_is_house : Fun K "is_house" "is_house" s_is_house a_is_house d_is_house
  b_is_house : Binds K d_is_house ["value"] []
  m_is_house : mg "is_house" = some (.ref a_is_house)
  a_is_owners : Addr
  d_is_owners : FuncData
  F_is_owners : Fun K "is_owners" "is_owners" s_is_owners a_is_owners d_is_owners
  b_is_owners : Binds K d_is_owners ["value"] []
  m_is_owners : mg "is_owners" = some (.ref a_is_owners)
  a_is_edition : Addr
  d_is_edition : FuncData
  F_is_edition : Fun K "is_edition" "is_edition" s_is_edition a_is_edition d_is_edition
  b_is_edition : Binds K d_is_edition ["value"] []
  m_is_edition : mg "is_edition" = some (.ref a_is_edition)
  a_check_edition : Addr
  d_check_edition : FuncData
  F_check_edition : Fun K "check_edition" "check_edition" s_check_edition a_check_edition d_check_edition
  b_check_edition : Binds K d_check_edition ["edition"] []
  m_check_edition : mg "check_edition" = some (.ref a_check_edition)
  a_is_plain : Addr
  d_is_plain : FuncData
  F_is_plain : Fun K "is_plain" "is_plain" s_is_plain a_is_plain d_is_plain
  b_is_plain : Binds K d_is_plain ["word"] []
  m_is_plain : mg "is_plain" = some (.ref a_is_plain)
  a_written : Addr
  d_written : FuncData
  F_written : Fun K "written" "written" s_written a_written d_written
  b_written : Binds K d_written ["edition"] []
  m_written : mg "written" = some (.ref a_written)
  a_read : Addr
  d_read : FuncData
  F_read : Fun K "read" "read" s_read a_read d_read
  b_read : Binds K d_read ["text"] []
  m_read : mg "read" = some (.ref a_read)
  a_can_stand : Addr
  d_can_stand : FuncData
  F_can_stand : Fun K "can_stand" "can_stand" s_can_stand a_can_stand d_can_stand
  b_can_stand : Binds K d_can_stand ["word", "place"] []
  m_can_stand : mg "can_stand" = some (.ref a_can_stand)
  a__law_begun : Addr
  d__law_begun : FuncData
  F__law_begun : Fun K "_law_begun" "_law_begun" s__law_begun a__law_begun d__law_begun
  b__law_begun : Binds K d__law_begun ["_law_script"] []
  m__law_begun : mg "_law_begun" = some (.ref a__law_begun)
  a__law_take : Addr
  d__law_take : FuncData
  F__law_take : Fun K "_law_take" "_law_take" s__law_take a__law_take d__law_take
  b__law_take : Binds K d__law_take ["_law_box", "_law_many"] []
  m__law_take : mg "_law_take" = some (.ref a__law_take)
  a__law_alike : Addr
  d__law_alike : FuncData
  F__law_alike : Fun K "_law_alike" "_law_alike" s__law_alike a__law_alike d__law_alike
  b__law_alike : Binds K d__law_alike ["_law_found", "_law_due"] []
  m__law_alike : mg "_law_alike" = some (.ref a__law_alike)
end K19
set_option maxHeartbeats 4000000
namespace NX
open PySem PySem.Spec PyProof.Rows L2
def eqb (b : Bool) : Value → Bool | .bool c => c == b | _ => false
theorem eqb_count {b : Bool} : ∀ {us : List Value} {bs : List Bool}, Vals (bs.map V.bl) us → us.countP (eqb b) = bs.count b
  | _, [], .nil => rfl
  | _, c :: bs, .cons r t => by
    obtain rfl := r
    rw [List.countP_cons, List.count_cons, eqb_count t] <;> rfl
theorem eqb_gives {A : Around} {s : Shared} {b : Bool} {us : List Value} {bs : List Bool} (r : Vals (bs.map V.bl) us) : ∀ y ∈ us, SeqAt.EqAt A s y (.bool b) (eqb b y) := by
  induction bs generalizing us with
  | nil => cases r; intro y m; cases m
  | cons c bs ih => cases r with
    | cons r t =>
      obtain rfl := r
      intro y m
      rcases List.mem_cons.mp m with rfl | m
      · exact SeqAt.EqAt.bool_bool c b
      · exact ih t y m
section
variable {X : Cx}
def rCntB (K : PySem.W.Frag) : V → List V → Hp → VK → Prop := fun x xs H Q => ∃ (p : Addr) (bs : List Bool) (b : Bool), x = .ref p ∧ xs = [.bl b] ∧ SqL K H p (bs.map V.bl) ∧ Q (.int (bs.count b : Nat)) H
theorem mt_lcountB : MtR X "list.count" (rCntB X.K) := by
  intro pins s σ H x xs v us Q I rx rxs h
  obtain ⟨p, bs, b, rfl, rfl, hs, q⟩ := h
  cases rx
  obtain ⟨u, rfl, ru⟩ := rxs.one
  obtain rfl := ru
  obtain ⟨its, rv, ⟨⟨cls, dd, data, sl⟩, n, ho, hc, hdn, hd⟩, hlen⟩ := I.list hs
  simp only at hc hd
  subst hc hd
  refine call_meets PySem.F.slot_list_count ⟨_, ho, rfl⟩ PySem.F.entry_list_count (PySem.F.args_list_count_2 _ _)
    (SeqAt.list_countAt p its.toArray n dd sl (.bool b) (eqb b)) ⟨ho, fun y hy => eqb_gives rv y (by simpa using hy), ?_⟩
  refine ⟨.int (bs.count b : Nat), H, I.tok _, ⟨s.toks, ?_⟩, q⟩
  show Value.int ((its.toArray.toList.countP (eqb b) : Nat) : Int) s.toks = Value.int ((bs.count b : Nat) : Int) s.toks
  rw [show its.toArray.toList.countP (eqb b) = bs.count b from eqb_count rv]
end
end NX
set_option maxHeartbeats 4000000
namespace CLX
open PySem PySem.Spec PyProof.Rows L2 LamX
abbrev SpP := Addr × Obj → Sp
/-- what such a def promises of the pinned object p -/
structure FnW (P : Program) (w : World) (K : PySem.W.Frag) (mg : Str → Option Value) (base : Heap) (CX : CXT) (k : Nat) (f : Addr) (fd : FuncData) (ps : List Str) (sp : SpP) : Prop where
  len : ∀ p vs H Q E, sp p vs H Q E → vs.length = ps.length
  run : ∀ (A : Around) (outer : List Env) (s : Shared) (H : Hp) (args : Args) (us : List Value) (vs : List V) (Q : VK) (E : XK) (p : Addr × Obj), L2H.RoomH k A → L2H.PinOk outer H s p → Env0 P w K mg base A outer s H → BindsTo s fd args (ps.zip us) → Vals vs us → sp p vs H Q E →
    codeAny (model P w) A (.call (.ref f) args) (CR CX outer P w H s Q E) s
theorem fn_ofW {CX : CXT} {P : Program} {w : World} {K : PySem.W.Frag} {mg : Str → Option Value} {base : Heap} {k : Nat} {f : Addr} {name qual : Str} {params : Arguments} {body : List Stmt} {scope : Scope} {dV kV doc pm cdv ct oc : Value} {an od : Option Addr}
    {osl : Array (Option Value)} {N ps : List Str} {sp : SpP} (lk : K.lookup f = some ⟨oc, od, .func (PySem.W.fnOf name qual params body scope dV kV doc pm an cdv ct), osl⟩) (hcd : PySem.W.codeIn K cdv qual = true) (S : FnScope N ps scope)
    (len : ∀ p vs H Q E, sp p vs H Q E → vs.length = ps.length)
    (hbody : ∀ (A : Around) (outer : List Env) (s : Shared) (H : Hp) (vs : List V) (Q : VK) (E : XK) (p : Addr × Obj), L2H.RoomH k (A.deeper (envOfC qual scope s.heap.objs.size f cdv)) → sp p vs H Q E →
      ∃ t, PSs (L2H.cxH CX P w K mg base N qual scope f cdv A outer s H E p) body t ∧ t { nx := fun _ H' => Q .non H', rt := Q } (L2.start N vs) H) :
    FnW P w K mg base CX (k + 1) f (PySem.W.fnOf name qual params body scope dV kV doc pm an cdv ct) ps sp := by
  refine ⟨len, fun A outer s H args us vs Q E p hr hpin e0 hb r hsp => ?_⟩
  have hl := len _ _ _ _ _ hsp
  have KX : K.In s.heap := e0.mod.kin.keeps fun b o e => (e0.bs b o e).1
  have hkind : ∀ y ∈ ps.zip us, scope.names.lookup y.1 = some .local ∨ (scope.names.lookup y.1 = some .cell ∧ ((cellsFrom (s.heap.objs.size + 1) scope.names []).lookup y.1).isSome = true) := fun ⟨n, v⟩ hy => by
    rcases S.par n (List.of_mem_zip hy).1 with q | q
    · exact .inl q
    · exact .inr ⟨q, PySem.W.cellsFrom_some _ _ _ (.inl q)⟩
  refine codeAny_call_function hr.depth (KX _ _ lk) rfl S.co S.gen rfl (PySem.W.codeRec_of KX hcd) (hb _ _ _ _ ?_)
  refine wpAny_newFunctionEnv_cells S.kind hkind fun env he s1 x => ?_
  subst he
  refine ⟨(e0.mod.nolimit.keeps fun b o e => (e0.bs b o e).1).keeps x.toInCall.keep, codeAny_func ?_⟩
  obtain ⟨t, ht, hq⟩ := hbody A outer s H vs Q E p (hr.deeper _) hsp
  have I := L2H.inv_startH (CX := CX) (E := E) S hpin e0 hl r x
  refine wpAny_mono (ht.run [] s1 (L2.start N vs) H _ I hq) (fun fl s' hs => ?_) fun e s' hs => hs
  cases fl with
  | ret u =>
    obtain ⟨v, σ', H', J, rv, q⟩ := hs
    exact ⟨v, H', J.os, J.bare, J.base, J.hok, rv, q⟩
  | next =>
    obtain ⟨σ', H', J, q⟩ := hs
    exact ⟨.non, H', J.os, J.bare, J.base, J.hok, rfl, q⟩
  | brk => exact (hs.elim fun _ h => h.elim fun _ h => h.2.elim)
  | cont => exact (hs.elim fun _ h => h.elim fun _ h => h.2.elim)
section
variable {X : Cx} {CX : CXT} {k : Nat} {f : Addr} {fd : FuncData} {ps : List Str} {sp : SpP} {E : XK} {x : Str} {q pos : Pos} {e : Expr} {es : List Expr} {t : TA} {p : Addr × Obj}
theorem pe_callW (F : FnW X.prog X.w X.K X.mg X.base CX k f fd ps sp) (hr : L2H.RoomH k X.A) (hp : p ∈ X.pn) (hg : Gl X x) (hm : X.mg x = some (.ref f)) (hk : PySem.W.keepIn X.K (.ref f) = true) (hb : Binds X.K fd ps []) (hx : Passes CX X E)
    (ha : PA X (e :: es) t) (hdb : (x == ("__debug__" : Str)) = false := by decide) (he : starEach (e :: es) X.env = (false, eval e X.env) :: starEach es X.env := by rfl) (hpl : (backTo pos (starEach es X.env)).any (·.1) = false := by rfl) :
    PE X (.Call (.Name x q) (e :: es) [] pos) (fun σ H Q => t σ H fun vs H1 => sp p vs H1 Q E) := by
  refine ⟨fun pins s σ H Q I h => ?_⟩
  refine wpAny_Call_Name_kw (ld_glob I hg hm ?_ hdb)
  refine PySem.W.callWith_K (h₀ := X.base) I.ok.mod.kin hk (thn (ha.run pos pins s σ H _ I h) fun us s1 ⟨vs, H1, I1, r, q⟩ => ⟨I1.kIn, ?_⟩) he hpl
  have hl : us.length = ps.length := by rw [← r.length]; exact F.len _ _ _ _ _ q
  have b := hb s1 us I1.kIn (by rw [List.append_nil]; exact hl)
  rw [List.append_nil] at b
  have P1 := I1.pin p (List.mem_append_left _ hp)
  have hpin : L2H.PinOk X.stack H1 s1 p := ⟨P1.1, P1.2.1, fun hm => (List.mem_cons.mp (I1.stkSub p.1 hm)).elim P1.2.2.1 P1.2.2.2.1, P1.2.2.2.2⟩
  refine wpAny_call (codeAny_mono (F.run X.A X.stack s1 H1 ⟨us, []⟩ us vs Q E p hr hpin I1.env0 b r q) fun r s' hq => ?_)
  cases r with
  | error e => exact hx pins σ H1 s1 e s' I1 hq
  | ok fl =>
    cases fl with
    | ret u => exact I1.after hq
    | next => exact False.elim hq
    | brk => exact False.elim hq
    | cont => exact False.elim hq
/-- isinstance(e, c), e a pinned exception of the class D -/
theorem call_isP {a D : Addr} {oe : Obj} (C : ExcC X.K D) (hp : (a, oe) ∈ X.pn) (hz : Zc (.ref D) none oe) (hf : ∃ vs, oe.data = .fields vs) : CallR X (.builtin "isinstance") (rIsE X.K D a) := by
  intro pins s σ H xs us Q I r h
  obtain ⟨c, cv, b, rfl, hcv, e, q⟩ := h
  obtain ⟨u1, rx, r⟩ : ∃ u1 us', RelV (V.ref a) u1 ∧ us = u1 :: us' ∧ Vals [c] us' := by
    cases r with
    | cons rx rr => exact ⟨_, _, rx, rfl, rr⟩
  obtain ⟨rx, rfl, rr⟩ := r
  obtain ⟨u2, rfl, rt⟩ := vals1 rr
  obtain rfl : u1 = Value.ref a := rx
  have ec := hcv _ rt
  subst ec
  obtain ⟨hget, _⟩ := I.pin (a, oe) (List.mem_append.mpr (.inl hp))
  obtain ⟨vs, hv⟩ := hf
  have J : PySem.W.InstAt s.heap a oe D none := by
    obtain ⟨oc, od, oda, osl⟩ := oe
    obtain ⟨h1, h2⟩ := hz
    dsimp only at h1 h2 hv
    subst h1 h2 hv
    exact ⟨hget, rfl, rfl, trivial⟩
  exact PySem.W.kia_one (PySem.W.handS_kitx_exc C.hg C.hk C.hs C.hd C.ha C.hn C.ht C.hm) I.kIn J e (fun z => nomatch z) fun tk => ⟨.bl b, H, I.kept (t' := tk) fun _ _ z => z, rfl, q⟩
end
end CLX
set_option maxHeartbeats 4000000
namespace Mv
open PySem PySem.Spec PyProof.Rows L2 NX CLX
section
variable {K : PySem.W.Frag} {F F' F1 F2 H H' H1 H2 : Hp} {v u x y : V} {vs ws us : List V} {s t : S} {ss tts : List S} {n : Nat} {as : Ro} {E E' : En} {fp fq : List Addr}
def oIndexB : S → S → Option (S × S)
  | .lst ss, .dat (.bool i) => match datsS ss with
    | some ds => match boolsD ds with
      | some ns => if i ∈ ns ∧ ss.length < 100000 then some (.lst ss, .dat (.int (ns.idxOf i : Nat))) else none
      | none => none
    | none => none
  | _, _ => none
theorem idxb_at {i : Bool} : ∀ {ns : List Bool}, i ∈ ns → ns[ns.idxOf i]? = some i ∧ ∀ m z, m < ns.idxOf i → ns[m]? = some z → z ≠ i := by
  intro ns m
  have h1 : ns.idxOf i < ns.length := List.idxOf_lt_length_iff.mpr m
  refine ⟨by rw [List.getElem?_eq_getElem h1, List.getElem_idxOf], fun j z hj hz e => ?_⟩
  subst e
  have hj2 := (List.getElem?_eq_some_iff.mp hz).1
  have := List.not_of_lt_findIdx (xs := ns) (p := fun x => x == z) (i := j) (by unfold List.idxOf at hj; exact hj)
  rw [(List.getElem?_eq_some_iff.mp hz).2] at this
  simp at this
theorem boolsD_vals : ∀ {ds : List PyData} {xs : List V} {ns : List Bool}, DqAll K H xs ds → boolsD ds = some ns → xs = ns.map V.bl
  | [], _, _, .nil, e => by cases e; rfl
  | .bool i :: ds, _, _, .cons (.bl _) t, e => by
    simp only [boolsD] at e
    obtain ⟨r, hr, rfl⟩ := Option.map_eq_some_iff.mp e
    rw [boolsD_vals t hr]; rfl
  | .none :: _, _, _, _, e => by simp [boolsD] at e
  | .int _ :: _, _, _, _, e => by simp [boolsD] at e
  | .str _ :: _, _, _, _, e => by simp [boolsD] at e
  | .list _ :: _, _, _, _, e => by simp [boolsD] at e
  | .tuple _ :: _, _, _, _, e => by simp [boolsD] at e
theorem nd_indexB : Nd1 K (fun u y H Q => rIndex K u [y] H Q) oIndexB := by
  intro F H u y t s t' c fp1 fr sub ot os nd of e Q q
  unfold oIndexB at e
  split at e
  · next ss i =>
    split at e
    · next ds hds =>
      split at e
      · next ns hns =>
        split at e
        · next hi =>
          cases e
          obtain ⟨hd, rfl⟩ := os.dat_inv rfl
          cases hd
          obtain ⟨a, vs, rfl, hH, da⟩ := ot.sqL sub (show (S.lst ss).seqL = some ds from hds)
          have hv := boolsD_vals da hns
          obtain ⟨g1, g2⟩ := idxb_at hi.1
          have fl : ∀ ns : List Bool, (ns.map V.bl).all flatV = true := fun ns => by
            rw [List.all_eq_true]
            intro z m
            obtain ⟨k, _, rfl⟩ := List.mem_map.mp m
            rfl
          refine ⟨a, vs, .bl i, ns.idxOf i, .bl i, rfl, rfl, hH, rfl, by rw [hv]; exact fl ns, by rw [hv, List.getElem?_map, g1]; rfl, ?_, fun m z' hm hz => ?_, ?_⟩
          · simp [eqV]
          · rw [hv, List.getElem?_map] at hz
            obtain ⟨z, hz1, rfl⟩ := Option.map_eq_some_iff.mp hz
            have := g2 m z hm hz1
            simp [eqV, this]
          · rw [List.nil_append] at nd of
            refine q _ F H [] fp1 (by rw [List.nil_append]; exact .refl sub fp1) ot (.dat (.int _)) (by rw [List.nil_append]; exact nd) (by rw [List.nil_append]; exact of)
        · cases e
      · cases e
    · cases e
  · cases e
def oCntB : S → S → Option (S × S)
  | .lst ss, .dat (.bool i) => match datsS ss with
    | some ds => match boolsD ds with
      | some ns => some (.lst ss, .dat (.int (ns.count i : Nat)))
      | none => none
    | none => none
  | _, _ => none
theorem nd_cntB : Nd1 K (fun u y H Q => rCntB K u [y] H Q) oCntB := by
  intro F H u y t s t' c fp1 fr sub ot os nd of e Q q
  unfold oCntB at e
  split at e
  · next ss i =>
    split at e
    · next ds hds =>
      split at e
      · next ns hns =>
        cases e
        obtain ⟨hd, rfl⟩ := os.dat_inv rfl
        cases hd
        obtain ⟨a, vs, rfl, hH, da⟩ := ot.sqL sub (show (S.lst ss).seqL = some ds from hds)
        have hv := boolsD_vals da hns
        refine ⟨a, ns, i, rfl, rfl, by rw [← hv]; exact hH, ?_⟩
        rw [List.nil_append] at nd of
        exact q _ F H [] fp1 (by rw [List.nil_append]; exact .refl sub fp1) ot (.dat (.int _)) (by rw [List.nil_append]; exact nd) (by rw [List.nil_append]; exact of)
      · cases e
    · cases e
  · cases e
/-- isinstance(e, C), e the exception at a, of the class D: known of the two classes -/
def dIsE (i : Nat) (a : Addr) (b : Bool) (E : En) : Option Rs := match E[i]? with
  | some (.own (.con (.ref a'))) => if a' = a then some (.val (.dat (.bool b))) else none
  | _ => none
theorem dIsE_go {i : Nat} {a : Addr} {b : Bool} (h : E[i]? = some (.own (.con (.ref a)))) : dIsE i a b E = some (.val (.dat (.bool b))) := by
  unfold dIsE
  rw [h]
  exact if_pos rfl
theorem p_isE {i : Nat} {a D : Addr} {c : V} {cv : Value} {b : Bool} (hi : i < n) (hc : ∀ u, RelV c u → u = cv) (hk : PySem.W.kitOne K (.ref D) cv = some b) :
    EvP K n as (tCB (rIsE K D a) (tCons (tVar i) (tCons (tC c) tNil))) (dIsE i a b) := by
  intro F H σ E fp L R r e Q q
  unfold dIsE at e
  split at e
  · next a' ee =>
    split at e
    · next ha =>
      subst ha
      cases e
      have hv : dVar i E = some (.val (.con (.ref a'))) := by unfold dVar; rw [ee]
      refine p_var (K := K) (as := as) hi L R hv (fun v F1 H1 fr g1 a1 nd of => ?_)
      obtain ⟨rfl, rfl⟩ := Own.con_inv (show Own K F1 H1 v (.con (.ref a')) fr from a1) rfl
      exact ⟨c, cv, b, rfl, hc, hk, q _ F1 H1 [] g1 (.dat (.bl b)) List.nodup_nil fun _ m => nomatch m⟩
    · cases e
  · cases e
end
end Mv
set_option maxHeartbeats 4000000
namespace Gn
open PySem PySem.Spec PyProof.Rows L2 Mv
theorem canLay_ints : ∀ (ns : List Int), PyData.canLayAll0 (ns.map PyData.int) = true
  | [] => rfl
  | a :: r => by simp [PyData.canLayAll0, PyData.canLay0, canLay_ints r]
theorem depth_ints : ∀ (ns : List Int), PyData.depthAll (ns.map PyData.int) = 0
  | [] => rfl
  | a :: r => by simp [PyData.depthAll, PyData.depth, depth_ints r]
theorem shaped_list (ns : List Int) : SeqAt.shaped (.list (ns.map PyData.int)) = true := by
  unfold SeqAt.shaped
  simp [PyData.canLay0, canLay_ints, PyData.depth, depth_ints]
theorem eqD_self (ns : List Int) : fEqD (.list (ns.map PyData.int)) (.list (ns.map PyData.int)) = some (.bool true) := by
  unfold fEqD
  rw [if_pos ⟨shaped_list ns, shaped_list ns⟩, SeqAt.eqv_refl _ (by simp [PyData.canLay0, canLay_ints])]
theorem lI_toD (ns : List Int) : (lI ns).toD = some (.list (ns.map .int)) := by
  show (S.toDs _).map PyData.list = _
  have : (ns.map fun i => S.dat (.int i)) = (ns.map PyData.int).map S.dat := by simp
  rw [this, toDs_dats]; rfl
theorem dCB_go {E : En} {f : List PyData → Option PyData} {dr : En → Option (List Rs)} {rs : List Rs} {ds : List PyData} {c : PyData} (h : dr E = some rs) (h2 : fulls E rs = some ds) (h3 : f ds = some c) : dCB f dr E = some (.val (.dat c)) := by
  unfold dCB; rw [h]; simp only [h2, h3]; rfl
theorem dOp_go {E : En} {f : PyData → PyData → Option PyData} {da db : En → Option Rs} {a b : Rs} {x y c : PyData} (ha : da E = some a) (hb : db E = some b) (hx : a.full E = some x) (hy : b.full E = some y) (h : f x y = some c) : dOp f da db E = some (.val (.dat c)) := by
  unfold dOp; rw [ha, hb]; simp only [hx, hy, h]; rfl
theorem ixL_I {E : En} {da db : En → Option Rs} {ns : List Int} {k : Nat} {v : Int} {r : Rs} (ha : da E = some r) (hr : r.at E = some (lI ns)) (hb : db E = some (.val (.dat (.int (k : Int))))) (h : ns[k]? = some v) : dIxL da db E = some (.val (.dat (.int v))) := by
  unfold dIxL
  rw [ha, hb]
  have hk := (List.getElem?_eq_some_iff.mp h).1
  have e1 : ixN (ns.map fun i => S.dat (.int i)).length (k : Int) = some k := ixN_in (by simpa using hk)
  simp only [hr, lI, e1, List.getElem?_map, h, Option.map_some]
  cases r <;> rfl
/-- dicts with numbers as keys -/
def kN {α : Type} (f : α → PyData) (m : List (Int × α)) : List (Key × S) := m.map fun p => (.inl p.1, .dat (f p.2))
def dL {α : Type} (f : α → PyData) (m : List α) : S := .lst (m.map fun d => S.dat (f d))
def getK {α : Type} : List (Int × α) → Int → Option α
  | [], _ => none
  | p :: r, k => if p.1 = k then some p.2 else getK r k
def putN {α : Type} : List (Int × α) → Int → α → List (Int × α)
  | [], k, x => [(k, x)]
  | p :: r, k, x => if p.1 = k then (p.1, x) :: r else p :: putN r k x
def d__law_begun : En → Option Out := (dSeq (dAlias 1 (dC (.int 0)))
    (dSeq (dFor (iLst (dVar 0)) (bName 2) (dAlias 1 (dOp fMod (dOp fAdd (dOp fAdd (dOp fMul (dVar 1) (dC (.int 48271))) (dOp fMul (dVar 2) (dC (.int 69621)))) (dC (.int 11))) (dC (.int 2147483647)))))
    (dRet (ePure (dLst (dCons (dCS fList (dCons (dVar 0) dNil)) (dCons (dOp fMul (dVar 1) (dCB fInt (dCons (dOp fGt (dLen (dVar 0)) (dC (.int 2))) dNil))) dNil)))))))
def g__law_begun : List S → Option (S × List S) := fnG 3 d__law_begun
def d__law_take : En → Option Out := (dSeq (dIf (ePureT (dTest (dOp fEqD (dIxL (dVar 0) (dC (.int 0))) (dLst dNil)))) (dSeq (dLSet (dVar 0) (dC (.int 1)) (ePure (dOp fMod (dOp fMul (dIxL (dVar 0) (dC (.int 1))) (dC (.int 48271))) (dC (.int 2147483647)))))
    (dRet (ePure (dOp fMod (dOp fDiv (dIxL (dVar 0) (dC (.int 1))) (dC (.int 7))) (dVar 1))))) dNext)
    (dSeq (dAlias 2 (dIxL (dIxL (dVar 0) (dC (.int 0))) (dC (.int 0))))
    (dSeq (dLSet (dIxL (dVar 0) (dC (.int 0))) (dC (.int 0)) (ePure (dOp fDiv (dVar 2) (dVar 1))))
    (dSeq (dIf (ePureT (dOr (dTest (dOp fEqS (dIxL (dIxL (dVar 0) (dC (.int 0))) (dC (.int 0))) (dC (.int 0)))) (dTest (dOp fEqS (dIxL (dIxL (dVar 0) (dC (.int 0))) (dC (.int 0))) (dNeg (dC (.int 1))))))) (dDrop (eBM1 oPopAt (dIxL (dVar 0) (dC (.int 0))) (dC (.int 0)))) dNext)
    (dRet (ePure (dOp fMod (dVar 2) (dVar 1))))))))
def g__law_take : List S → Option (S × List S) := fnG 3 d__law_take
def bx (ns : List Int) (st : Int) : S := .lst [lI ns, .dat (.int st)]
theorem mulR {i j : Int} (h : -1000000 < j ∧ j < 1000000) : fMul (.int i) (.int j) = some (.int (i * j)) := by
  show (if (-(2 ^ 64) < i ∧ i < 2 ^ 64) ∨ (-(2 ^ 64) < j ∧ j < 2 ^ 64) then some (PyData.int (i * j)) else none) = _
  exact if_pos (.inr ⟨by omega, by omega⟩)
theorem modP {i j : Int} (h : 0 < j) : fMod (.int i) (.int j) = some (.int (i % j)) := if_pos h
theorem divP {i j : Int} (h : 0 < j) (h2 : j < 1073741824) : fDiv (.int i) (.int j) = some (.int (i / j)) := if_pos ⟨h, by omega⟩
def eBg (ns : List Int) (st : Int) (s2 : Sl) : En := [.own (.dat (.list (ns.map .int))), .own (.dat (.int st)), s2, .own (.dat (.list (ns.map .int)))]
theorem v_begun {ns : List Int} (hl : ns.length < 1000) : ∃ st, g__law_begun [.dat (.list (ns.map .int))] = some (bx ns st, [.dat (.list (ns.map .int))]) := by
  have hloop := loop_inv (rd := rdD (ns.map .int)) (bd := bName 2) (db := dAlias 1 (dOp fMod (dOp fAdd (dOp fAdd (dOp fMul (dVar 1) (dC (.int 48271))) (dOp fMul (dVar 2) (dC (.int 69621)))) (dC (.int 11))) (dC (.int 2147483647))))
    (fun i E => ∃ st s2, E = eBg ns st s2) ns.length
    (fun i E hi hJ => by
      obtain ⟨st, s2, rfl⟩ := hJ
      have hv : ns[i]? = some ns[i] := List.getElem?_eq_getElem _
      generalize ns[i] = x at hv
      let E1 : En := [.own (.dat (.list (ns.map .int))), .own (.dat (.int st)), .own (.dat (.int x)), .own (.dat (.list (ns.map .int)))]
      have a1 : dOp fMul (dVar 1) (dC (.int 48271)) E1 = some (.val (.dat (.int (st * 48271)))) := dOp_go rfl rfl rfl rfl (mulR (by omega))
      have a2 : dOp fMul (dVar 2) (dC (.int 69621)) E1 = some (.val (.dat (.int (x * 69621)))) := dOp_go rfl rfl rfl rfl (mulR (by omega))
      have a3 : dOp fMod (dOp fAdd (dOp fAdd (dOp fMul (dVar 1) (dC (.int 48271))) (dOp fMul (dVar 2) (dC (.int 69621)))) (dC (.int 11))) (dC (.int 2147483647)) E1 = some (.val (.dat (.int ((st * 48271 + x * 69621 + 11) % 2147483647)))) :=
        dOp_go (dOp_go (dOp_go a1 a2 rfl rfl rfl) rfl rfl rfl rfl) rfl rfl rfl (modP (by omega))
      refine ⟨_, E1, eBg ns ((st * 48271 + x * 69621 + 11) % 2147483647) (.own (.dat (.int x))), rdD_I hv, rfl, ?_, _, _, rfl⟩
      unfold dAlias
      rw [a3]; rfl)
    (fun E _ => rdD_end (Nat.le_refl _)) ns.length 0 (ns.map PyData.int).length (eBg ns 0 .no) (by omega) (by simp) ⟨0, .no, rfl⟩
  obtain ⟨E', hE, st, s2, rfl⟩ := hloop
  have c2 := dFor_go (src := iLst (dVar 0)) (E := eBg ns 0 .no) (c := ⟨eBg ns 0 .no, [], rdD (ns.map .int), (ns.map PyData.int).length⟩) rfl hE
  have hll : (ns.map PyData.int).length = ns.length := by simp
  refine ⟨st * (if decide ((2 : Int) < (ns.length : Int)) = true then 1 else 0), ?_⟩
  have b1 : dCS fList (dCons (dVar 0) dNil) (eBg ns st s2) = some (.val (lI ns)) := by
    show (some (S.lst ((ns.map PyData.int).map S.dat))).map Rs.val = _
    simp [lI]
  have b2 : dCB fInt (dCons (dOp fGt (dLen (dVar 0)) (dC (.int 2))) dNil) (eBg ns st s2) = some (.val (.dat (.int (if decide ((2 : Int) < (ns.length : Int)) = true then 1 else 0)))) := by
    refine dCB_go (dcons_go (dOp_go (x := .int (ns.length : Int)) (show dLen (dVar 0) (eBg ns st s2) = some (.val (.dat (.int (ns.length : Int)))) from ?_) rfl rfl rfl rfl) rfl) rfl rfl
    show some (Rs.val (.dat (.int ((ns.map PyData.int).length : Nat)))) = _
    rw [hll]
  have b3 : dOp fMul (dVar 1) (dCB fInt (dCons (dOp fGt (dLen (dVar 0)) (dC (.int 2))) dNil)) (eBg ns st s2) = some (.val (.dat (.int (st * (if decide ((2 : Int) < (ns.length : Int)) = true then 1 else 0))))) :=
    dOp_go rfl b2 rfl rfl (mulR (by split <;> omega))
  have c3 : dRet (ePure (dLst (dCons (dCS fList (dCons (dVar 0) dNil)) (dCons (dOp fMul (dVar 1) (dCB fInt (dCons (dOp fGt (dLen (dVar 0)) (dC (.int 2))) dNil))) dNil)))) (eBg ns st s2) = some (.rt (bx ns (st * (if decide ((2 : Int) < (ns.length : Int)) = true then 1 else 0))) (eBg ns st s2)) := by
    unfold dRet ePure dLst
    rw [dcons_go b1 (dcons_go b3 rfl)]; rfl
  exact fnG_rt (dSeq_go (E1 := eBg ns 0 .no) rfl (dSeq_go c2 c3)) rfl
theorem v_take {ns : List Int} {st many : Int} (h0 : 0 < many) (h1 : many < 1073741824) (hl : ns.length < 1000) : ∃ r ns' st', 0 ≤ r ∧ r < many ∧ ns'.length ≤ ns.length ∧ g__law_take [bx ns st, .dat (.int many)] = some (.dat (.int r), [bx ns' st', .dat (.int many)]) := by
  cases ns with
  | nil =>
    let E0 : En := [.bor [3], .own (.dat (.int many)), .no, .own (bx [] st), .own (.dat (.int many))]
    have hc : ePureT (dTest (dOp fEqD (dIxL (dVar 0) (dC (.int 0))) (dLst dNil))) E0 = some (true, E0) := by
      have a1 : dOp fEqD (dIxL (dVar 0) (dC (.int 0))) (dLst dNil) E0 = some (.val (.dat (.bool true))) := dOp_go (a := .pl [3, 0]) (b := .val (.lst [])) (x := .list []) (y := .list []) rfl rfl rfl rfl (eqD_self [])
      unfold ePureT dTest
      rw [a1]; rfl
    have a0 : dIxL (dVar 0) (dC (.int 1)) E0 = some (.val (.dat (.int st))) := rfl
    have a1 : dOp fMod (dOp fMul (dIxL (dVar 0) (dC (.int 1))) (dC (.int 48271))) (dC (.int 2147483647)) E0 = some (.val (.dat (.int (st * 48271 % 2147483647)))) :=
      dOp_go (dOp_go a0 rfl rfl rfl (mulR (by omega))) rfl rfl rfl (modP (by omega))
    generalize hst : st * 48271 % 2147483647 = st' at a1
    have a2 : dLSet (dVar 0) (dC (.int 1)) (ePure (dOp fMod (dOp fMul (dIxL (dVar 0) (dC (.int 1))) (dC (.int 48271))) (dC (.int 2147483647)))) E0 = some (.nx [.bor [3], .own (.dat (.int many)), .no, .own (bx [] st'), .own (.dat (.int many))]) := by
      have e1 : ePure (dOp fMod (dOp fMul (dIxL (dVar 0) (dC (.int 1))) (dC (.int 48271))) (dC (.int 2147483647))) E0 = some (.dat (.int st'), E0) := by unfold ePure; rw [a1]
      unfold dLSet
      rw [e1]; rfl
    let E1 : En := [.bor [3], .own (.dat (.int many)), .no, .own (bx [] st'), .own (.dat (.int many))]
    have a3 : dOp fMod (dOp fDiv (dIxL (dVar 0) (dC (.int 1))) (dC (.int 7))) (dVar 1) E1 = some (.val (.dat (.int (st' / 7 % many)))) :=
      dOp_go (dOp_go (x := .int st') rfl rfl rfl rfl (divP (by omega) (by omega))) rfl rfl rfl (modP h0)
    have a4 : dRet (ePure (dOp fMod (dOp fDiv (dIxL (dVar 0) (dC (.int 1))) (dC (.int 7))) (dVar 1))) E1 = some (.rt (.dat (.int (st' / 7 % many))) E1) := by
      unfold dRet ePure
      rw [a3]
    exact ⟨st' / 7 % many, [], st', Int.emod_nonneg _ (by omega), Int.emod_lt_of_pos _ h0, Nat.le_refl _, fnG_rt (dSeq_rt (dIf_t hc (dSeq_go a2 a4))) rfl⟩
  | cons a t =>
    let E0 : En := [.bor [3], .own (.dat (.int many)), .no, .own (bx (a :: t) st), .own (.dat (.int many))]
    have hc : ePureT (dTest (dOp fEqD (dIxL (dVar 0) (dC (.int 0))) (dLst dNil))) E0 = some (false, E0) := by
      have a1 : dOp fEqD (dIxL (dVar 0) (dC (.int 0))) (dLst dNil) E0 = some (.val (.dat (.bool false))) := by
        refine dOp_go (a := .pl [3, 0]) (b := .val (.lst [])) (x := .list ((a :: t).map .int)) (y := .list []) rfl rfl (lI_toD (a :: t)) rfl ?_
        unfold fEqD
        rw [if_pos ⟨shaped_list (a :: t), shaped_list []⟩]; rfl
      unfold ePureT dTest
      rw [a1]; rfl
    let E1 : En := [.bor [3], .own (.dat (.int many)), .own (.dat (.int a)), .own (bx (a :: t) st), .own (.dat (.int many))]
    have hix : ∀ (b : Int) (E : En), dVar 0 E = some (.pl [3]) → eget E [3] = some (bx (b :: t) st) → eget E [3, 0] = some (lI (b :: t)) → dIxL (dIxL (dVar 0) (dC (.int 0))) (dC (.int 0)) E = some (.val (.dat (.int b))) := fun b E e1 e2 e3 => by
      have i1 : dIxL (dVar 0) (dC (.int 0)) E = some (.pl [3, 0]) := by
        unfold dIxL
        rw [e1]
        show (match eget E [3] with | some (.lst ss) => _ | some (.dat (.list ds)) => _ | _ => none) = _
        rw [e2]; rfl
      exact ixL_I (k := 0) (ns := b :: t) i1 e3 rfl rfl
    have c1 : dAlias 2 (dIxL (dIxL (dVar 0) (dC (.int 0))) (dC (.int 0))) E0 = some (.nx E1) := by
      unfold dAlias
      rw [hix a E0 rfl rfl rfl]; rfl
    have a2 : dOp fDiv (dVar 2) (dVar 1) E1 = some (.val (.dat (.int (a / many)))) := dOp_go rfl rfl rfl rfl (divP h0 (by omega))
    generalize hq : a / many = q at a2
    let E2 : En := [.bor [3], .own (.dat (.int many)), .own (.dat (.int a)), .own (bx (q :: t) st), .own (.dat (.int many))]
    have c2 : dLSet (dIxL (dVar 0) (dC (.int 0))) (dC (.int 0)) (ePure (dOp fDiv (dVar 2) (dVar 1))) E1 = some (.nx E2) := by
      have e1 : ePure (dOp fDiv (dVar 2) (dVar 1)) E1 = some (.dat (.int q), E1) := by unfold ePure; rw [a2]
      have e2 : oLSet 0 (lI (a :: t)) (.dat (.int q)) = some (lI (q :: t), .dat .none) := by
        have : ixN ((a :: t).map fun i => S.dat (.int i)).length ((0 : Nat) : Int) = some 0 := ixN_in (by simp)
        show (match ixN ((a :: t).map fun i => S.dat (.int i)).length ((0 : Nat) : Int) with | some j => some (S.lst (((a :: t).map fun i => S.dat (.int i)).set j (.dat (.int q))), S.dat PyData.none) | none => none) = _
        rw [this]; rfl
      unfold dLSet
      rw [e1]
      show stepAt (oLSet 0) E1 [3, 0] (.dat (.int q)) = _
      show (match oLSet 0 (lI (a :: t)) (.dat (.int q)) with | some (t', _) => some (Out.nx (ekill (eput E1 [3, 0] t') [3, 0])) | none => none) = _
      rw [e2]; rfl
    have hor : ePureT (dOr (dTest (dOp fEqS (dIxL (dIxL (dVar 0) (dC (.int 0))) (dC (.int 0))) (dC (.int 0)))) (dTest (dOp fEqS (dIxL (dIxL (dVar 0) (dC (.int 0))) (dC (.int 0))) (dNeg (dC (.int 1)))))) E2 = some (decide (q = 0) || decide (q = -1), E2) := by
      unfold ePureT dOr dTest
      rw [dOp_go (hix q E2 rfl rfl rfl) rfl rfl rfl rfl, dOp_go (hix q E2 rfl rfl rfl) rfl rfl rfl rfl]
      by_cases z : q = 0
      · simp [z]
      · simp [z]
    have c4 : ∀ E : En, dVar 2 E = some (.val (.dat (.int a))) → dVar 1 E = some (.val (.dat (.int many))) → dRet (ePure (dOp fMod (dVar 2) (dVar 1))) E = some (.rt (.dat (.int (a % many))) E) := fun E e1 e2 => by
      unfold dRet ePure
      rw [dOp_go e1 e2 rfl rfl (modP h0)]
    cases hb : (decide (q = 0) || decide (q = -1)) with
    | true =>
      rw [hb] at hor
      let E3 : En := [.bor [3], .own (.dat (.int many)), .own (.dat (.int a)), .own (bx t st), .own (.dat (.int many))]
      have c3 : dDrop (eBM1 oPopAt (dIxL (dVar 0) (dC (.int 0))) (dC (.int 0))) E2 = some (.nx E3) := by
        have e2 : oPopAt (lI (q :: t)) (.dat (.int 0)) = some (lI t, .dat (.int q)) := by
          have : ixN ((q :: t).map fun i => S.dat (.int i)).length ((0 : Nat) : Int) = some 0 := ixN_in (by simp)
          show (match ixN ((q :: t).map fun i => S.dat (.int i)).length ((0 : Nat) : Int) with | some j => (match ((q :: t).map fun i => S.dat (.int i))[j]? with | some s => if ((q :: t).map fun i => S.dat (.int i)).length < 100000 then some (S.lst (((q :: t).map fun i => S.dat (.int i)).eraseIdx j), s) else none | none => none) | none => none) = _
          rw [this]
          show (if ((q :: t).map fun i => S.dat (.int i)).length < 100000 then some (lI t, S.dat (.int q)) else none) = _
          exact if_pos (by simp at hl ⊢; omega)
        refine dDrop_go (s := .dat (.int q)) ?_
        show (match oPopAt (lI (q :: t)) (.dat (.int 0)) with | some (t', c) => some (c, ekill (eput E2 [3, 0] t') [3, 0]) | none => none) = _
        rw [e2]; rfl
      exact ⟨a % many, t, st, Int.emod_nonneg _ (by omega), Int.emod_lt_of_pos _ h0, by simp, fnG_rt (dSeq_go (dIf_f hc rfl) (dSeq_go c1 (dSeq_go c2 (dSeq_go (dIf_t hor c3) (c4 E3 rfl rfl))))) rfl⟩
    | false =>
      rw [hb] at hor
      exact ⟨a % many, q :: t, st, Int.emod_nonneg _ (by omega), Int.emod_lt_of_pos _ h0, by simp, fnG_rt (dSeq_go (dIf_f hc rfl) (dSeq_go c1 (dSeq_go c2 (dSeq_go (dIf_f hor rfl) (c4 E2 rfl rfl))))) rfl⟩
section
variable {E E1 E2 : En} {s : S} {de : En → Option (S × En)} {da : En → Option Rs} {dl : En → Option (Nat × En)}
theorem eEff_go {dl : En → Option (Nat × En)} {dc : Nat → En → Option (S × En)} {k : Nat} (h : dl E = some (k, E1)) (h2 : dc k E1 = some (s, E2)) : eEff dl dc E = some (s, stripN k E2) := by unfold eEff; rw [h]; simp only [h2]
theorem when_go {k : Nat} {r : Option (S × En)} (h : de E = r) : dWhen k k de E = r := by unfold dWhen; rw [if_pos rfl]; exact h
def frs (n : Nat) : Sl → Bool
  | .bor (i :: _) => decide (i < n)
  | _ => true
theorem kill_frs {n j : Nat} (hj : n ≤ j) : ∀ {E : En}, E.all (frs n) = true → E.map (killHead j) = E
  | [], _ => rfl
  | e :: r, h => by
    simp only [List.all_cons, Bool.and_eq_true] at h
    rw [List.map_cons, kill_frs hj h.2]
    congr 1
    cases e with
    | no => rfl
    | own s => rfl
    | bor q => cases q with
      | nil => rfl
      | cons i q =>
        have : i < n := by simpa [frs] using h.1
        exact if_neg (by simp; omega)
theorem strip1_app (E : En) (x : Sl) : strip1 (E ++ [x]) = E.map (killHead E.length) := by
  have hl : (E ++ [x]).length - 1 = E.length := by simp
  unfold strip1 slotSet
  rw [hl, List.map_append, List.set_append_right _ _ (by simp)]
  simp
theorem strip_app {E : En} (h : E.all (frs E.length) = true) : ∀ (k : Nat) (G : En), G.length = k → stripN k (E ++ G) = E
  | 0, G, hg => by rw [List.eq_nil_of_length_eq_zero hg, List.append_nil]; rfl
  | k + 1, G, hg => by
    rcases List.eq_nil_or_concat G with rfl | ⟨G', x, rfl⟩
    · cases hg
    · rw [List.concat_eq_append, ← List.append_assoc]
      show stripN k (strip1 _) = E
      rw [strip1_app, List.map_append, kill_frs (by simp) h]
      exact strip_app h k _ (by simpa using hg)
theorem lE_go {k : Nat} (h : de E = some (s, E1)) (h2 : dl (E1 ++ [.own s]) = some (k, E2)) : lConsE de dl E = some (k + 1, E2) := by unfold lConsE; rw [h]; simp only [h2]; rfl
theorem lP_own {k : Nat} (h : da E = some (.val s)) (h2 : dl (E ++ [.own s]) = some (k, E2)) : lConsP da dl E = some (k + 1, E2) := by unfold lConsP; rw [h]; simp only [h2]; rfl
theorem lP_bor {k : Nat} {p : List Nat} (h : da E = some (.pl p)) (h2 : dl (E ++ [.bor p]) = some (k, E2)) : lConsP da dl E = some (k + 1, E2) := by unfold lConsP; rw [h]; simp only [h2]; rfl
theorem dOpS_go {f : S → S → Option S} {da db : En → Option Rs} {a b : Rs} {s t u : S} (ha : da E = some a) (hb : db E = some b) (hx : a.at E = some s) (hy : b.at E = some t) (h : f s t = some u) : dOpS f da db E = some (.val u) := by
  unfold dOpS; rw [ha, hb]; simp only [hx, hy, h]; rfl
theorem tupL_go {dr : En → Option (List Rs)} {rs : List Rs} {ds : List PyData} (h : dr E = some rs) (hl : rs.length < 1000) (h2 : tupD E rs = some ds) : dTupL dr E = some (.val (.dat (.tuple ds))) := by
  unfold dTupL; rw [h]; simp only [if_pos hl]; unfold dTup; rw [h]; simp only [h2]; rfl
/-- effects, and what was made for them gone again -/
theorem eff_go {dc : Nat → En → Option (S × En)} {k : Nat} {A B G G2 : En} (h : dl E = some (k, A ++ G)) (h2 : dc k (A ++ G) = some (s, B ++ G2)) (hB : B.all (frs B.length) = true) (hG : G2.length = k) : eEff dl dc E = some (s, B) := by
  rw [eEff_go h h2, strip_app hB k G2 hG]
theorem lN {E : En} : lNil E = some (0, E) := rfl
theorem ePure_go {d : PyData} (h : da E = some (.val (.dat d))) : ePure da E = some (.dat d, E) := by unfold ePure; rw [h]
theorem eOp_go {f : PyData → PyData → Option PyData} {da db : En → Option (S × En)} {x y c : PyData} (h : da E = some (.dat x, E1)) (h2 : db E1 = some (.dat y, E2)) (h3 : f x y = some c) : eOp f da db E = some (.dat c, E2) := by
  unfold eOp
  rw [h]
  simp only [h2]
  show (f x y).map (fun c => (S.dat c, E2)) = _
  rw [h3]; rfl
theorem rdP_at {α : Type} {f : α → PyData} {l : List α} {p : List Nat} {i : Nat} {x : α} (h1 : E.getLast? = some (.bor p)) (h2 : eget E p = some (dL f l)) (h3 : l[i]? = some x) : rdP E i = some (some (.val (.dat (f x)))) := by
  unfold rdP
  simp only [h1, h2, dL, List.getElem?_map, h3, Option.map_some]
  rfl
theorem rdP_en {α : Type} {f : α → PyData} {l : List α} {p : List Nat} {i : Nat} (h1 : E.getLast? = some (.bor p)) (h2 : eget E p = some (dL f l)) (h3 : l.length ≤ i) : rdP E i = some none := by
  unfold rdP
  simp only [h1, h2, dL, List.getElem?_map, List.getElem?_eq_none_iff.mpr h3, Option.map_none]
/-- a comprehension over data, with a test -/
theorem lcF {α : Type} {xs : List α} {f : α → PyData} {p : α → Bool} {g : α → S} {rd : En → Nat → Option (Option Rs)} {j : Nat} {dt : En → Option (Bool × En)} {E0 : En} (hn : xs.length < 100000)
    (hrd : ∀ i a, xs[i]? = some a → rd E0 i = some (some (.val (.dat (f a))))) (hend : rd E0 xs.length = some none)
    (hs : ∀ a ∈ xs, ∃ E1, bName j (.val (.dat (f a))) E0 = some E1 ∧ dt E1 = some (p a, E1) ∧ (p a = true → de E1 = some (g a, E1)) ∧ slotSet E1 j .no = E0) :
    ∀ (m i fuel : Nat) (acc : List S), i + m = xs.length → m ≤ fuel → acc.length ≤ i → dLcLoop rd j dt de fuel i acc E0 = some (acc ++ ((xs.drop i).filter p).map g, E0) := by
  intro m
  induction m with
  | zero =>
    intro i fuel acc hi _ _
    have : i = xs.length := by omega
    subst this
    rw [lcLoop_end hend]; simp
  | succ m ih =>
    intro i fuel acc hi hf ha
    cases fuel with
    | zero => omega
    | succ fuel =>
      have hil : i < xs.length := by omega
      have hv : xs[i]? = some xs[i] := List.getElem?_eq_getElem hil
      obtain ⟨E1, h1, h2, h3, h4⟩ := hs xs[i] (List.getElem_mem _)
      rw [List.drop_eq_getElem_cons hil]
      cases hp : p xs[i] with
      | true =>
        rw [hp] at h2
        rw [lcLoop_yes (hrd i _ hv) h1 h2 (h3 hp) (by omega), h4, ih (i + 1) fuel (acc ++ [g xs[i]]) (by omega) (by omega) (by simp; omega), List.filter_cons_of_pos hp, List.map_cons, List.append_assoc]; rfl
      | false =>
        rw [hp] at h2
        rw [lcLoop_no (hrd i _ hv) h1 h2, h4, ih (i + 1) fuel acc (by omega) (by omega) (by omega), List.filter_cons_of_neg (by rw [hp]; exact Bool.false_ne_true)]
/-- such a comprehension over a list at a place -/
theorem lcP {α : Type} {xs : List α} {f : α → PyData} {p : α → Bool} {g : α → S} {q : List Nat} {j : Nat} {src : En → Option Src} {dt : En → Option (Bool × En)} {E0 : En} (hn : xs.length < 100000) (hsrc : src E = some ⟨E, [.bor q], rdP, xs.length⟩)
    (h0 : slotSet (E ++ [.bor q]) j .no = E0) (hl : E0.getLast? = some (.bor q)) (hq : eget E0 q = some (dL f xs))
    (hs : ∀ a ∈ xs, ∃ E1, bName j (.val (.dat (f a))) E0 = some E1 ∧ dt E1 = some (p a, E1) ∧ (p a = true → de E1 = some (g a, E1)) ∧ slotSet E1 j .no = E0) :
    eLc src j dt de E = some (.lst ((xs.filter p).map g), stripN 1 E0) := by
  refine eLc_go hsrc ?_
  show dLcLoop rdP j dt de xs.length 0 [] (slotSet (E ++ [.bor q]) j .no) = _
  rw [h0, lcF (f := f) (p := p) (g := g) hn (fun i a h => rdP_at hl hq h) (rdP_en hl hq (Nat.le_refl _)) hs xs.length 0 xs.length [] (by omega) (Nat.le_refl _) (Nat.le_refl _)]
  simp
end
section
variable {α : Type} {f : α → PyData} {xs ys : List α} {E : En} {da db dl dh : En → Option Rs} {r r2 : Rs} {k l : Nat}
theorem dL_seqL : (dL f xs).seqL = some (xs.map f) := by
  show datsS _ = _
  have : (xs.map fun d => S.dat (f d)) = (xs.map f).map S.dat := by simp
  rw [this, datsS_dats]
theorem dL_back (xs : List α) : S.lst ((xs.map f).map S.dat) = dL f xs := by simp [dL]
theorem catL_go (ha : da E = some r) (hr : r.at E = some (dL f xs)) (hb : db E = some r2) (hs : r2.at E = some (dL f ys)) (hl : xs.length + ys.length < 100000) : dOpS fCatL da db E = some (.val (dL f (xs ++ ys))) := by
  unfold dOpS
  rw [ha, hb]
  show (match r.at E, r2.at E with | some s, some t => (fCatL s t).map Rs.val | _, _ => none) = _
  rw [hr, hs]
  show (match (dL f xs).seqL with | some ds => (match (dL f ys).seqL with | some es => if ds.length + es.length < 100000 then some (S.lst ((ds ++ es).map S.dat)) else none | none => none) | none => none).map Rs.val = _
  rw [dL_seqL, dL_seqL]
  show (if (xs.map f).length + (ys.map f).length < 100000 then some (S.lst ((xs.map f ++ ys.map f).map S.dat)) else none).map Rs.val = _
  rw [if_pos (by simpa using hl), ← List.map_append, dL_back]; rfl
theorem ixL_go {a : α} (ha : da E = some r) (hr : r.at E = some (dL f xs)) (hb : db E = some (.val (.dat (.int (k : Int))))) (h : xs[k]? = some a) : dIxL da db E = some (.val (.dat (f a))) := by
  unfold dIxL
  rw [ha, hb]
  have hk := (List.getElem?_eq_some_iff.mp h).1
  have e1 : ixN (xs.map fun d => S.dat (f d)).length (k : Int) = some k := ixN_in (by simpa using hk)
  simp only [hr, dL, e1, List.getElem?_map, h, Option.map_some]
  cases r <;> rfl
end
def killR (n m : Nat) : Sl → Sl
  | .bor (j :: q) => if n ≤ j ∧ j < n + m then .no else .bor (j :: q)
  | e => e
theorem pop_app : ∀ (m : Nat) (E : En) (ss : List S), ss.length = m → popS m (E ++ ss.map Sl.own) = some (ss, E.map (killR E.length m))
  | 0, E, ss, h => by
    have : ss = [] := List.eq_nil_of_length_eq_zero h
    subst this
    have : E.map (killR E.length 0) = E := by
      have hk : ∀ e : Sl, killR E.length 0 e = e := by
        intro e
        cases e with
        | no => rfl
        | own s => rfl
        | bor q => cases q with
          | nil => rfl
          | cons j q => exact if_neg (by omega)
      rw [show killR E.length 0 = id from funext hk, List.map_id]
    rw [this]
    simp [popS]
  | m + 1, E, ss, h => by
    rcases List.eq_nil_or_concat ss with rfl | ⟨ss', s, rfl⟩
    · cases h
    · rw [List.concat_eq_append] at h ⊢
      have hm : ss'.length = m := by simpa using h
      have hk : ∀ (j : Nat) (l : List S), (l.map Sl.own).map (killHead j) = l.map Sl.own := by
        intro j l
        rw [List.map_map]; rfl
      have e1 : E ++ (ss' ++ [s]).map Sl.own = (E ++ ss'.map Sl.own) ++ [.own s] := by simp
      rw [e1]
      unfold popS
      simp only [List.getLast?_append, List.getLast?_singleton, Option.some_or, List.dropLast_concat]
      have hl : ((E ++ ss'.map Sl.own) ++ [Sl.own s]).length - 1 = E.length + m := by simp [hm]
      rw [hl, List.map_append, hk, pop_app m _ ss' hm]
      simp only [List.length_map, List.map_map]
      congr 3
      funext e
      cases e with
      | no => rfl
      | own s => rfl
      | bor q => cases q with
        | nil => rfl
        | cons j q =>
          show killR E.length m (if some j = some (E.length + m) then .no else .bor (j :: q)) = if E.length ≤ j ∧ j < E.length + (m + 1) then .no else .bor (j :: q)
          by_cases hj : j = E.length + m
          · rw [if_pos (by rw [hj]), if_pos (by omega)]; rfl
          · rw [if_neg (by simpa using hj)]
            show (if E.length ≤ j ∧ j < E.length + m then Sl.no else .bor (j :: q)) = _
            by_cases hh : E.length ≤ j ∧ j < E.length + m
            · rw [if_pos hh, if_pos (by omega)]
            · rw [if_neg hh, if_neg (by omega)]
theorem pop_go {E E1 : En} {ss : List S} {m : Nat} (h : ss.length = m) (h2 : E.map (killR E.length m) = E1) : popS m (E ++ ss.map Sl.own) = some (ss, E1) := by subst h2; exact pop_app m E ss h
end Gn
set_option maxHeartbeats 4000000
namespace K19c
open CLX
open Gn hiding g__law_take g__law_begun d__law_take d__law_begun
open PySem PySem.Spec PyProof.Rows L2 Mv NX
abbrev s__law_class : Stmt := K19.topS 38
theorem sc__law_class : FnScope ["_law_e", "_law_kinds", "_law_words"] ["_law_e"] (defScope s__law_class) := ⟨rfl, rfl, rfl, by decide +kernel, rfl, by decide +kernel, by decide +kernel⟩
structure Txt (K : PySem.W.Frag) (mg : Str → Option Value) where
  n_isinstance : mg "isinstance" = none
  n_ValueError : mg "ValueError" = none
  C_BadHouse : Addr
  g_BadHouse : mg "BadHouse" = some (.ref C_BadHouse)
  C_Known : Addr
  g_Known : mg "Known" = some (.ref C_Known)
  C_NoHouse : Addr
  g_NoHouse : mg "NoHouse" = some (.ref C_NoHouse)
  C_TooMany : Addr
  g_TooMany : mg "TooMany" = some (.ref C_TooMany)
  C_LastHouse : Addr
  g_LastHouse : mg "LastHouse" = some (.ref C_LastHouse)
  C_BadAsker : Addr
  g_BadAsker : mg "BadAsker" = some (.ref C_BadAsker)
  C_BadEdition : Addr
  g_BadEdition : mg "BadEdition" = some (.ref C_BadEdition)
  C_BadAsk : Addr
  g_BadAsk : mg "BadAsk" = some (.ref C_BadAsk)
  C_Busy : Addr
  g_Busy : mg "Busy" = some (.ref C_Busy)
  C_NoLetter : Addr
  g_NoLetter : mg "NoLetter" = some (.ref C_NoLetter)
  C_BadCount : Addr
  g_BadCount : mg "BadCount" = some (.ref C_BadCount)
  C_BadText : Addr
  g_BadText : mg "BadText" = some (.ref C_BadText)
  kt_BadHouse : PySem.W.kitOne K (.ref C_BadEdition) (.ref C_BadHouse) = some false
  kt_Known : PySem.W.kitOne K (.ref C_BadEdition) (.ref C_Known) = some false
  kt_NoHouse : PySem.W.kitOne K (.ref C_BadEdition) (.ref C_NoHouse) = some false
  kt_TooMany : PySem.W.kitOne K (.ref C_BadEdition) (.ref C_TooMany) = some false
  kt_LastHouse : PySem.W.kitOne K (.ref C_BadEdition) (.ref C_LastHouse) = some false
  kt_BadAsker : PySem.W.kitOne K (.ref C_BadEdition) (.ref C_BadAsker) = some false
  kt_BadEdition : PySem.W.kitOne K (.ref C_BadEdition) (.ref C_BadEdition) = some true
  kt_BadAsk : PySem.W.kitOne K (.ref C_BadEdition) (.ref C_BadAsk) = some false
  kt_Busy : PySem.W.kitOne K (.ref C_BadEdition) (.ref C_Busy) = some false
  kt_NoLetter : PySem.W.kitOne K (.ref C_BadEdition) (.ref C_NoLetter) = some false
  kt_BadCount : PySem.W.kitOne K (.ref C_BadEdition) (.ref C_BadCount) = some false
  kt_BadText : PySem.W.kitOne K (.ref C_BadEdition) (.ref C_BadText) = some false
  kt_ValueError : PySem.W.kitOne K (.ref C_BadEdition) (.type "ValueError") = some true
  ec : ExcC K C_BadEdition
  a__law_class : Addr
  d__law_class : FuncData
  F__law_class : Fun K "_law_class" "_law_class" s__law_class a__law_class d__law_class
  b__law_class : Binds K d__law_class ["_law_e"] []
  m__law_class : mg "_law_class" = some (.ref a__law_class)
section
variable {P : Program} {w : World} {K : PySem.W.Frag} {mg : Str → Option Value} {base : Heap}
def d__law_class (a : Addr) : En → Option Out := (dSeq (dAlias 1 (dLst (dCons (dIsE 0 a false) (dCons (dIsE 0 a false) (dCons (dIsE 0 a false) (dCons (dIsE 0 a false) dNil))))))
    (dSeq (dAlias 1 (dOpS fCatL (dVar 1) (dLst (dCons (dIsE 0 a false) (dCons (dIsE 0 a false) (dCons (dIsE 0 a true) dNil))))))
    (dSeq (dAlias 1 (dOpS fCatL (dVar 1) (dLst (dCons (dIsE 0 a false) (dCons (dIsE 0 a false) (dCons (dIsE 0 a false) (dCons (dIsE 0 a false) dNil)))))))
    (dSeq (dDrop (eBM1 oAppend (dVar 1) (dIsE 0 a false)))
    (dSeq (dAlias 2 (dLst (dCons (dC (.str "BadHouse")) (dCons (dC (.str "Known")) (dCons (dC (.str "NoHouse")) (dCons (dC (.str "TooMany")) (dCons (dC (.str "LastHouse")) (dCons (dC (.str "BadAsker")) (dCons (dC (.str "BadEdition")) (dCons (dC (.str "BadAsk")) (dCons (dC (.str "Busy")) dNil)))))))))))
    (dSeq (dAlias 2 (dOpS fCatL (dVar 2) (dLst (dCons (dC (.str "NoLetter")) (dCons (dC (.str "BadCount")) (dCons (dC (.str "BadText")) dNil))))))
    (dRet (eIfE (eAnd (eTest (eOp fEqS (eBM1 oCntB (dVar 1) (dC (.bool true))) (ePure (dC (.int 1))))) (ePureT (dTest (dIsE 0 a true)))) (eEff (lConsP (dVar 2) (lConsE (eBM1 oIndexB (dVar 1) (dC (.bool true))) lNil)) fun k => dWhen k 2 (ePure (dIxL (dGh k 0) (dGh k 1)))) (ePure (dC (.str "")))))))))))
/-- what it is told, what it tells -/
def spClass (T : Txt K mg) : SpP := fun p vs H Q _ => vs = [.ref p.1] ∧ Zc (.ref T.C_BadEdition) none p.2 ∧ (∃ vs, p.2.data = .fields vs) ∧ ∀ H', (∀ b o, H b = some o → H' b = some o) → Q (.str "BadEdition") H'
def eC (a : Addr) (k w : Sl) (G : En) : En := [.own (.con (.ref a)), k, w, .own (.con (.ref a))] ++ G
def lB (bs : List Bool) : S := dL PyData.bool bs
def lS (ss : List Str) : S := dL PyData.str ss
def eC7 (a : Addr) : En := eC a (.own (lB [false, false, false, false, false, false, true, false, false, false, false, false])) (.own (lS ["BadHouse", "Known", "NoHouse", "TooMany", "LastHouse", "BadAsker", "BadEdition", "BadAsk", "Busy", "NoLetter", "BadCount", "BadText"])) []
theorem worth_class (a : Addr) : ∃ E', d__law_class a (entry 3 [.con (.ref a)]) = some (.rt (.dat (.str "BadEdition")) E') := by
  have isE : ∀ (b : Bool) (k w : Sl) (G : En), dIsE 0 a b (eC a k w G) = some (.val (.dat (.bool b))) := fun b k w G => dIsE_go rfl
  have s1 : dAlias 1 (dLst (dCons (dIsE 0 a false) (dCons (dIsE 0 a false) (dCons (dIsE 0 a false) (dCons (dIsE 0 a false) dNil))))) (eC a .no .no []) = some (.nx (eC a (.own (lB [false, false, false, false])) .no [])) := by
    unfold dAlias dLst
    rw [dcons_go (isE _ _ _ _) (dcons_go (isE _ _ _ _) (dcons_go (isE _ _ _ _) (dcons_go (isE _ _ _ _) rfl)))]
    rfl
  have s2 : dAlias 1 (dOpS fCatL (dVar 1) (dLst (dCons (dIsE 0 a false) (dCons (dIsE 0 a false) (dCons (dIsE 0 a true) dNil))))) (eC a (.own (lB [false, false, false, false])) .no []) = some (.nx (eC a (.own (lB [false, false, false, false, false, false, true])) .no [])) := by
    have l : dLst (dCons (dIsE 0 a false) (dCons (dIsE 0 a false) (dCons (dIsE 0 a true) dNil))) (eC a (.own (lB [false, false, false, false])) .no []) = some (.val (lB [false, false, true])) := by
      unfold dLst
      rw [dcons_go (isE _ _ _ _) (dcons_go (isE _ _ _ _) (dcons_go (isE _ _ _ _) rfl))]
      rfl
    unfold dAlias dOpS
    rw [l]
    rfl
  have s3 : dAlias 1 (dOpS fCatL (dVar 1) (dLst (dCons (dIsE 0 a false) (dCons (dIsE 0 a false) (dCons (dIsE 0 a false) (dCons (dIsE 0 a false) dNil)))))) (eC a (.own (lB [false, false, false, false, false, false, true])) .no []) = some (.nx (eC a (.own (lB [false, false, false, false, false, false, true, false, false, false, false])) .no [])) := by
    have l : dLst (dCons (dIsE 0 a false) (dCons (dIsE 0 a false) (dCons (dIsE 0 a false) (dCons (dIsE 0 a false) dNil)))) (eC a (.own (lB [false, false, false, false, false, false, true])) .no []) = some (.val (lB [false, false, false, false])) := by
      unfold dLst
      rw [dcons_go (isE _ _ _ _) (dcons_go (isE _ _ _ _) (dcons_go (isE _ _ _ _) (dcons_go (isE _ _ _ _) rfl)))]
      rfl
    unfold dAlias dOpS
    rw [l]
    rfl
  have s4 : dDrop (eBM1 oAppend (dVar 1) (dIsE 0 a false)) (eC a (.own (lB [false, false, false, false, false, false, true, false, false, false, false])) .no []) = some (.nx (eC a (.own (lB [false, false, false, false, false, false, true, false, false, false, false, false])) .no [])) := by
    unfold dDrop eBM1
    show (match eMut1 oAppend (dVar 1) (dIsE 0 a false) (eC a (.own (lB [false, false, false, false, false, false, true, false, false, false, false])) .no []) with | _ => _) = _
    unfold eMut1
    rw [isE]
    rfl
  have s7 : dRet (eIfE (eAnd (eTest (eOp fEqS (eBM1 oCntB (dVar 1) (dC (.bool true))) (ePure (dC (.int 1))))) (ePureT (dTest (dIsE 0 a true)))) (eEff (lConsP (dVar 2) (lConsE (eBM1 oIndexB (dVar 1) (dC (.bool true))) lNil)) fun k => dWhen k 2 (ePure (dIxL (dGh k 0) (dGh k 1)))) (ePure (dC (.str ""))))
      (eC7 a) = some (.rt (.dat (.str "BadEdition"))
      (eC7 a)) := by
    have t : ePureT (dTest (dIsE 0 a true)) (eC7 a) = some (true, eC7 a) := by
      unfold ePureT dTest
      rw [show dIsE 0 a true (eC7 a) = _ from isE _ _ _ _]
      rfl
    have t2 : eAnd (eTest (eOp fEqS (eBM1 oCntB (dVar 1) (dC (.bool true))) (ePure (dC (.int 1))))) (ePureT (dTest (dIsE 0 a true))) (eC7 a) = some (true, eC7 a) := by
      unfold eAnd
      exact t
    unfold dRet eIfE
    rw [t2]
    rfl
  refine ⟨eC7 a, ?_⟩
  exact dSeq_go (E1 := eC a _ .no []) s1 (dSeq_go s2 (dSeq_go s3 (dSeq_go s4 (dSeq_go (E1 := eC a (.own (lB [false, false, false, false, false, false, true, false, false, false, false, false])) (.own (lS ["BadHouse", "Known", "NoHouse", "TooMany", "LastHouse", "BadAsker", "BadEdition", "BadAsk", "Busy"])) []) rfl (dSeq_go rfl s7)))))
theorem ok__law_class (T : Txt K mg) : FnW P w K mg base CX0 5 T.a__law_class T.d__law_class ["_law_e"] (spClass T) := by
  obtain ⟨oc, od, kV, doc, pm, an, cdv, ct, osl, e, lk, hcd⟩ := T.F__law_class.ex
  rw [e] at lk ⊢
  refine fn_ofW (k := 4) lk hcd sc__law_class (fun p vs H Q E h => by obtain ⟨rfl, _⟩ := h; rfl) (fun A outer s H vs Q E p hr h => ?_)
  obtain ⟨rfl, hz, hf, q⟩ := h
  have hpn : (p.1, p.2) ∈ (L2H.cxH CX0 P w K mg base ["_law_e", "_law_kinds", "_law_words"] "_law_class" (defScope s__law_class) T.a__law_class cdv A outer s H E p).pn := List.mem_singleton.mpr rfl
  have key : ∃ t, PSs (L2H.cxH CX0 P w K mg base ["_law_e", "_law_kinds", "_law_words"] "_law_class" (defScope s__law_class) T.a__law_class cdv A outer s H E p) (defBody s__law_class) t ∧ ∀ W, EvS K 3 [some (.ref p.1)] W t (d__law_class p.1) := ⟨_, (pss_cons (ps_set (i := 1) sc__law_class.nd rfl (Or.inl rfl) (pe_lst (pa_cons (pe_callB (call_isP T.ec hpn hz hf) (by rfl) T.n_isinstance (by decide +kernel) (pa_cons (pv 0) (pa_cons (pe_glob (v := .ref T.C_BadHouse) rfl T.g_BadHouse rfl) pa_nil))) (pa_cons (pe_callB (call_isP T.ec hpn hz hf) (by rfl) T.n_isinstance (by decide +kernel) (pa_cons (pv 0) (pa_cons (pe_glob (v := .ref T.C_Known) rfl T.g_Known rfl) pa_nil))) (pa_cons (pe_callB (call_isP T.ec hpn hz hf) (by rfl) T.n_isinstance (by decide +kernel) (pa_cons (pv 0) (pa_cons (pe_glob (v := .ref T.C_NoHouse) rfl T.g_NoHouse rfl) pa_nil))) (pa_cons (pe_callB (call_isP T.ec hpn hz hf) (by rfl) T.n_isinstance (by decide +kernel) (pa_cons (pv 0) (pa_cons (pe_glob (v := .ref T.C_TooMany) rfl T.g_TooMany rfl) pa_nil))) pa_nil))))))
    (pss_cons (ps_set (i := 1) sc__law_class.nd rfl (Or.inl rfl) (pe_op (r := rCatS K) op_catS (pv 1) (pe_lst (pa_cons (pe_callB (call_isP T.ec hpn hz hf) (by rfl) T.n_isinstance (by decide +kernel) (pa_cons (pv 0) (pa_cons (pe_glob (v := .ref T.C_LastHouse) rfl T.g_LastHouse rfl) pa_nil))) (pa_cons (pe_callB (call_isP T.ec hpn hz hf) (by rfl) T.n_isinstance (by decide +kernel) (pa_cons (pv 0) (pa_cons (pe_glob (v := .ref T.C_BadAsker) rfl T.g_BadAsker rfl) pa_nil))) (pa_cons (pe_callB (call_isP T.ec hpn hz hf) (by rfl) T.n_isinstance (by decide +kernel) (pa_cons (pv 0) (pa_cons (pe_glob (v := .ref T.C_BadEdition) rfl T.g_BadEdition rfl) pa_nil))) pa_nil))))))
    (pss_cons (ps_set (i := 1) sc__law_class.nd rfl (Or.inl rfl) (pe_op (r := rCatS K) op_catS (pv 1) (pe_lst (pa_cons (pe_callB (call_isP T.ec hpn hz hf) (by rfl) T.n_isinstance (by decide +kernel) (pa_cons (pv 0) (pa_cons (pe_glob (v := .ref T.C_BadAsk) rfl T.g_BadAsk rfl) pa_nil))) (pa_cons (pe_callB (call_isP T.ec hpn hz hf) (by rfl) T.n_isinstance (by decide +kernel) (pa_cons (pv 0) (pa_cons (pe_glob (v := .ref T.C_Busy) rfl T.g_Busy rfl) pa_nil))) (pa_cons (pe_callB (call_isP T.ec hpn hz hf) (by rfl) T.n_isinstance (by decide +kernel) (pa_cons (pv 0) (pa_cons (pe_glob (v := .ref T.C_NoLetter) rfl T.g_NoLetter rfl) pa_nil))) (pa_cons (pe_callB (call_isP T.ec hpn hz hf) (by rfl) T.n_isinstance (by decide +kernel) (pa_cons (pv 0) (pa_cons (pe_glob (v := .ref T.C_BadCount) rfl T.g_BadCount rfl) pa_nil))) pa_nil)))))))
    (pss_cons (ps_expr (pe_K (t := fun K => tBM K "list" rAppend _ _) (pe_bm PySem.F.plainAttrs_list PySem.F.slot_list_append PySem.F.type_list_append mt_append (pv 1) (pa_cons (pe_callB (call_isP T.ec hpn hz hf) (by rfl) T.n_isinstance (by decide +kernel) (pa_cons (pv 0) (pa_cons (pe_glob (v := .ref T.C_BadText) rfl T.g_BadText rfl) pa_nil))) pa_nil))))
    (pss_cons (ps_set (i := 2) sc__law_class.nd rfl (Or.inl rfl) (pe_lst (pa_cons pe_str (pa_cons pe_str (pa_cons pe_str (pa_cons pe_str (pa_cons pe_str (pa_cons pe_str (pa_cons pe_str (pa_cons pe_str (pa_cons pe_str pa_nil)))))))))))
    (pss_cons (ps_set (i := 2) sc__law_class.nd rfl (Or.inl rfl) (pe_op (r := rCatS K) op_catS (pv 2) (pe_lst (pa_cons pe_str (pa_cons pe_str (pa_cons pe_str pa_nil))))))
    (pss_one (ps_ret (pe_ifExp (PW.pt (pw_and (pt_cmpR op_eq (pe_K (t := fun K => tBM K "list" (NX.rCntB K) _ _) (pe_bm PySem.F.plainAttrs_list PySem.F.slot_list_count PySem.F.type_list_count NX.mt_lcountB (pv 1) (pa_cons pe_bl pa_nil))) pe_int (nomark _)) (pw_and1 (pt_val (pe_callB (call_isP T.ec hpn hz hf) (by rfl) T.n_isinstance (by decide +kernel) (pa_cons (pv 0) (pa_cons (pe_bltn (v := .ty "ValueError") (by rfl) T.n_ValueError (by decide +kernel) rfl) pa_nil))))))) (pe_ix (r := rIxL K) ix_list (pv 2) (pe_K (t := fun K => tBM K "list" (rIndex K) _ _) (pe_bm PySem.F.plainAttrs_list PySem.F.slot_list_index PySem.F.type_list_index mt_index (pv 1) (pa_cons pe_bl pa_nil))) (fun _ _ => rfl)) pe_str))))))))),
    fun W => (s_seq (s_alias (by decide) (p_lst (p_cons (p_isE (c := .ref T.C_BadHouse) (by decide) (fun _ h => h) T.kt_BadHouse) (p_cons (p_isE (c := .ref T.C_Known) (by decide) (fun _ h => h) T.kt_Known) (p_cons (p_isE (c := .ref T.C_NoHouse) (by decide) (fun _ h => h) T.kt_NoHouse) (p_cons (p_isE (c := .ref T.C_TooMany) (by decide) (fun _ h => h) T.kt_TooMany) p_nil))))))
    (s_seq (s_alias (by decide) (p_opS rv_catL (p_var (i := 1) (by decide)) (p_lst (p_cons (p_isE (c := .ref T.C_LastHouse) (by decide) (fun _ h => h) T.kt_LastHouse) (p_cons (p_isE (c := .ref T.C_BadAsker) (by decide) (fun _ h => h) T.kt_BadAsker) (p_cons (p_isE (c := .ref T.C_BadEdition) (by decide) (fun _ h => h) T.kt_BadEdition) p_nil))))))
    (s_seq (s_alias (by decide) (p_opS rv_catL (p_var (i := 1) (by decide)) (p_lst (p_cons (p_isE (c := .ref T.C_BadAsk) (by decide) (fun _ h => h) T.kt_BadAsk) (p_cons (p_isE (c := .ref T.C_Busy) (by decide) (fun _ h => h) T.kt_Busy) (p_cons (p_isE (c := .ref T.C_NoLetter) (by decide) (fun _ h => h) T.kt_NoLetter) (p_cons (p_isE (c := .ref T.C_BadCount) (by decide) (fun _ h => h) T.kt_BadCount) p_nil)))))))
    (s_seq (s_drop (e_bm1 nd_append (p_var (i := 1) (by decide)) (p_isE (c := .ref T.C_BadText) (by decide) (fun _ h => h) T.kt_BadText)))
    (s_seq (s_alias (by decide) (p_lst (p_cons (p_c (d := .str "BadHouse")) (p_cons (p_c (d := .str "Known")) (p_cons (p_c (d := .str "NoHouse")) (p_cons (p_c (d := .str "TooMany")) (p_cons (p_c (d := .str "LastHouse")) (p_cons (p_c (d := .str "BadAsker")) (p_cons (p_c (d := .str "BadEdition")) (p_cons (p_c (d := .str "BadAsk")) (p_cons (p_c (d := .str "Busy")) p_nil)))))))))))
    (s_seq (s_alias (by decide) (p_opS rv_catL (p_var (i := 2) (by decide)) (p_lst (p_cons (p_c (d := .str "NoLetter")) (p_cons (p_c (d := .str "BadCount")) (p_cons (p_c (d := .str "BadText")) p_nil))))))
    (s_ret (e_ifE (e_and (e_test (e_op rv_eq (e_bm1 nd_cntB (p_var (i := 1) (by decide)) (p_c (d := .bool true))) (e_pure (p_c (d := .int 1))))) (e_pureT (p_tB (p_isE (c := .ty "ValueError") (by decide) (fun _ h => h) T.kt_ValueError)))) (e_op2E (fun a b => p_ixL a b) (l_consP (p_var (i := 2) (by decide)) (fun _ => (l_consE (e_bm1 nd_indexB (p_var (i := 1) (by decide)) (p_c (d := .bool true))) (fun _ => l_nil))))) (e_pure (p_c (d := .str "")))))))))))⟩
  obtain ⟨t, h1, h2⟩ := key
  refine ⟨t, h1, ?_⟩
  have l : OwnL K (fun _ => none) H [.ref p.1] [.con (.ref p.1)] [] := OwnL.cons (fp := []) .con .nil
  have R := Rep.entry (N := ["_law_e", "_law_kinds", "_law_words"]) (K := K) (F := fun _ => none) (H := H) (fun a o h => by cases h) l List.nodup_nil (fun _ m => nomatch m) (by show 1 ≤ 3; decide)
  obtain ⟨E', hd⟩ := worth_class p.1
  refine h2 (fun _ _ _ _ => True) (by rfl) R hd fun v σ' F' H' fr fp' L' g R' ow nd of => ?_
  obtain ⟨dq, _⟩ := ow.dat_inv rfl
  cases dq
  exact q H' fun b o h => g.keep b o h (fun m => nomatch m)
end
end K19c
set_option maxHeartbeats 4000000
namespace K19c
open PySem PySem.Spec PyProof.Rows L2 Mv NX CLX
theorem pss_weak {X : Cx} {ts : List Stmt} {t' : TS} (h : ∀ D σ H, t' D σ H → ∃ t, PSs X ts t ∧ t D σ H) : PSs X ts t' := ⟨fun pins s σ H D I q => let ⟨_, p, r⟩ := h D σ H q; p.run pins s σ H D I r⟩
theorem passes_callL {X : Cx} {W : WX} {E : XK} (tk : Takes X W) (hW : ∀ cls d (σ : L2.St) H, σ.length = X.N.length → E cls d H → W cls d σ H) : Passes (L2.CX X.prog X.w) X E :=
  fun _ σ _ _ e s' I c => tk e s' (XE.of_call I (fun cls d H' h => hW cls d σ H' I.len h) c)
theorem pe_no {X : Cx} {e : Expr} : PE X e (fun _ _ _ => False) := ⟨fun _ _ _ _ _ _ h => h.elim⟩
abbrev s__law_told : Stmt := K19.topS 39
theorem sc__law_told : FnScope ["_law_work", "_law_e", "_law_word"] ["_law_work"] (defScope s__law_told) := ⟨rfl, rfl, rfl, by decide +kernel, rfl, by decide +kernel, by decide +kernel⟩
structure TxtD (K : PySem.W.Frag) (mg : Str → Option Value) extends Txt K mg where
  C_DrainError : Addr
  g_DrainError : mg "DrainError" = some (.ref C_DrainError)
  hex : PySem.W.exmOne K (.ref C_BadEdition) (.ref C_DrainError) = some true
  a__law_told : Addr
  d__law_told : FuncData
  F__law_told : Fun K "_law_told" "_law_told" s__law_told a__law_told d__law_told
  b__law_told : Binds K d__law_told ["_law_work"] []
  m__law_told : mg "_law_told" = some (.ref a__law_told)
section
variable {P : Program} {w : World} {K : PySem.W.Frag} {mg : Str → Option Value} {base : Heap}
/-- what is told of an exception -/
def exTold (T : TxtD K mg) (Q : VK) : XK := fun cls d H => cls = .ref T.C_BadEdition ∧ d = none ∧ ∀ (H' : Hp) (p : Addr) (ob : Obj), (∀ b o, H b = some o → H' b = some o) → H' p = none → ob.dict = none → Q (.ref p) (upd H' p (.frz ob (.tup [.str "BadEdition", .int 0])))
/-- told: what the function comes to, or its error told -/
def spTold (P : Program) (w : World) (base : Heap) (T : TxtD K mg) (k : Nat) : Sp := fun vs H Q _ => ∃ f tl, vs = [.ref f] ∧ ClOk P w K mg base k f tl ∧ tl (exTold T Q) H Q
def tsT (T : TxtD K mg) : Addr → Value → Option Addr → TS := fun a cls d D σ H => σ[1]? = some (some (.ref a)) ∧ σ.length = 3 ∧ exTold T D.rt cls d H
theorem ok__law_told (T : TxtD K mg) {k k0 : Nat} (hk : k ≤ k0) (h5 : 5 ≤ k0) : FnOk P w K mg base CX0 (k0 + 1) T.a__law_told T.d__law_told ["_law_work"] (spTold P w base T k) := by
  refine T.F__law_told.ok sc__law_told (fun vs H Q E h => by obtain ⟨f, tl, rfl, _⟩ := h; rfl) (fun cdv A outer s H vs Q E hr h => ?_)
  obtain ⟨f, tl, rfl, ok, ht⟩ := h
  refine ⟨_, pss_one (ps_try_as (i := 1) (c := .ref T.C_DrainError) (Wout := fun _ _ _ _ => False) (ts := tsT T) (tb := fun W D σ H => ∃ Ech : XK, (∀ (cls : Value) (d : Option Addr) (σ' : L2.St) (H' : Hp), σ'.length = 3 → Ech cls d H' → W cls d σ' H') ∧ σ[0]? = some (some (.ref f)) ∧ σ.length = 3 ∧ tl Ech H D.rt)
      rfl rfl sc__law_told.nd rfl rfl ⟨rfl, by decide, .inl T.g_DrainError⟩ LamX.takes0 (fun W pn xe tk _ => ?_) (fun a oe cls d pn hz hf => ?_)), ?_⟩
  · refine pss_weak fun D σ H' h' => ?_
    obtain ⟨Ech, hW, h1, _, h2⟩ := h'
    exact ⟨_, pss_one (ps_ret (pe_clcall (k := k) (i := 0) (E := Ech) rfl (.inl rfl) (hr.mono hk) (passes_callL tk fun cls d σ H hl h => hW cls d σ H hl h))), f, tl, h1, ok, h2⟩
  · refine pss_weak fun D σ H' h' => ?_
    obtain ⟨h1, hl, rfl, rfl, q⟩ := h'
    have hrH : L2H.RoomH 5 (((cxOf CX0 P w K mg base ["_law_work", "_law_e", "_law_word"] "_law_told" (defScope s__law_told) T.a__law_told cdv A outer s H E).nox).suite a ((a, oe) :: pn)).A := ⟨(hr.mono h5).dp, (hr.mono h5).un⟩
    refine ⟨_, pss_cons (ps_set (i := 2) sc__law_told.nd rfl (Or.inl rfl) (pe_callW (p := (a, oe)) (E := fun _ _ _ => False) (ok__law_class (base := base) T.toTxt) hrH List.mem_cons_self rfl T.m__law_class T.F__law_class.kp T.b__law_class pass0 (pa_cons (pv 1) pa_nil)))
      (pss_one (ps_ret (pe_tupF (pa_cons (pv 2) (pa_cons (pe_ifExp (pt_cmpR op_eq (pv 2) pe_str (nomark _)) pe_no pe_int) pa_nil))))), ?_⟩
    refine ⟨.ref a, h1, rfl, hz, hf, fun H1 k1 => ?_⟩
    have h2 : (σ.set 2 (some (.str "BadEdition")))[2]? = some (some (V.str "BadEdition")) := by rw [List.getElem?_set_self (by omega)]
    refine ⟨.str "BadEdition", h2, .str "BadEdition", h2, ?_⟩
    refine ⟨rfl, _, rfl, ?_⟩
    exact ⟨by show 2 ≤ sizeLine; decide, fun p ob hp ho => q H1 p ob k1 hp ho⟩
  · refine ⟨exTold T Q, fun cls d σ' H' hl hx => ?_, rfl, rfl, ht⟩
    obtain ⟨rfl, rfl, q⟩ := hx
    refine ⟨true, T.hex, fun _ a _ => ⟨?_, ?_, rfl, rfl, q⟩, fun z => Bool.noConfusion z⟩
    · rw [List.getElem?_set_self (by omega)]
    · rw [List.length_set]; exact hl
end
end K19c
set_option maxHeartbeats 4000000
namespace K19c
open PySem PySem.Spec PyProof.Rows L2 Mv NX CLX
section
variable {P : Program} {w : World} {K : PySem.W.Frag} {mg : Str → Option Value} {base : Heap}
/-- a function without arguments that raises BadEdition, whatever else is there -/
def raisX (P : Program) (w : World) (base : Heap) (T : TxtD K mg) (k : Nat) : Xt where
  At := fun _ F H v fp => fp = [] ∧ ∃ f tl, v = .ref f ∧ ClOk P w K mg base k f tl ∧ ∀ H1 : Hp, (∀ b o, F b = some o → H1 b = some o) → ∀ (EX : XK) (Q : VK), (∀ H' : Hp, (∀ b o, H1 b = some o → H' b = some o) → EX (.ref T.C_BadEdition) none H') → tl EX H1 Q
  frame := fun kF sub h k => ⟨h.1, let ⟨f, tl, e, ok, q⟩ := h.2; ⟨f, tl, e, ok, fun H1 s => q H1 fun b o e => s b o (kF b o e)⟩⟩
  there := fun h a m => by rw [h.1] at m; cases m
def badE : PyData := .tuple [.str "BadEdition", .int 0]
open Classical in
/-- told(x), x such a function -/
noncomputable def eTold1 (x : Xt) (i : Nat) (E : En) : Option (S × En) := match dVar i E with
  | some r => match r.at E with
    | some (.ext y) => if y = x then some (.dat badE, E) else none
    | _ => none
  | none => none
theorem e_told1 (T : TxtD K mg) {k n i : Nat} {as : Ro} {EX : XK} (hi : i < n) : EvE K n as (tCall (spTold P w base T k) [] EX (tCons (tVar i) tNil)) (eTold1 (raisX P w base T k) i) := by
  intro F H σ E fp L R s0 E0 e Q q
  unfold eTold1 at e
  split at e
  · next r er =>
    split at e
    · next y ey =>
      split at e
      · next hy =>
        subst hy
        cases e
        refine p_var (K := K) (as := as) hi L R er (fun v F1 H1 fr g1 a1 nd of => ?_)
        obtain ⟨fq, ow⟩ := a1.own (R.grow g1) ey
        obtain ⟨rfl, f, tl, rfl, ok, ht⟩ := ow.ext_inv rfl
        show spTold P w base T k ([V.ref f] ++ []) H1 Q EX
        refine ⟨f, tl, rfl, ok, ht H1 g1.sub _ _ fun H2 k2 => ⟨rfl, rfl, fun H3 p ob k3 hp ho => ?_⟩⟩
        have up : ∀ b o, H1 b = some o → H3 b = some o := fun b o e => k3 b o (k2 b o e)
        have np : ∀ b o, H1 b = some o → b ≠ p := fun b o e z => by rw [z] at e; rw [up p o e] at hp; cases hp
        have g0 : Grow F1 H1 [] (upd F1 p (.frz ob (.tup [.str "BadEdition", .int 0]))) (upd H3 p (.frz ob (.tup [.str "BadEdition", .int 0]))) [] :=
          ⟨fun b o e => by rw [upd_ne (np b o (g1.sub b o e))]; exact e, fun b o e => by
            by_cases h : b = p
            · subst h; rw [upd_same] at e ⊢; exact e
            · rw [upd_ne h] at e ⊢; exact up b o (g1.sub b o e), fun b o e _ => by rw [upd_ne (np b o e)]; exact up b o e, (fun b m => nomatch m), fun b h0 _ fb => by
            have : b ≠ p := fun z => by
              cases q : H1 b with
              | none => exact h0 q
              | some o => exact np b o q z
            rw [upd_ne this]; exact fb⟩
        have gA : Grow F H [] _ _ [] := (g1.less (fr := []) (fun b m => nomatch m)).trans g0
        exact q (.ref p) _ _ [] fp (by simpa using gA.mine) (R.grow gA) (.dat (.tup (.inl ⟨ob, upd_same, ho⟩) (.cons (.str _) (.cons (.int _) .nil)))) (by simpa using R.nd) (fun _ m => nomatch m)
      · cases e
    · cases e
  · cases e
end
end K19c
set_option maxHeartbeats 4000000
namespace K19
open PySem PySem.Spec PyProof.Rows L2 Mv NX
def d_is_within : En → Option Out := (dRet (ePure (dAndV (dIsi .int (dVar 0)) (dAndV (dNotV (dIsi .bool (dVar 0))) (dChain fLe fLe (dVar 1) (dVar 0) (dVar 2))))))
def g_is_within : List S → Option (S × List S) := fnG 3 d_is_within
def d_is_house : En → Option Out := (dRet (eCall g_is_within (dCons (dVar 0) (dCons (dC (.int 0)) (dCons (dC (.int 19)) dNil)))))
def g_is_house : List S → Option (S × List S) := fnG 1 d_is_house
def d_is_owners : En → Option Out := (dRet (eAndV (ePure (dIsi .tuple (dVar 0))) (eAndV (ePure (dOp fEqS (dLen (dVar 0)) (dC (.int 12)))) (eCB1 fAll (eLc (iTupS (dVar 0)) 1 eYes (eCall g_is_house (dCons (dVar 1) dNil)))))))
def g_is_owners : List S → Option (S × List S) := fnG 2 d_is_owners
def d_is_edition : En → Option Out := (dSeq (dIf (ePureT (dOr (dNot (dTest (dIsi .tuple (dVar 0)))) (dTest (dOp fNeS (dLen (dVar 0)) (dC (.int 3)))))) (dRet (ePure (dC (.bool false)))) dNext)
    (dSeq (dAsg (bTup 3 (bCons (bName 1) (bCons (bName 2) (bCons (bName 3) bNil)))) (ePure (dVar 0)))
    (dSeq (dIf (eAnd (ePureT (dTest (dOp fNotN (dVar 2) (dC .none)))) (eNot (eTest (eCall g_is_within (dCons (dVar 2) (dCons (dC (.int 0)) (dCons (dC (.int 1000000)) dNil))))))) (dRet (ePure (dC (.bool false)))) dNext)
    (dRet (eAndV (eCall g_is_within (dCons (dVar 1) (dCons (dC (.int 1)) (dCons (dC (.int 1000000)) dNil)))) (eCall g_is_owners (dCons (dVar 3) dNil)))))))
def g_is_edition : List S → Option (S × List S) := fnG 4 d_is_edition
def d_check_edition : En → Option Out := (dIf (eNot (eTest (eCall g_is_edition (dCons (dVar 0) dNil)))) dNever dNext)
def g_check_edition : List S → Option (S × List S) := fnG 1 d_check_edition
def d_is_plain : En → Option Out := (dSeq (dIf (ePureT (dOr (dNot (dTest (dM0 fDig (dVar 0)))) (dTest (dOp fGt (dCB fLenS (dCons (dVar 0) dNil)) (dC (.int 7)))))) (dRet (ePure (dC (.bool false)))) dNext)
    (dRet (ePure (dOrV (dOp fEqS (dVar 0) (dC (.str "0"))) (dNotV (dM1 fStarts (dVar 0) (dC (.str "0"))))))))
def g_is_plain : List S → Option (S × List S) := fnG 1 d_is_plain
def d_written : En → Option Out := (dSeq (dDrop (eCall g_check_edition (dCons (dVar 0) dNil)))
    (dSeq (dAsg (bTup 3 (bCons (bName 1) (bCons (bName 2) (bCons (bName 3) bNil)))) (ePure (dVar 0)))
    (dSeq (dAlias 4 (dLst (dCons (dVar 1) (dCons (dIfE (dTest (dOp fIsN (dVar 2) (dC .none))) (dC (.str "-")) (dVar 2)) (dStarA (dVar 3) dNil)))))
    (dRet (eJoin (dC (.str " ")) (eLc (iLst (dVar 4)) 5 eYes (ePure (dCB fStr (dCons (dVar 5) dNil)))))))))
def g_written : List S → Option (S × List S) := fnG 6 d_written
def d_can_stand : En → Option Out := (dSeq (dIf (ePureT (dTest (dOp fEqS (dVar 0) (dC (.str "-"))))) (dRet (ePure (dOp fEqS (dVar 1) (dC (.int 1))))) dNext)
    (dRet (eAndV (eCall g_is_plain (dCons (dVar 0) dNil)) (eOrV (ePure (dOp fLt (dVar 1) (dC (.int 2)))) (eCall g_is_house (dCons (dCB fIntT (dCons (dVar 0) dNil)) dNil))))))
def g_can_stand : List S → Option (S × List S) := fnG 2 d_can_stand
def d_read : En → Option Out := (dSeq (dAlias 1 (dSplit (dVar 0) (dC (.str " "))))
    (dSeq (dFor (iRange (dC (.int 14))) (bName 2) (dIf (eOr (ePureT (dTest (dOp fEqS (dVar 2) (dLen (dVar 1))))) (eNot (eTest (eCall g_can_stand (dCons (dIxL (dVar 1) (dVar 2)) (dCons (dVar 2) dNil)))))) dNever dNext))
    (dSeq (dIf (ePureT (dTest (dOp fGt (dLen (dVar 1)) (dC (.int 14))))) dNever dNext)
    (dSeq (dStarS 2 (bCons (bName 3) (bCons (bName 4) (bCons (bName 5) bNil))) (eLc (iLst (dVar 1)) 7 eYes (ePure (dIfE (dTest (dOp fEqS (dVar 7) (dC (.str "-")))) (dC .none) (dCB fIntT (dCons (dVar 7) dNil))))))
    (dSeq (dAlias 6 (dTupL (dCons (dVar 3) (dCons (dVar 4) (dCons (dCS fTuple (dCons (dVar 5) dNil)) dNil)))))
    (dSeq (dDrop (eCall g_check_edition (dCons (dVar 6) dNil)))
    (dRet (eMove 6))))))))
def g_read : List S → Option (S × List S) := fnG 8 d_read
def d__law_begun : En → Option Out := (dSeq (dAlias 1 (dC (.int 0)))
    (dSeq (dFor (iLst (dVar 0)) (bName 2) (dAlias 1 (dOp fMod (dOp fAdd (dOp fAdd (dOp fMul (dVar 1) (dC (.int 48271))) (dOp fMul (dVar 2) (dC (.int 69621)))) (dC (.int 11))) (dC (.int 2147483647)))))
    (dRet (ePure (dLst (dCons (dCS fList (dCons (dVar 0) dNil)) (dCons (dOp fMul (dVar 1) (dCB fInt (dCons (dOp fGt (dLen (dVar 0)) (dC (.int 2))) dNil))) dNil)))))))
def g__law_begun : List S → Option (S × List S) := fnG 3 d__law_begun
def d__law_take : En → Option Out := (dSeq (dIf (ePureT (dTest (dOp fEqD (dIxL (dVar 0) (dC (.int 0))) (dLst dNil)))) (dSeq (dLSet (dVar 0) (dC (.int 1)) (ePure (dOp fMod (dOp fMul (dIxL (dVar 0) (dC (.int 1))) (dC (.int 48271))) (dC (.int 2147483647)))))
    (dRet (ePure (dOp fMod (dOp fDivW (dIxL (dVar 0) (dC (.int 1))) (dC (.int 7))) (dVar 1))))) dNext)
    (dSeq (dAlias 2 (dIxL (dIxL (dVar 0) (dC (.int 0))) (dC (.int 0))))
    (dSeq (dLSet (dIxL (dVar 0) (dC (.int 0))) (dC (.int 0)) (ePure (dOp fDivW (dVar 2) (dVar 1))))
    (dSeq (dIf (ePureT (dOr (dTest (dOp fEqS (dIxL (dIxL (dVar 0) (dC (.int 0))) (dC (.int 0))) (dC (.int 0)))) (dTest (dOp fEqS (dIxL (dIxL (dVar 0) (dC (.int 0))) (dC (.int 0))) (dNeg (dC (.int 1))))))) (dDrop (eBM1 oPopAt (dIxL (dVar 0) (dC (.int 0))) (dC (.int 0)))) dNext)
    (dRet (ePure (dOp fMod (dVar 2) (dVar 1))))))))
def g__law_take : List S → Option (S × List S) := fnG 3 d__law_take
def f__law_alike (g : List S → Option (S × List S)) : En → Option Out := (dSeq (dIf (ePureT (dTest (dOp fIsN (dVar 1) (dC .none)))) (dRet (ePure (dOp fIsN (dVar 0) (dC .none)))) dNext)
    (dSeq (dIf (ePureT (dTest (dIsi .bool (dVar 1)))) (dRet (ePure (dAndV (dIsi .bool (dVar 0)) (dOp fEqD (dVar 0) (dVar 1))))) dNext)
    (dSeq (dIf (ePureT (dTest (dIsi .int (dVar 1)))) (dRet (ePure (dAndV (dIsi .int (dVar 0)) (dAndV (dNotV (dIsi .bool (dVar 0))) (dOp fEqD (dVar 0) (dVar 1)))))) dNext)
    (dSeq (dIf (ePureT (dTest (dIsi .str (dVar 1)))) (dRet (ePure (dAndV (dIsi .str (dVar 0)) (dOp fEqD (dVar 0) (dVar 1))))) dNext)
    (dSeq (dIf (ePureT (dOr (dTest (dOp fNeS (dIsi .tuple (dVar 1)) (dIsi .tuple (dVar 0)))) (dTest (dOp fNeS (dIsi .list (dVar 1)) (dIsi .list (dVar 0)))))) (dRet (ePure (dC (.bool false)))) dNext)
    (dSeq (dIf (ePureT (dTest (dOp fNeS (dLen (dVar 0)) (dLen (dVar 1))))) (dRet (ePure (dC (.bool false)))) dNext)
    (dSeq (dFor (iRange (dLen (dVar 1))) (bName 2) (dIf (eNot (eTest (eCall g (dCons (dIxA (dVar 0) (dVar 2)) (dCons (dIxA (dVar 1) (dVar 2)) dNil))))) (dRet (ePure (dC (.bool false)))) dNext))
    (dRet (ePure (dC (.bool true)))))))))))
def g__law_alike : Nat → List S → Option (S × List S)
  | 0 => gNone
  | k + 1 => fnG 3 (f__law_alike (g__law_alike k))
end K19
set_option maxHeartbeats 4000000
namespace K19
open PySem PySem.Spec PyProof.Rows L2 Mv NX
section
variable {P : Program} {w : World} {K : PySem.W.Frag} {mg : Str → Option Value} {base : Heap}
theorem ok_is_within (T : Txt K mg) : FnOk P w K mg base CX0 1 T.a_is_within T.d_is_within ["value", "least", "most"] (spMv K 3 g_is_within) := by
  refine fn_mv T.F_is_within sc_is_within (fun cdv A outer s H E as hr => ?_)
  exact ⟨_, (pss_one (ps_ret (pe_and (pe_callB (r := rIsi K) call_isi (by rfl) T.n_isinstance (by decide +kernel) (pa_cons (pv 0) (pa_cons (pe_bltn (v := .ty "int") (u := .type "int") (by rfl) T.n_int (by decide +kernel) rfl) pa_nil))) (pe_and (pe_not (pe_callB (r := rIsi K) call_isi (by rfl) T.n_isinstance (by decide +kernel) (pa_cons (pv 0) (pa_cons (pe_bltn (v := .ty "bool") (u := .type "bool") (by rfl) T.n_bool (by decide +kernel) rfl) pa_nil)))) (pe_one (pe_chain op_le op_le (pv 1) (pv 0) (pv 2))))))),
    fun W => (s_ret (e_pure (p_andV (p_isi (T := .int) (p_var (i := 0) (by decide))) (p_andV (p_notV (p_isi (T := .bool) (p_var (i := 0) (by decide)))) (p_chain rv_le rv_le (p_var (i := 1) (by decide)) (p_var (i := 0) (by decide)) (p_var (i := 2) (by decide)))))))⟩
theorem ok_is_house (T : Txt K mg) : FnOk P w K mg base CX0 2 T.a_is_house T.d_is_house ["value"] (spMv K 1 g_is_house) := by
  refine fn_mv T.F_is_house sc_is_house (fun cdv A outer s H E as hr => ?_)
  exact ⟨_, (pss_one (ps_ret (pe_call (ok_is_within T) (hr.mono (by decide)) rfl T.m_is_within T.F_is_within.kp T.b_is_within .nil pass0 (pa_cons (pv 0) (pa_cons pe_int (pa_cons (pe_glob (v := .int (19)) rfl T.c_LAST_NAME ⟨_, rfl⟩) pa_nil)))))),
    fun W => (s_ret (e_call (p_cons (p_var (i := 0) (by decide)) (p_cons (p_c (d := .int 0)) (p_cons (p_c (d := .int 19)) p_nil))) (dl_cons (dl_cons (dl_cons dl_nil)))))⟩
theorem ok_is_owners (T : Txt K mg) : FnOk P w K mg base CX0 3 T.a_is_owners T.d_is_owners ["value"] (spMv K 1 g_is_owners) := by
  refine fn_mv T.F_is_owners sc_is_owners (fun cdv A outer s H E as hr => ?_)
  exact ⟨_, (pss_one (ps_ret (pe_and (pe_callB (r := rIsi K) call_isi (by rfl) T.n_isinstance (by decide +kernel) (pa_cons (pv 0) (pa_cons (pe_bltn (v := .ty "tuple") (u := .type "tuple") (by rfl) T.n_tuple (by decide +kernel) rfl) pa_nil))) (pe_and (pe_cmpR op_eq (pe_callB (r := rLenK K) call_lenK (by rfl) T.n_len PySem.boot_len (pa_cons (pv 0) pa_nil)) (pe_glob (v := .int (12)) rfl T.c_SLOTS ⟨_, rfl⟩) (nomark _)) (pe_one (pe_callB (r := rAll K) (cr_all rfl) (by rfl) T.n_all (by decide +kernel) (pa_cons (pe_lc (own := [("owner", 1)]) rfl sc_is_owners.nd (pi_tup (pv 0)) (blkOk_by (N := ["value", "owner"]) (sc := defScope s_is_owners) (by decide +kernel)) (fun _ _ _ _ _ => pg_name (i := 1) sc_is_owners.nd rfl (Or.inl rfl)) (fun _ _ _ _ _ => pts_nil) (fun _ _ _ _ _ => (pe_call (ok_is_house T) (hr.mono (by decide)) rfl T.m_is_house T.F_is_house.kp T.b_is_house .nil pass0 (pa_cons (pv 1) pa_nil)))) pa_nil))))))),
    fun W => (s_ret (e_andV (e_pure (p_isi (T := .tuple) (p_var (i := 0) (by decide)))) (e_andV (e_pure (p_op rv_eq (p_len (p_var (i := 0) (by decide))) (p_c (d := .int 12)))) (e_cb1 rc_all (e_lc (by decide) (i_tup (p_var (i := 0) (by decide))) (fun _ => e_yes) (fun _ => (e_call (p_cons (p_var (i := 1) (by decide)) p_nil) (dl_cons dl_nil))))))))⟩
theorem ok_is_edition (T : Txt K mg) : FnOk P w K mg base CX0 4 T.a_is_edition T.d_is_edition ["value"] (spMv K 1 g_is_edition) := by
  refine fn_mv T.F_is_edition sc_is_edition (fun cdv A outer s H E as hr => ?_)
  exact ⟨_, (pss_cons (ps_if (PW.pt (pw_or (pt_not (pt_val (pe_callB (r := rIsi K) call_isi (by rfl) T.n_isinstance (by decide +kernel) (pa_cons (pv 0) (pa_cons (pe_bltn (v := .ty "tuple") (u := .type "tuple") (by rfl) T.n_tuple (by decide +kernel) rfl) pa_nil))))) (pw_or1 (pt_cmpR op_ne (pe_callB (r := rLenK K) call_lenK (by rfl) T.n_len PySem.boot_len (pa_cons (pv 0) pa_nil)) pe_int (nomark _))))) (pss_one (ps_ret pe_bl)) pss_nil)
    (pss_cons (ps_asg (pv 0) (pg_tup rfl (pgs_cons (pg_name (i := 1) sc_is_edition.nd rfl (Or.inl rfl)) (pgs_cons (pg_name (i := 2) sc_is_edition.nd rfl (Or.inl rfl)) (pgs_cons (pg_name (i := 3) sc_is_edition.nd rfl (Or.inl rfl)) pgs_nil)))))
    (pss_cons (ps_if (PW.pt (pw_and (pt_cmpR op_notN (pv 2) pe_non (nomark _)) (pw_and1 (pt_not (pt_val (pe_call (ok_is_within T) (hr.mono (by decide)) rfl T.m_is_within T.F_is_within.kp T.b_is_within .nil pass0 (pa_cons (pv 2) (pa_cons pe_int (pa_cons (pe_glob (v := .int (1000000)) rfl T.c_LAST_NUMBER ⟨_, rfl⟩) pa_nil))))))))) (pss_one (ps_ret pe_bl)) pss_nil)
    (pss_one (ps_ret (pe_and (pe_call (ok_is_within T) (hr.mono (by decide)) rfl T.m_is_within T.F_is_within.kp T.b_is_within .nil pass0 (pa_cons (pv 1) (pa_cons pe_int (pa_cons (pe_glob (v := .int (1000000)) rfl T.c_LAST_NUMBER ⟨_, rfl⟩) pa_nil)))) (pe_one (pe_call (ok_is_owners T) (hr.mono (by decide)) rfl T.m_is_owners T.F_is_owners.kp T.b_is_owners .nil pass0 (pa_cons (pv 3) pa_nil))))))))),
    fun W => (s_seq (s_if (e_pureT (p_or (p_not (p_tB (p_isi (T := .tuple) (p_var (i := 0) (by decide))))) (p_test (p_op rv_ne (p_len (p_var (i := 0) (by decide))) (p_c (d := .int 3)))))) (s_ret (e_pure (p_c (d := .bool false)))) s_next)
    (s_seq (s_asg (g_tup (gs_cons (g_name (i := 1) (by decide)) (gs_cons (g_name (i := 2) (by decide)) (gs_cons (g_name (i := 3) (by decide)) gs_nil)))) (e_pure (p_var (i := 0) (by decide))))
    (s_seq (s_if (e_and (e_pureT (p_test (p_op rv_notN (p_var (i := 2) (by decide)) (p_c (d := .none))))) (e_not (e_tB (e_call (p_cons (p_var (i := 2) (by decide)) (p_cons (p_c (d := .int 0)) (p_cons (p_c (d := .int 1000000)) p_nil))) (dl_cons (dl_cons (dl_cons dl_nil))))))) (s_ret (e_pure (p_c (d := .bool false)))) s_next)
    (s_ret (e_andV (e_call (p_cons (p_var (i := 1) (by decide)) (p_cons (p_c (d := .int 1)) (p_cons (p_c (d := .int 1000000)) p_nil))) (dl_cons (dl_cons (dl_cons dl_nil)))) (e_call (p_cons (p_var (i := 3) (by decide)) p_nil) (dl_cons dl_nil)))))))⟩
theorem ok_check_edition (T : Txt K mg) : FnOk P w K mg base CX0 5 T.a_check_edition T.d_check_edition ["edition"] (spMv K 1 g_check_edition) := by
  refine fn_mv T.F_check_edition sc_check_edition (fun cdv A outer s H E as hr => ?_)
  exact ⟨_, (pss_one (ps_if (pt_not (pt_val (pe_call (ok_is_edition T) (hr.mono (by decide)) rfl T.m_is_edition T.F_is_edition.kp T.b_is_edition .nil pass0 (pa_cons (pv 0) pa_nil)))) (pss_one ps_never) pss_nil)),
    fun W => (s_if (e_not (e_tB (e_call (p_cons (p_var (i := 0) (by decide)) p_nil) (dl_cons dl_nil)))) s_never s_next)⟩
theorem ok_is_plain (T : Txt K mg) : FnOk P w K mg base CX0 1 T.a_is_plain T.d_is_plain ["word"] (spMv K 1 g_is_plain) := by
  refine fn_mv T.F_is_plain sc_is_plain (fun cdv A outer s H E as hr => ?_)
  exact ⟨_, (pss_cons (ps_if (PW.pt (pw_or (pt_not (pt_val (pe_m0 PySem.F.slot_str_isdigit PySem.F.type_str_isdigit mt_isdigit (pv 0)))) (pw_or1 (pt_cmpR op_gt (pe_callB call_len_str (by rfl) T.n_len PySem.boot_len (pa_cons (pv 0) pa_nil)) (pe_glob (v := .int (7)) rfl T.c_MOST_FIGURES ⟨_, rfl⟩) (nomark _))))) (pss_one (ps_ret pe_bl)) pss_nil)
    (pss_one (ps_ret (pe_or (pe_cmpR op_eq (pv 0) pe_str (nomark _)) (pe_one (pe_not (pe_m1 PySem.F.slot_str_startswith PySem.F.type_str_startswith mt_startswith (pv 0) pe_str))))))),
    fun W => (s_seq (s_if (e_pureT (p_or (p_not (p_tB (p_isdigit (p_var (i := 0) (by decide))))) (p_test (p_op rv_gt (p_cb rc_lenS (p_cons (p_var (i := 0) (by decide)) p_nil)) (p_c (d := .int 7)))))) (s_ret (e_pure (p_c (d := .bool false)))) s_next)
    (s_ret (e_pure (p_orV (p_op rv_eq (p_var (i := 0) (by decide)) (p_c (d := .str "0"))) (p_notV (p_startswith (p_var (i := 0) (by decide)) (p_c (d := .str "0"))))))))⟩
theorem ok_written (T : Txt K mg) : FnOk P w K mg base CX0 6 T.a_written T.d_written ["edition"] (spMv K 1 g_written) := by
  refine fn_mv T.F_written sc_written (fun cdv A outer s H E as hr => ?_)
  exact ⟨_, (pss_cons (ps_expr (pe_call (ok_check_edition T) (hr.mono (by decide)) rfl T.m_check_edition T.F_check_edition.kp T.b_check_edition .nil pass0 (pa_cons (pv 0) pa_nil)))
    (pss_cons (ps_asg (pv 0) (pg_tup rfl (pgs_cons (pg_name (i := 1) sc_written.nd rfl (Or.inl rfl)) (pgs_cons (pg_name (i := 2) sc_written.nd rfl (Or.inl rfl)) (pgs_cons (pg_name (i := 3) sc_written.nd rfl (Or.inl rfl)) pgs_nil)))))
    (pss_cons (ps_set (i := 4) sc_written.nd rfl (Or.inl rfl) (pe_lst (pa_cons (pv 1) (pa_cons (pe_ifExp (pt_cmpR op_isN (pv 2) pe_non (nomark _)) (pe_glob (v := .str "-") rfl T.c_NO_MAKE ⟨_, rfl⟩) (pv 2)) (StX.pa_star (pv 3) pa_nil)))))
    (pss_one (ps_ret (pe_K (t := fun K => tM1 (rJoinK K) _ _) (pe_join pe_str (pe_lc (own := [("word", 5)]) rfl sc_written.nd (pi_list (pv 4)) (blkOk_by (N := ["edition", "number", "make", "owners", "words", "word"]) (sc := defScope s_written) (by decide +kernel)) (fun _ _ _ _ _ => pg_name (i := 5) sc_written.nd rfl (Or.inl rfl)) (fun _ _ _ _ _ => pts_nil) (fun _ _ _ _ _ => (pe_callTy call_str (by rfl) T.n_str (by decide +kernel) (pa_cons (pv 5) pa_nil))))))))))),
    fun W => (s_seq (s_drop (e_call (p_cons (p_var (i := 0) (by decide)) p_nil) (dl_cons dl_nil)))
    (s_seq (s_asg (g_tup (gs_cons (g_name (i := 1) (by decide)) (gs_cons (g_name (i := 2) (by decide)) (gs_cons (g_name (i := 3) (by decide)) gs_nil)))) (e_pure (p_var (i := 0) (by decide))))
    (s_seq (s_alias (by decide) (p_lst (p_cons (p_var (i := 1) (by decide)) (p_cons (p_ifE (p_test (p_op rv_isN (p_var (i := 2) (by decide)) (p_c (d := .none)))) (p_c (d := .str "-")) (p_var (i := 2) (by decide))) (p_star1 (p_var (i := 3) (by decide)) p_nil)))))
    (s_ret (e_join (p_c (d := .str " ")) (e_lc (by decide) (i_lst (p_var (i := 4) (by decide))) (fun _ => e_yes) (fun _ => (e_pure (p_cb rc_str (p_cons (p_var (i := 5) (by decide)) p_nil))))))))))⟩
theorem ok_can_stand (T : Txt K mg) : FnOk P w K mg base CX0 3 T.a_can_stand T.d_can_stand ["word", "place"] (spMv K 2 g_can_stand) := by
  refine fn_mv T.F_can_stand sc_can_stand (fun cdv A outer s H E as hr => ?_)
  exact ⟨_, (pss_cons (ps_if (pt_cmpR op_eq (pv 0) (pe_glob (v := .str "-") rfl T.c_NO_MAKE ⟨_, rfl⟩) (nomark _)) (pss_one (ps_ret (pe_cmpR op_eq (pv 1) (pe_glob (v := .int (1)) rfl T.c_MAKE_PLACE ⟨_, rfl⟩) (nomark _)))) pss_nil)
    (pss_one (ps_ret (pe_and (pe_call (ok_is_plain T) (hr.mono (by decide)) rfl T.m_is_plain T.F_is_plain.kp T.b_is_plain .nil pass0 (pa_cons (pv 0) pa_nil)) (pe_one (pe_or (pe_cmpR op_lt (pv 1) (pe_glob (v := .int (2)) rfl T.c_FIRST_OWNER ⟨_, rfl⟩) (nomark _)) (pe_one (pe_call (ok_is_house T) (hr.mono (by decide)) rfl T.m_is_house T.F_is_house.kp T.b_is_house .nil pass0 (pa_cons (pe_callTy call_int_str (by rfl) T.n_int (by decide +kernel) (pa_cons (pv 0) pa_nil)) pa_nil))))))))),
    fun W => (s_seq (s_if (e_pureT (p_test (p_op rv_eq (p_var (i := 0) (by decide)) (p_c (d := .str "-"))))) (s_ret (e_pure (p_op rv_eq (p_var (i := 1) (by decide)) (p_c (d := .int 1))))) s_next)
    (s_ret (e_andV (e_call (p_cons (p_var (i := 0) (by decide)) p_nil) (dl_cons dl_nil)) (e_orV (e_pure (p_op rv_lt (p_var (i := 1) (by decide)) (p_c (d := .int 2)))) (e_call (p_cons (p_cb rc_intT (p_cons (p_var (i := 0) (by decide)) p_nil)) p_nil) (dl_cons dl_nil))))))⟩
theorem ok_read (T : Txt K mg) : FnOk P w K mg base CX0 6 T.a_read T.d_read ["text"] (spMv K 1 g_read) := by
  refine fn_mv T.F_read sc_read (fun cdv A outer s H E as hr => ?_)
  exact ⟨_, (pss_cons (ps_set (i := 1) sc_read.nd rfl (Or.inl rfl) (pe_split (pv 0) pe_str))
    (pss_cons (ps_for PassesOwn.never rfl (pi_range1 (by rfl) T.n_range (pa_cons (pe_glob (v := .int (14)) rfl T.c_WORDS ⟨_, rfl⟩) pa_nil)) (pg_name (i := 2) sc_read.nd rfl (Or.inl rfl)) (pss_one (ps_if (PW.pt (pw_or (pt_cmpR op_eq (pv 2) (pe_callB (r := rLenK K) call_lenK (by rfl) T.n_len PySem.boot_len (pa_cons (pv 1) pa_nil)) (nomark _)) (pw_or1 (pt_not (pt_val (pe_call (ok_can_stand T) (hr.mono (by decide)) rfl T.m_can_stand T.F_can_stand.kp T.b_can_stand .nil pass0 (pa_cons (pe_ix (r := rIxL K) ix_list (pv 1) (pv 2) (fun _ _ => rfl)) (pa_cons (pv 2) pa_nil)))))))) (pss_one ps_never) pss_nil)))
    (pss_cons (ps_if (pt_cmpR op_gt (pe_callB (r := rLenK K) call_lenK (by rfl) T.n_len PySem.boot_len (pa_cons (pv 1) pa_nil)) (pe_glob (v := .int (14)) rfl T.c_WORDS ⟨_, rfl⟩) (nomark _)) (pss_one ps_never) pss_nil)
    (pss_cons (ps_asg (pe_lc (own := [("word", 7)]) rfl sc_read.nd (pi_list (pv 1)) (blkOk_by (N := ["text", "words", "place", "number", "make", "owners", "edition", "word"]) (sc := defScope s_read) (by decide +kernel)) (fun _ _ _ _ _ => pg_name (i := 7) sc_read.nd rfl (Or.inl rfl)) (fun _ _ _ _ _ => pts_nil) (fun _ _ _ _ _ => (pe_ifExp (pt_cmpR op_eq (pv 7) (pe_glob (v := .str "-") rfl T.c_NO_MAKE ⟨_, rfl⟩) (nomark _)) pe_non (pe_callTy call_int_str (by rfl) T.n_int (by decide +kernel) (pa_cons (pv 7) pa_nil))))) (NX.pg_star (n := 2) rfl (pgs_cons (pg_name (i := 3) sc_read.nd rfl (Or.inl rfl)) (pgs_cons (pg_name (i := 4) sc_read.nd rfl (Or.inl rfl)) (NX.pgs_star (pg_name (i := 5) sc_read.nd rfl (Or.inl rfl)) pgs_nil)))))
    (pss_cons (ps_set (i := 6) sc_read.nd rfl (Or.inl rfl) (pe_tupF (pa_cons (pv 3) (pa_cons (pv 4) (pa_cons (pe_callTy (r := rTupQ K) cr_tupQ (by rfl) T.n_tuple (by decide +kernel) (pa_cons (pv 5) pa_nil)) pa_nil)))))
    (pss_cons (ps_expr (pe_call (ok_check_edition T) (hr.mono (by decide)) rfl T.m_check_edition T.F_check_edition.kp T.b_check_edition .nil pass0 (pa_cons (pv 6) pa_nil)))
    (pss_one (ps_ret (pv 6))))))))),
    fun W => (s_seq (s_alias (by decide) (p_split (p_var (i := 0) (by decide)) (p_c (d := .str " "))))
    (s_seq (s_for (i_range (p_c (d := .int 14))) (g_name (i := 2) (by decide)) (fun _ => (s_if (e_or (e_pureT (p_test (p_op rv_eq (p_var (i := 2) (by decide)) (p_len (p_var (i := 1) (by decide)))))) (e_not (e_tB (e_call (p_cons (p_ixL (p_var (i := 1) (by decide)) (p_var (i := 2) (by decide))) (p_cons (p_var (i := 2) (by decide)) p_nil)) (dl_cons (dl_cons dl_nil)))))) s_never s_next)))
    (s_seq (s_if (e_pureT (p_test (p_op rv_gt (p_len (p_var (i := 1) (by decide))) (p_c (d := .int 14))))) s_never s_next)
    (s_seq (s_star (k := 2) (gs_cons (g_name (by decide)) (gs_cons (g_name (by decide)) (gs_cons (g_name (by decide)) gs_nil))) (e_lc (by decide) (i_lst (p_var (i := 1) (by decide))) (fun _ => e_yes) (fun _ => (e_pure (p_ifE (p_test (p_op rv_eq (p_var (i := 7) (by decide)) (p_c (d := .str "-")))) (p_c (d := .none)) (p_cb rc_intT (p_cons (p_var (i := 7) (by decide)) p_nil)))))))
    (s_seq (s_alias (by decide) (p_tup (p_cons (p_var (i := 3) (by decide)) (p_cons (p_var (i := 4) (by decide)) (p_cons (p_cs rc_tuple (p_cons (p_var (i := 5) (by decide)) p_nil)) p_nil)))))
    (s_seq (s_drop (e_call (p_cons (p_var (i := 6) (by decide)) p_nil) (dl_cons dl_nil)))
    (s_ret (e_move (i := 6) (by decide)))))))))⟩
theorem ok__law_begun (T : Txt K mg) : FnOk P w K mg base CX0 1 T.a__law_begun T.d__law_begun ["_law_script"] (spMv K 1 g__law_begun) := by
  refine fn_mv T.F__law_begun sc__law_begun (fun cdv A outer s H E as hr => ?_)
  exact ⟨_, (pss_cons (ps_set (i := 1) sc__law_begun.nd rfl (Or.inl rfl) pe_int)
    (pss_cons (ps_for PassesOwn.never rfl (pi_list (pv 0)) (pg_name (i := 2) sc__law_begun.nd rfl (Or.inl rfl)) (pss_one (ps_set (i := 1) sc__law_begun.nd rfl (Or.inl rfl) (pe_op op_mod (pe_op op_add (pe_op op_add (pe_op op_mul (pv 1) pe_int) (pe_op op_mul (pv 2) pe_int)) pe_int) pe_int))))
    (pss_one (ps_ret (pe_lst (pa_cons (pe_callTy (r := rListOfK K) call_listK (by rfl) T.n_list (by decide +kernel) (pa_cons (pv 0) pa_nil)) (pa_cons (pe_op op_mul (pv 1) (pe_callTy call_int1 (by rfl) T.n_int (by decide +kernel) (pa_cons (pe_cmpR op_gt (pe_callB (r := rLenK K) call_lenK (by rfl) T.n_len PySem.boot_len (pa_cons (pv 0) pa_nil)) pe_int (nomark _)) pa_nil))) pa_nil))))))),
    fun W => (s_seq (s_alias (by decide) (p_c (d := .int 0)))
    (s_seq (s_for (i_lst (p_var (i := 0) (by decide))) (g_name (i := 2) (by decide)) (fun _ => (s_alias (by decide) (p_op rv_mod (p_op rv_add (p_op rv_add (p_op rv_mul (p_var (i := 1) (by decide)) (p_c (d := .int 48271))) (p_op rv_mul (p_var (i := 2) (by decide)) (p_c (d := .int 69621)))) (p_c (d := .int 11))) (p_c (d := .int 2147483647))))))
    (s_ret (e_pure (p_lst (p_cons (p_cs rc_list (p_cons (p_var (i := 0) (by decide)) p_nil)) (p_cons (p_op rv_mul (p_var (i := 1) (by decide)) (p_cb rc_int (p_cons (p_op rv_gt (p_len (p_var (i := 0) (by decide))) (p_c (d := .int 2))) p_nil))) p_nil)))))))⟩
theorem ok__law_take (T : Txt K mg) : FnOk P w K mg base CX0 1 T.a__law_take T.d__law_take ["_law_box", "_law_many"] (spMv K 2 g__law_take) := by
  refine fn_mv T.F__law_take sc__law_take (fun cdv A outer s H E as hr => ?_)
  exact ⟨_, (pss_cons (ps_if (pt_cmpR (r := rEqD K) (op_eqD hr.units) (pe_ix (r := rIxL K) ix_list (pv 0) pe_int (fun _ _ => rfl)) (pe_lst pa_nil) (nomark _)) (pss_cons (ps_asg (pe_op op_mod (pe_op op_mul (pe_ix (r := rIxL K) ix_list (pv 0) pe_int (fun _ _ => rfl)) pe_int) pe_int) (pg_sub (pv 0) pe_int set_list))
    (pss_one (ps_ret (pe_op op_mod (pe_op op_fdivW (pe_ix (r := rIxL K) ix_list (pv 0) pe_int (fun _ _ => rfl)) pe_int) (pv 1))))) pss_nil)
    (pss_cons (ps_set (i := 2) sc__law_take.nd rfl (Or.inl rfl) (pe_ix (r := rIxL K) ix_list (pe_ix (r := rIxL K) ix_list (pv 0) pe_int (fun _ _ => rfl)) pe_int (fun _ _ => rfl)))
    (pss_cons (ps_asg (pe_op op_fdivW (pv 2) (pv 1)) (pg_sub (pe_ix (r := rIxL K) ix_list (pv 0) pe_int (fun _ _ => rfl)) pe_int set_list))
    (pss_cons (ps_if (PW.pt (pw_or (pt_cmpR op_eq (pe_ix (r := rIxL K) ix_list (pe_ix (r := rIxL K) ix_list (pv 0) pe_int (fun _ _ => rfl)) pe_int (fun _ _ => rfl)) pe_int (nomark _)) (pw_or1 (pt_cmpR op_eq (pe_ix (r := rIxL K) ix_list (pe_ix (r := rIxL K) ix_list (pv 0) pe_int (fun _ _ => rfl)) pe_int (fun _ _ => rfl)) (pe_un un_neg pe_int) (nomark _))))) (pss_one (ps_expr (pe_K (t := fun K => tBM K "list" rPopAt _ _) (pe_bm PySem.F.plainAttrs_list PySem.F.slot_list_pop PySem.F.type_list_pop mt_popAt (pe_ix (r := rIxL K) ix_list (pv 0) pe_int (fun _ _ => rfl)) (pa_cons pe_int pa_nil))))) pss_nil)
    (pss_one (ps_ret (pe_op op_mod (pv 2) (pv 1)))))))),
    fun W => (s_seq (s_if (e_pureT (p_test (p_op rv_eqD (p_ixL (p_var (i := 0) (by decide)) (p_c (d := .int 0))) (p_lst p_nil)))) (s_seq (s_lset (p_var (i := 0) (by decide)) (p_c (d := .int 1)) (e_pure (p_op rv_mod (p_op rv_mul (p_ixL (p_var (i := 0) (by decide)) (p_c (d := .int 1))) (p_c (d := .int 48271))) (p_c (d := .int 2147483647)))))
    (s_ret (e_pure (p_op rv_mod (p_op rv_divW (p_ixL (p_var (i := 0) (by decide)) (p_c (d := .int 1))) (p_c (d := .int 7))) (p_var (i := 1) (by decide)))))) s_next)
    (s_seq (s_alias (by decide) (p_ixL (p_ixL (p_var (i := 0) (by decide)) (p_c (d := .int 0))) (p_c (d := .int 0))))
    (s_seq (s_lset (p_ixL (p_var (i := 0) (by decide)) (p_c (d := .int 0))) (p_c (d := .int 0)) (e_pure (p_op rv_divW (p_var (i := 2) (by decide)) (p_var (i := 1) (by decide)))))
    (s_seq (s_if (e_pureT (p_or (p_test (p_op rv_eq (p_ixL (p_ixL (p_var (i := 0) (by decide)) (p_c (d := .int 0))) (p_c (d := .int 0))) (p_c (d := .int 0)))) (p_test (p_op rv_eq (p_ixL (p_ixL (p_var (i := 0) (by decide)) (p_c (d := .int 0))) (p_c (d := .int 0))) (p_neg (p_c (d := .int 1))))))) (s_drop (e_bm1 nd_popAt (p_ixL (p_var (i := 0) (by decide)) (p_c (d := .int 0))) (p_c (d := .int 0)))) s_next)
    (s_ret (e_pure (p_op rv_mod (p_var (i := 2) (by decide)) (p_var (i := 1) (by decide)))))))))⟩
theorem step__law_alike (T : Txt K mg) {g : List S → Option (S × List S)} {k : Nat} (G : FnOk P w K mg base CX0 k T.a__law_alike T.d__law_alike ["_law_found", "_law_due"] (spMv K 2 g)) : FnOk P w K mg base CX0 (k + 1) T.a__law_alike T.d__law_alike ["_law_found", "_law_due"] (spMv K 2 (fnG 3 (f__law_alike g))) := by
  refine fn_mv T.F__law_alike sc__law_alike (fun cdv A outer s H E as hr => ?_)
  exact ⟨_, (pss_cons (ps_if (pt_cmpR op_isN (pv 1) pe_non (nomark _)) (pss_one (ps_ret (pe_cmpR op_isN (pv 0) pe_non (nomark _)))) pss_nil)
    (pss_cons (ps_if (pt_val (pe_callB (r := rIsi K) call_isi (by rfl) T.n_isinstance (by decide +kernel) (pa_cons (pv 1) (pa_cons (pe_bltn (v := .ty "bool") (u := .type "bool") (by rfl) T.n_bool (by decide +kernel) rfl) pa_nil)))) (pss_one (ps_ret (pe_and (pe_callB (r := rIsi K) call_isi (by rfl) T.n_isinstance (by decide +kernel) (pa_cons (pv 0) (pa_cons (pe_bltn (v := .ty "bool") (u := .type "bool") (by rfl) T.n_bool (by decide +kernel) rfl) pa_nil))) (pe_one (pe_cmpR (r := rEqD K) (op_eqD hr.units) (pv 0) (pv 1) (nomark _)))))) pss_nil)
    (pss_cons (ps_if (pt_val (pe_callB (r := rIsi K) call_isi (by rfl) T.n_isinstance (by decide +kernel) (pa_cons (pv 1) (pa_cons (pe_bltn (v := .ty "int") (u := .type "int") (by rfl) T.n_int (by decide +kernel) rfl) pa_nil)))) (pss_one (ps_ret (pe_and (pe_callB (r := rIsi K) call_isi (by rfl) T.n_isinstance (by decide +kernel) (pa_cons (pv 0) (pa_cons (pe_bltn (v := .ty "int") (u := .type "int") (by rfl) T.n_int (by decide +kernel) rfl) pa_nil))) (pe_and (pe_not (pe_callB (r := rIsi K) call_isi (by rfl) T.n_isinstance (by decide +kernel) (pa_cons (pv 0) (pa_cons (pe_bltn (v := .ty "bool") (u := .type "bool") (by rfl) T.n_bool (by decide +kernel) rfl) pa_nil)))) (pe_one (pe_cmpR (r := rEqD K) (op_eqD hr.units) (pv 0) (pv 1) (nomark _))))))) pss_nil)
    (pss_cons (ps_if (pt_val (pe_callB (r := rIsi K) call_isi (by rfl) T.n_isinstance (by decide +kernel) (pa_cons (pv 1) (pa_cons (pe_bltn (v := .ty "str") (u := .type "str") (by rfl) T.n_str (by decide +kernel) rfl) pa_nil)))) (pss_one (ps_ret (pe_and (pe_callB (r := rIsi K) call_isi (by rfl) T.n_isinstance (by decide +kernel) (pa_cons (pv 0) (pa_cons (pe_bltn (v := .ty "str") (u := .type "str") (by rfl) T.n_str (by decide +kernel) rfl) pa_nil))) (pe_one (pe_cmpR (r := rEqD K) (op_eqD hr.units) (pv 0) (pv 1) (nomark _)))))) pss_nil)
    (pss_cons (ps_if (PW.pt (pw_or (pt_cmpR op_ne (pe_callB (r := rIsi K) call_isi (by rfl) T.n_isinstance (by decide +kernel) (pa_cons (pv 1) (pa_cons (pe_bltn (v := .ty "tuple") (u := .type "tuple") (by rfl) T.n_tuple (by decide +kernel) rfl) pa_nil))) (pe_callB (r := rIsi K) call_isi (by rfl) T.n_isinstance (by decide +kernel) (pa_cons (pv 0) (pa_cons (pe_bltn (v := .ty "tuple") (u := .type "tuple") (by rfl) T.n_tuple (by decide +kernel) rfl) pa_nil))) (nomark _)) (pw_or1 (pt_cmpR op_ne (pe_callB (r := rIsi K) call_isi (by rfl) T.n_isinstance (by decide +kernel) (pa_cons (pv 1) (pa_cons (pe_bltn (v := .ty "list") (u := .type "list") (by rfl) T.n_list (by decide +kernel) rfl) pa_nil))) (pe_callB (r := rIsi K) call_isi (by rfl) T.n_isinstance (by decide +kernel) (pa_cons (pv 0) (pa_cons (pe_bltn (v := .ty "list") (u := .type "list") (by rfl) T.n_list (by decide +kernel) rfl) pa_nil))) (nomark _))))) (pss_one (ps_ret pe_bl)) pss_nil)
    (pss_cons (ps_if (pt_cmpR op_ne (pe_callB (r := rLenK K) call_lenK (by rfl) T.n_len PySem.boot_len (pa_cons (pv 0) pa_nil)) (pe_callB (r := rLenK K) call_lenK (by rfl) T.n_len PySem.boot_len (pa_cons (pv 1) pa_nil)) (nomark _)) (pss_one (ps_ret pe_bl)) pss_nil)
    (pss_cons (ps_for PassesOwn.never rfl (pi_range1 (by rfl) T.n_range (pa_cons (pe_callB (r := rLenK K) call_lenK (by rfl) T.n_len PySem.boot_len (pa_cons (pv 1) pa_nil)) pa_nil)) (pg_name (i := 2) sc__law_alike.nd rfl (Or.inl rfl)) (pss_one (ps_if (pt_not (pt_val (pe_call G (hr.mono (Nat.le_refl _)) rfl T.m__law_alike T.F__law_alike.kp T.b__law_alike .nil pass0 (pa_cons (pe_ix (r := rIxA K) ix_any (pv 0) (pv 2) (fun _ _ => rfl)) (pa_cons (pe_ix (r := rIxA K) ix_any (pv 1) (pv 2) (fun _ _ => rfl)) pa_nil))))) (pss_one (ps_ret pe_bl)) pss_nil)))
    (pss_one (ps_ret pe_bl))))))))),
    fun W => (s_seq (s_if (e_pureT (p_test (p_op rv_isN (p_var (i := 1) (by decide)) (p_c (d := .none))))) (s_ret (e_pure (p_op rv_isN (p_var (i := 0) (by decide)) (p_c (d := .none))))) s_next)
    (s_seq (s_if (e_pureT (p_tB (p_isi (T := .bool) (p_var (i := 1) (by decide))))) (s_ret (e_pure (p_andV (p_isi (T := .bool) (p_var (i := 0) (by decide))) (p_op rv_eqD (p_var (i := 0) (by decide)) (p_var (i := 1) (by decide)))))) s_next)
    (s_seq (s_if (e_pureT (p_tB (p_isi (T := .int) (p_var (i := 1) (by decide))))) (s_ret (e_pure (p_andV (p_isi (T := .int) (p_var (i := 0) (by decide))) (p_andV (p_notV (p_isi (T := .bool) (p_var (i := 0) (by decide)))) (p_op rv_eqD (p_var (i := 0) (by decide)) (p_var (i := 1) (by decide))))))) s_next)
    (s_seq (s_if (e_pureT (p_tB (p_isi (T := .str) (p_var (i := 1) (by decide))))) (s_ret (e_pure (p_andV (p_isi (T := .str) (p_var (i := 0) (by decide))) (p_op rv_eqD (p_var (i := 0) (by decide)) (p_var (i := 1) (by decide)))))) s_next)
    (s_seq (s_if (e_pureT (p_or (p_test (p_op rv_ne (p_isi (T := .tuple) (p_var (i := 1) (by decide))) (p_isi (T := .tuple) (p_var (i := 0) (by decide))))) (p_test (p_op rv_ne (p_isi (T := .list) (p_var (i := 1) (by decide))) (p_isi (T := .list) (p_var (i := 0) (by decide))))))) (s_ret (e_pure (p_c (d := .bool false)))) s_next)
    (s_seq (s_if (e_pureT (p_test (p_op rv_ne (p_len (p_var (i := 0) (by decide))) (p_len (p_var (i := 1) (by decide)))))) (s_ret (e_pure (p_c (d := .bool false)))) s_next)
    (s_seq (s_for (i_range (p_len (p_var (i := 1) (by decide)))) (g_name (i := 2) (by decide)) (fun _ => (s_if (e_not (e_tB (e_call (p_cons (p_ixA (p_var (i := 0) (by decide)) (p_var (i := 2) (by decide))) (p_cons (p_ixA (p_var (i := 1) (by decide)) (p_var (i := 2) (by decide))) p_nil)) (dl_cons (dl_cons dl_nil))))) (s_ret (e_pure (p_c (d := .bool false)))) s_next)))
    (s_ret (e_pure (p_c (d := .bool true)))))))))))⟩
theorem all__law_alike (T : Txt K mg) : ∀ j : Nat, FnOk P w K mg base CX0 j T.a__law_alike T.d__law_alike ["_law_found", "_law_due"] (spMv K 2 (g__law_alike j))
  | 0 => fn_none (ps := ["_law_found", "_law_due"])
  | j + 1 => step__law_alike T (all__law_alike T j)
theorem ok__law_alike (T : Txt K mg) : FnOk P w K mg base CX0 9 T.a__law_alike T.d__law_alike ["_law_found", "_law_due"] (spMv K 2 (g__law_alike 9)) := all__law_alike T 9
end
end K19
set_option maxHeartbeats 4000000
namespace K19c
open PySem PySem.Spec PyProof.Rows L2 Mv NX CLX K19
abbrev s__law_all : Stmt := K19.topS 40
theorem sc__law_all : FnScope ["_law_works", "_law_due", "_law_work"] ["_law_works", "_law_due"] (defScope s__law_all) := ⟨rfl, rfl, rfl, by decide +kernel, rfl, by decide +kernel, by decide +kernel⟩
structure TxtE (K : PySem.W.Frag) (mg : Str → Option Value) extends TxtD K mg where
  a__law_all : Addr
  d__law_all : FuncData
  F__law_all : Fun K "_law_all" "_law_all" s__law_all a__law_all d__law_all
  b__law_all : Binds K d__law_all ["_law_works", "_law_due"] []
  m__law_all : mg "_law_all" = some (.ref a__law_all)
section
variable {P : Program} {w : World} {K : PySem.W.Frag} {mg : Str → Option Value} {base : Heap}
noncomputable def d__law_all (x : Xt) : En → Option Out := (dRet (eEff (lConsE (eLc (iLst (dVar 0)) 2 (eNot (eTest (eEff (lConsE (eTold1 x 2) (lConsP (dVar 1) lNil)) fun k => dWhen k 2 (eCall (g__law_alike 9) (dGhs k))))) (ePure (dVar 2))) (lConsP (dLst dNil) lNil)) fun k => dWhen k 2 (ePure ((dOp fEqD) (dGh k 0) (dGh k 1)))))
noncomputable def g__law_all (x : Xt) : List S → Option (S × List S) := fnG 3 (d__law_all x)
theorem ok__law_all (TB : K19.Txt K mg) (TE : TxtE K mg) : FnOk P w K mg base CX0 10 TE.a__law_all TE.d__law_all ["_law_works", "_law_due"] (spMv K 2 (g__law_all (raisX P w base TE.toTxtD 7))) := by
  let T := TE.toTxtD
  refine fn_mv TE.F__law_all sc__law_all (fun cdv A outer s H E as hr => ?_)
  exact ⟨_, (pss_one (ps_ret (pe_cmpR (r := rEqD K) (op_eqD hr.units) (pe_lc (own := [("_law_work", 2)]) rfl sc__law_all.nd (pi_list (pv 0)) (blkOk_by (N := ["_law_works", "_law_due", "_law_work"]) (sc := defScope s__law_all) (by decide +kernel)) (fun _ _ _ _ _ => pg_name (i := 2) sc__law_all.nd rfl (Or.inl rfl)) (fun _ _ _ _ _ => pts_one (pt_not (pt_val (pe_call (ok__law_alike TB) (hr.mono (by decide)) rfl TB.m__law_alike TB.F__law_alike.kp TB.b__law_alike .nil pass0 (pa_cons (pe_call (ok__law_told (P := P) (w := w) (base := base) T (k := 7) (k0 := 7) (by decide) (by decide)) (hr.mono (by decide)) rfl T.m__law_told T.F__law_told.kp T.b__law_told .nil pass0 (pa_cons (pv 2) pa_nil)) (pa_cons (pv 1) pa_nil)))))) (fun _ _ _ _ _ => (pv 2))) (pe_lst pa_nil) (nomark _)))),
    fun W => (s_ret (e_op2E (fun a b => (p_op rv_eqD) a b) (l_consE (e_lc (by decide) (i_lst (p_var (i := 0) (by decide))) (fun _ => (e_not (e_tB (e_callE (l_consE (e_told1 T (by decide)) (fun _ => (l_consP (p_var (i := 1) (by decide)) (fun _ => l_nil)))))))) (fun _ => (e_pure (p_var (i := 2) (by decide))))) (fun _ => (l_consP (p_lst p_nil) (fun _ => l_nil))))))⟩
end
end K19c
set_option maxHeartbeats 4000000
namespace K19x
open PySem PySem.Spec PyProof.Rows L2 Mv
def topS (i : Nat) : Stmt := PySem.Challenge.pw_drainhouse_k19_editions_written.main.body.getD i (.Pass ⟨0, 0, 0, 0⟩)
abbrev s_is_within : Stmt := topS 18
theorem sc_is_within : FnScope ["value", "least", "most"] ["value", "least", "most"] (defScope s_is_within) := ⟨rfl, rfl, rfl, by decide +kernel, rfl, by decide +kernel, by decide +kernel⟩
abbrev s_is_house : Stmt := topS 19
theorem sc_is_house : FnScope ["value"] ["value"] (defScope s_is_house) := ⟨rfl, rfl, rfl, by decide +kernel, rfl, by decide +kernel, by decide +kernel⟩
abbrev s_is_owners : Stmt := topS 20
theorem sc_is_owners : FnScope ["value", "owner"] ["value"] (defScope s_is_owners) := ⟨rfl, rfl, rfl, by decide +kernel, rfl, by decide +kernel, by decide +kernel⟩
abbrev s_is_edition : Stmt := topS 21
theorem sc_is_edition : FnScope ["value", "number", "make", "owners"] ["value"] (defScope s_is_edition) := ⟨rfl, rfl, rfl, by decide +kernel, rfl, by decide +kernel, by decide +kernel⟩
abbrev s_check_edition : Stmt := topS 22
theorem sc_check_edition : FnScope ["edition"] ["edition"] (defScope s_check_edition) := ⟨rfl, rfl, rfl, by decide +kernel, rfl, by decide +kernel, by decide +kernel⟩
abbrev s_written : Stmt := topS 31
theorem sc_written : FnScope ["edition", "number", "make", "owners", "words", "word"] ["edition"] (defScope s_written) := ⟨rfl, rfl, rfl, by decide +kernel, rfl, by decide +kernel, by decide +kernel⟩
structure Txt (K : PySem.W.Frag) (mg : Str → Option Value) where
  n_all : mg "all" = none
  n_bool : mg "bool" = none
  n_int : mg "int" = none
  n_isinstance : mg "isinstance" = none
  n_len : mg "len" = none
  n_str : mg "str" = none
  n_tuple : mg "tuple" = none
  t_SLOTS : Tok
  c_SLOTS : mg "SLOTS" = some (.int (12) t_SLOTS)
  t_LAST_NAME : Tok
  c_LAST_NAME : mg "LAST_NAME" = some (.int (19) t_LAST_NAME)
  t_LAST_NUMBER : Tok
  c_LAST_NUMBER : mg "LAST_NUMBER" = some (.int (1000000) t_LAST_NUMBER)
  t_MOST_FIGURES : Tok
  c_MOST_FIGURES : mg "MOST_FIGURES" = some (.int (7) t_MOST_FIGURES)
  t_NO_MAKE : Tok
  c_NO_MAKE : mg "NO_MAKE" = some (.str ("-") t_NO_MAKE)
  t_MAKE_PLACE : Tok
  c_MAKE_PLACE : mg "MAKE_PLACE" = some (.int (1) t_MAKE_PLACE)
  t_FIRST_OWNER : Tok
  c_FIRST_OWNER : mg "FIRST_OWNER" = some (.int (2) t_FIRST_OWNER)
  t_WORDS : Tok
  c_WORDS : mg "WORDS" = some (.int (14) t_WORDS)
  C_BadEdition : Addr
  k_BadEdition : clsOf K 17 C_BadEdition
  g_BadEdition : mg "BadEdition" = some (.ref C_BadEdition)
  x_BadEdition : PySem.W.excIn K C_BadEdition [.type "ValueError", .type "Exception", .type "BaseException", .type "object"] "ValueError.__new__" = true
  kp_BadEdition : PySem.W.keepIn K (.ref C_BadEdition) = true
  eb_BadEdition : PySem.W.subIn K (.ref C_BadEdition) (.type "BaseException") = some true
  et_BadEdition : PySem.W.typeIn K (.ref C_BadEdition) = some (.type "type")
  a_is_within : Addr
  d_is_within : FuncData
  F_is_within : Fun K "is_within" "is_within" s_is_within a_is_within d_is_within
  b_is_within : Binds K d_is_within ["value", "least", "most"] []
  m_is_within : mg "is_within" = some (.ref a_is_within)
  a_is_house : Addr
  d_is_house : FuncData
  F_is_house : Fun K "is_house" "is_house" s_is_house a_is_house d_is_house
  b_is_house : Binds K d_is_house ["value"] []
  m_is_house : mg "is_house" = some (.ref a_is_house)
  a_is_owners : Addr
  d_is_owners : FuncData
  F_is_owners : Fun K "is_owners" "is_owners" s_is_owners a_is_owners d_is_owners
  b_is_owners : Binds K d_is_owners ["value"] []
  m_is_owners : mg "is_owners" = some (.ref a_is_owners)
  a_is_edition : Addr
  d_is_edition : FuncData
  F_is_edition : Fun K "is_edition" "is_edition" s_is_edition a_is_edition d_is_edition
  b_is_edition : Binds K d_is_edition ["value"] []
  m_is_edition : mg "is_edition" = some (.ref a_is_edition)
  a_check_edition : Addr
  d_check_edition : FuncData
  F_check_edition : Fun K "check_edition" "check_edition" s_check_edition a_check_edition d_check_edition
  b_check_edition : Binds K d_check_edition ["edition"] []
  m_check_edition : mg "check_edition" = some (.ref a_check_edition)
  a_written : Addr
  d_written : FuncData
  F_written : Fun K "written" "written" s_written a_written d_written
  b_written : Binds K d_written ["edition"] []
  m_written : mg "written" = some (.ref a_written)
end K19x
set_option maxHeartbeats 4000000
namespace K19x
open PySem PySem.Spec PyProof.Rows L2 Mv NX
def d_is_within : En → Option Out := (dRet (ePure (dAndV (dIsi .int (dVar 0)) (dAndV (dNotV (dIsi .bool (dVar 0))) (dChain fLe fLe (dVar 1) (dVar 0) (dVar 2))))))
def g_is_within : List S → Option (S × List S) := fnG 3 d_is_within
def d_is_house : En → Option Out := (dRet (eCall g_is_within (dCons (dVar 0) (dCons (dC (.int 0)) (dCons (dC (.int 19)) dNil)))))
def g_is_house : List S → Option (S × List S) := fnG 1 d_is_house
def d_is_owners : En → Option Out := (dRet (eAndV (ePure (dIsi .tuple (dVar 0))) (eAndV (ePure (dOp fEqS (dLen (dVar 0)) (dC (.int 12)))) (eCB1 fAll (eLc (iTupS (dVar 0)) 1 eYes (eCall g_is_house (dCons (dVar 1) dNil)))))))
def g_is_owners : List S → Option (S × List S) := fnG 2 d_is_owners
def d_is_edition : En → Option Out := (dSeq (dIf (ePureT (dOr (dNot (dTest (dIsi .tuple (dVar 0)))) (dTest (dOp fNeS (dLen (dVar 0)) (dC (.int 3)))))) (dRet (ePure (dC (.bool false)))) dNext)
    (dSeq (dAsg (bTup 3 (bCons (bName 1) (bCons (bName 2) (bCons (bName 3) bNil)))) (ePure (dVar 0)))
    (dSeq (dIf (eAnd (ePureT (dTest (dOp fNotN (dVar 2) (dC .none)))) (eNot (eTest (eCall g_is_within (dCons (dVar 2) (dCons (dC (.int 0)) (dCons (dC (.int 1000000)) dNil))))))) (dRet (ePure (dC (.bool false)))) dNext)
    (dRet (eAndV (eCall g_is_within (dCons (dVar 1) (dCons (dC (.int 1)) (dCons (dC (.int 1000000)) dNil)))) (eCall g_is_owners (dCons (dVar 3) dNil)))))))
def g_is_edition : List S → Option (S × List S) := fnG 4 d_is_edition
def d_check_edition : En → Option Out := (dIf (eNot (eTest (eCall g_is_edition (dCons (dVar 0) dNil)))) (dRaise 17) dNext)
def g_check_edition : List S → Option (Rx × List S) := fnGX 1 d_check_edition
def d_written : En → Option Out := (dSeq (dDropX (xCall g_check_edition (dCons (dVar 0) dNil)))
    (dSeq (dAsg (bTup 3 (bCons (bName 1) (bCons (bName 2) (bCons (bName 3) bNil)))) (ePure (dVar 0)))
    (dSeq (dAlias 4 (dLst (dCons (dVar 1) (dCons (dIfE (dTest (dOp fIsN (dVar 2) (dC .none))) (dC (.str "-")) (dVar 2)) (dStarA (dVar 3) dNil)))))
    (dRet (eJoin (dC (.str " ")) (eLc (iLst (dVar 4)) 5 eYes (ePure (dCB fStr (dCons (dVar 5) dNil)))))))))
def g_written : List S → Option (Rx × List S) := fnGX 6 d_written
end K19x
set_option maxHeartbeats 4000000
namespace K19x
open PySem PySem.Spec PyProof.Rows L2 Mv NX
section
variable {P : Program} {w : World} {K : PySem.W.Frag} {mg : Str → Option Value} {base : Heap}
theorem ok_is_within (T : Txt K mg) : FnOk P w K mg base CX0 1 T.a_is_within T.d_is_within ["value", "least", "most"] (spMv K 3 g_is_within) := by
  refine fn_mv T.F_is_within sc_is_within (fun cdv A outer s H E as hr => ?_)
  exact ⟨_, (pss_one (ps_ret (pe_and (pe_callB (r := rIsi K) call_isi (by rfl) T.n_isinstance (by decide +kernel) (pa_cons (pv 0) (pa_cons (pe_bltn (v := .ty "int") (u := .type "int") (by rfl) T.n_int (by decide +kernel) rfl) pa_nil))) (pe_and (pe_not (pe_callB (r := rIsi K) call_isi (by rfl) T.n_isinstance (by decide +kernel) (pa_cons (pv 0) (pa_cons (pe_bltn (v := .ty "bool") (u := .type "bool") (by rfl) T.n_bool (by decide +kernel) rfl) pa_nil)))) (pe_one (pe_chain op_le op_le (pv 1) (pv 0) (pv 2))))))),
    fun W => (s_ret (e_pure (p_andV (p_isi (T := .int) (p_var (i := 0) (by decide))) (p_andV (p_notV (p_isi (T := .bool) (p_var (i := 0) (by decide)))) (p_chain rv_le rv_le (p_var (i := 1) (by decide)) (p_var (i := 0) (by decide)) (p_var (i := 2) (by decide)))))))⟩
theorem ok_is_house (T : Txt K mg) : FnOk P w K mg base CX0 2 T.a_is_house T.d_is_house ["value"] (spMv K 1 g_is_house) := by
  refine fn_mv T.F_is_house sc_is_house (fun cdv A outer s H E as hr => ?_)
  exact ⟨_, (pss_one (ps_ret (pe_call (ok_is_within T) (hr.mono (by decide)) rfl T.m_is_within T.F_is_within.kp T.b_is_within .nil pass0 (pa_cons (pv 0) (pa_cons pe_int (pa_cons (pe_glob (v := .int (19)) rfl T.c_LAST_NAME ⟨_, rfl⟩) pa_nil)))))),
    fun W => (s_ret (e_call (p_cons (p_var (i := 0) (by decide)) (p_cons (p_c (d := .int 0)) (p_cons (p_c (d := .int 19)) p_nil))) (dl_cons (dl_cons (dl_cons dl_nil)))))⟩
theorem ok_is_owners (T : Txt K mg) : FnOk P w K mg base CX0 3 T.a_is_owners T.d_is_owners ["value"] (spMv K 1 g_is_owners) := by
  refine fn_mv T.F_is_owners sc_is_owners (fun cdv A outer s H E as hr => ?_)
  exact ⟨_, (pss_one (ps_ret (pe_and (pe_callB (r := rIsi K) call_isi (by rfl) T.n_isinstance (by decide +kernel) (pa_cons (pv 0) (pa_cons (pe_bltn (v := .ty "tuple") (u := .type "tuple") (by rfl) T.n_tuple (by decide +kernel) rfl) pa_nil))) (pe_and (pe_cmpR op_eq (pe_callB (r := rLenK K) call_lenK (by rfl) T.n_len PySem.boot_len (pa_cons (pv 0) pa_nil)) (pe_glob (v := .int (12)) rfl T.c_SLOTS ⟨_, rfl⟩) (nomark _)) (pe_one (pe_callB (r := rAll K) (cr_all rfl) (by rfl) T.n_all (by decide +kernel) (pa_cons (pe_lc (own := [("owner", 1)]) rfl sc_is_owners.nd (pi_tup (pv 0)) (blkOk_by (N := ["value", "owner"]) (sc := defScope s_is_owners) (by decide +kernel)) (fun _ _ _ _ _ => pg_name (i := 1) sc_is_owners.nd rfl (Or.inl rfl)) (fun _ _ _ _ _ => pts_nil) (fun _ _ _ _ _ => (pe_call (ok_is_house T) (hr.mono (by decide)) rfl T.m_is_house T.F_is_house.kp T.b_is_house .nil pass0 (pa_cons (pv 1) pa_nil)))) pa_nil))))))),
    fun W => (s_ret (e_andV (e_pure (p_isi (T := .tuple) (p_var (i := 0) (by decide)))) (e_andV (e_pure (p_op rv_eq (p_len (p_var (i := 0) (by decide))) (p_c (d := .int 12)))) (e_cb1 rc_all (e_lc (by decide) (i_tup (p_var (i := 0) (by decide))) (fun _ => e_yes) (fun _ => (e_call (p_cons (p_var (i := 1) (by decide)) p_nil) (dl_cons dl_nil))))))))⟩
theorem ok_is_edition (T : Txt K mg) : FnOk P w K mg base CX0 4 T.a_is_edition T.d_is_edition ["value"] (spMv K 1 g_is_edition) := by
  refine fn_mv T.F_is_edition sc_is_edition (fun cdv A outer s H E as hr => ?_)
  exact ⟨_, (pss_cons (ps_if (PW.pt (pw_or (pt_not (pt_val (pe_callB (r := rIsi K) call_isi (by rfl) T.n_isinstance (by decide +kernel) (pa_cons (pv 0) (pa_cons (pe_bltn (v := .ty "tuple") (u := .type "tuple") (by rfl) T.n_tuple (by decide +kernel) rfl) pa_nil))))) (pw_or1 (pt_cmpR op_ne (pe_callB (r := rLenK K) call_lenK (by rfl) T.n_len PySem.boot_len (pa_cons (pv 0) pa_nil)) pe_int (nomark _))))) (pss_one (ps_ret pe_bl)) pss_nil)
    (pss_cons (ps_asg (pv 0) (pg_tup rfl (pgs_cons (pg_name (i := 1) sc_is_edition.nd rfl (Or.inl rfl)) (pgs_cons (pg_name (i := 2) sc_is_edition.nd rfl (Or.inl rfl)) (pgs_cons (pg_name (i := 3) sc_is_edition.nd rfl (Or.inl rfl)) pgs_nil)))))
    (pss_cons (ps_if (PW.pt (pw_and (pt_cmpR op_notN (pv 2) pe_non (nomark _)) (pw_and1 (pt_not (pt_val (pe_call (ok_is_within T) (hr.mono (by decide)) rfl T.m_is_within T.F_is_within.kp T.b_is_within .nil pass0 (pa_cons (pv 2) (pa_cons pe_int (pa_cons (pe_glob (v := .int (1000000)) rfl T.c_LAST_NUMBER ⟨_, rfl⟩) pa_nil))))))))) (pss_one (ps_ret pe_bl)) pss_nil)
    (pss_one (ps_ret (pe_and (pe_call (ok_is_within T) (hr.mono (by decide)) rfl T.m_is_within T.F_is_within.kp T.b_is_within .nil pass0 (pa_cons (pv 1) (pa_cons pe_int (pa_cons (pe_glob (v := .int (1000000)) rfl T.c_LAST_NUMBER ⟨_, rfl⟩) pa_nil)))) (pe_one (pe_call (ok_is_owners T) (hr.mono (by decide)) rfl T.m_is_owners T.F_is_owners.kp T.b_is_owners .nil pass0 (pa_cons (pv 3) pa_nil))))))))),
    fun W => (s_seq (s_if (e_pureT (p_or (p_not (p_tB (p_isi (T := .tuple) (p_var (i := 0) (by decide))))) (p_test (p_op rv_ne (p_len (p_var (i := 0) (by decide))) (p_c (d := .int 3)))))) (s_ret (e_pure (p_c (d := .bool false)))) s_next)
    (s_seq (s_asg (g_tup (gs_cons (g_name (i := 1) (by decide)) (gs_cons (g_name (i := 2) (by decide)) (gs_cons (g_name (i := 3) (by decide)) gs_nil)))) (e_pure (p_var (i := 0) (by decide))))
    (s_seq (s_if (e_and (e_pureT (p_test (p_op rv_notN (p_var (i := 2) (by decide)) (p_c (d := .none))))) (e_not (e_tB (e_call (p_cons (p_var (i := 2) (by decide)) (p_cons (p_c (d := .int 0)) (p_cons (p_c (d := .int 1000000)) p_nil))) (dl_cons (dl_cons (dl_cons dl_nil))))))) (s_ret (e_pure (p_c (d := .bool false)))) s_next)
    (s_ret (e_andV (e_call (p_cons (p_var (i := 1) (by decide)) (p_cons (p_c (d := .int 1)) (p_cons (p_c (d := .int 1000000)) p_nil))) (dl_cons (dl_cons (dl_cons dl_nil)))) (e_call (p_cons (p_var (i := 3) (by decide)) p_nil) (dl_cons dl_nil)))))))⟩
theorem ok_check_edition (T : Txt K mg) : FnOk P w K mg base (L2.CX P w) 5 T.a_check_edition T.d_check_edition ["edition"] (spMvX K 1 g_check_edition) := by
  refine fn_mvX T.F_check_edition sc_check_edition (fun cdv A outer s H E as hr => ?_)
  exact ⟨_, (pss_one (ps_if (pt_not (pt_val (pe_call (ok_is_edition T) (hr.mono (by decide)) rfl T.m_is_edition T.F_is_edition.kp T.b_is_edition .nil pass0 (pa_cons (pv 0) pa_nil)))) (pss_one (ps_raise rfl (takes_of rfl rfl rfl rfl) (pmk_own PySem.F.excBase_ValueError T.x_BadEdition T.g_BadEdition T.kp_BadEdition (raises_own T.eb_BadEdition T.et_BadEdition) rfl))) pss_nil)),
    (s_if (e_not (e_tB (e_call (p_cons (p_var (i := 0) (by decide)) p_nil) (dl_cons dl_nil)))) (s_raise T.k_BadEdition) s_next)⟩
theorem ok_written (T : Txt K mg) : FnOk P w K mg base (L2.CX P w) 6 T.a_written T.d_written ["edition"] (spMvX K 1 g_written) := by
  refine fn_mvX T.F_written sc_written (fun cdv A outer s H E as hr => ?_)
  exact ⟨_, (pss_cons (ps_expr (pe_callS (ok_check_edition T) (hr.mono (by decide)) rfl T.m_check_edition T.F_check_edition.kp T.b_check_edition (fun σ => passAt (takes_of rfl rfl rfl rfl) σ) (pa_cons (pv 0) pa_nil)))
    (pss_cons (ps_asg (pv 0) (pg_tup rfl (pgs_cons (pg_name (i := 1) sc_written.nd rfl (Or.inl rfl)) (pgs_cons (pg_name (i := 2) sc_written.nd rfl (Or.inl rfl)) (pgs_cons (pg_name (i := 3) sc_written.nd rfl (Or.inl rfl)) pgs_nil)))))
    (pss_cons (ps_set (i := 4) sc_written.nd rfl (Or.inl rfl) (pe_lst (pa_cons (pv 1) (pa_cons (pe_ifExp (pt_cmpR op_isN (pv 2) pe_non (nomark _)) (pe_glob (v := .str "-") rfl T.c_NO_MAKE ⟨_, rfl⟩) (pv 2)) (StX.pa_star (pv 3) pa_nil)))))
    (pss_one (ps_ret (pe_K (t := fun K => tM1 (rJoinK K) _ _) (pe_join pe_str (pe_lc (own := [("word", 5)]) rfl sc_written.nd (pi_list (pv 4)) (blkOk_by (N := ["edition", "number", "make", "owners", "words", "word"]) (sc := defScope s_written) (by decide +kernel)) (fun _ _ _ _ _ => pg_name (i := 5) sc_written.nd rfl (Or.inl rfl)) (fun _ _ _ _ _ => pts_nil) (fun _ _ _ _ _ => (pe_callTy call_str (by rfl) T.n_str (by decide +kernel) (pa_cons (pv 5) pa_nil))))))))))),
    (s_seq (s_dropX (x_call (p_cons (p_var (i := 0) (by decide)) p_nil) (dl_cons dl_nil)))
    (s_seq (s_asg (g_tup (gs_cons (g_name (i := 1) (by decide)) (gs_cons (g_name (i := 2) (by decide)) (gs_cons (g_name (i := 3) (by decide)) gs_nil)))) (e_pure (p_var (i := 0) (by decide))))
    (s_seq (s_alias (by decide) (p_lst (p_cons (p_var (i := 1) (by decide)) (p_cons (p_ifE (p_test (p_op rv_isN (p_var (i := 2) (by decide)) (p_c (d := .none)))) (p_c (d := .str "-")) (p_var (i := 2) (by decide))) (p_star1 (p_var (i := 3) (by decide)) p_nil)))))
    (s_ret (e_join (p_c (d := .str " ")) (e_lc (by decide) (i_lst (p_var (i := 4) (by decide))) (fun _ => e_yes) (fun _ => (e_pure (p_cb rc_str (p_cons (p_var (i := 5) (by decide)) p_nil))))))))))⟩
end
end K19x
set_option maxHeartbeats 4000000
namespace K19c
open PySem PySem.Spec PyProof.Rows L2 Mv NX CLX
section
variable {P : Program} {w : World} {K : PySem.W.Frag} {mg : Str → Option Value} {base : Heap}
/-- what the lambda's body is read as -/
def tbL (K : PySem.W.Frag) : XK → TE := fun E => tCallS (spMvX K 1 K19x.g_written) (fun _ => E) (tCons (tVar 0) tNil)
theorem raise_lam (T : TxtD K mg) (hT : clsOf K 17 T.C_BadEdition) {q : Str} {params : Arguments} {body : Expr} {scope : Scope} {N : List Str} {x : Str} {c c' f : Addr} {pm ct : Value} {F1 F2 H : Hp} {o : Obj} {v : V} {D : PyData} (hN : N = [x])
    (S : ClS scope N) (hb : LamBind params scope) (hd : params.defaults = [])
    (hbody : ∀ (A : Around) (outer : List Env) (s : Shared) (H : Hp) (E : XK), Room 6 (A.deeper (clEnv q scope [(x, c)] s.heap.objs.size f c')) → PE (clCx P w K mg base q scope N [(x, c)] f c' A outer s H E) body (tbL K E))
    (hf : F2 f = some (CellO f (clObj q params body scope [(x, c)] pm c' ct .none))) (hc' : F2 c' = some (LamX.CodeO c' q)) (hc : F2 c = some (CellO c o)) (hv : IsCl v o) (h12 : ∀ b u, F1 b = some u → F2 b = some u) (h1c : F1 c = none) (hD : Dq K F1 v D)
    (hw : K19x.g_written [.dat D] = some (.ex 17, [.dat D])) : (raisX P w base T 7).At K F2 H (.ref f) [] := by
  subst hN
  refine ⟨rfl, f, _, rfl, cl_ok (k := 6) (params := params) (pm := pm) (ct := ct) (dV := .none) (tb := tbL K) S hbody, fun H1 h2 EX Q hE => ?_⟩
  have hcl : ([(x, c)] : List (Str × Addr)).map (·.2) = [c] := rfl
  refine ⟨h2 _ _ hf, h2 _ _ hc', hb.ok (.inl ⟨hd, rfl⟩), [some v], ⟨fun y hy => ?_, fun a b d h1 h3 => ?_, fun p hp => ?_, rfl⟩, ?_⟩
  · rw [List.mem_singleton.mp hy]
    exact ⟨c, by simp⟩
  · have key : ∀ y, ([(x, c)] : List (Str × Addr)).lookup y = some d → y = x := fun y h => by
      simp only [List.lookup] at h
      split at h
      · next hh => exact eq_of_beq hh
      · cases h
    rw [key a h1, key b h3]
  · rw [List.mem_singleton.mp hp]
    exact ⟨0, v, o, rfl, rfl, h2 _ _ hc, hv⟩
  · have sub : ∀ b u, F1 b = some u → lessC [c] H1 b = some u := fun b u e => by
      rw [less_out (fun m => by rw [List.mem_singleton.mp m, h1c] at e; cases e)]
      exact h2 _ _ (h12 b u e)
    show tbL K _ [some v] (lessC [c] H1) _
    refine ⟨v, rfl, rfl, F1, [.dat D], [], .ex 17, [.dat D], sub, OwnL.cons (fp := []) (.dat hD) .nil, List.nodup_nil, (fun _ m => nomatch m), hw, ?_⟩
    intro C F' H' fp' hC g _ _ _ hn
    rw [hC.one hT]
    refine hE _ fun b u e => ?_
    show moreC [c] H1 H' b = some u
    by_cases hb : b ∈ [c]
    · rw [more_in hb]; exact e
    · rw [more_out hb]
      exact g.keep b u (by rw [less_out hb]; exact e) (fun m => nomatch m)
end
end K19c
set_option maxHeartbeats 1000000
namespace DT
open PySem PySem.Spec PyProof.Rows L2 Mv TL
open Gn hiding g__law_take g__law_begun d__law_take d__law_begun
def word (n : Nat) : Str := Str.ofString (toString ((n : Nat) : Int))
theorem tl_word (n : Nat) : (word n).cps.toList = numL n := tl_num n
theorem word_len (n : Nat) : (word n).length = (numL n).length := by
  rw [← tl_word]; rfl
theorem word_len7 {n : Nat} (h : n < 10 ^ 7) : (word n).length ≤ 7 := by rw [word_len]; exact numL_len (by decide) h
theorem word_pos (n : Nat) : 0 < (word n).length := by
  rw [word_len]
  exact List.length_pos_iff.mpr (numL_ne n)
theorem dig_all : ∀ c : Nat, 48 ≤ c → c ≤ 57 → Unicode.isDigit c = true := by
  intro c h1 h2
  have : c = 48 ∨ c = 49 ∨ c = 50 ∨ c = 51 ∨ c = 52 ∨ c = 53 ∨ c = 54 ∨ c = 55 ∨ c = 56 ∨ c = 57 := by omega
  rcases this with rfl | rfl | rfl | rfl | rfl | rfl | rfl | rfl | rfl | rfl <;> decide +kernel
theorem word_dig (n : Nat) : Txt.isdigit (word n) = true := by
  unfold Txt.isdigit
  rw [decide_eq_true (word_pos n), Bool.true_and, ← Array.all_toList, List.all_eq_true]
  intro c hc
  rw [tl_word] at hc
  have := numL_digits n c hc
  exact dig_all c this.1 this.2
/-- the first sign of a number that is not 0 -/
theorem head_ne : ∀ n : Nat, 0 < n → ∃ c r, numL n = c :: r ∧ c ≠ 48 := by
  intro n
  induction n using Nat.strongRecOn with
  | _ n ih =>
    intro h0
    by_cases h : n < 10
    · exact ⟨48 + n, [], numL_lt h, by omega⟩
    · obtain ⟨c, r, e, hc⟩ := ih (n / 10) (by omega) (by omega)
      exact ⟨c, r ++ [48 + n % 10], by rw [numL_step (by omega), e]; rfl, hc⟩
theorem starts0 {n : Nat} (h : 0 < n) : Txt.startswith (word n) (Str.ofString "0") = false := by
  unfold Txt.startswith Builtin.Str.subAt
  obtain ⟨c, r, e, hc⟩ := head_ne n h
  have : ((word n).cps.extract 0 (0 + (Str.ofString "0").length) == (Str.ofString "0").cps) = false := by
    apply Bool.eq_false_iff.mpr
    intro q
    have q2 : (word n).cps.extract 0 (0 + (Str.ofString "0").length) = (Str.ofString "0").cps := eq_of_beq q
    have q3 := congrArg Array.toList q2
    rw [Array.toList_extract, tl_word, e] at q3
    have q4 : (Str.ofString "0").cps.toList = [48] := by decide +kernel
    have q5 : (Str.ofString "0").length = 1 := by decide +kernel
    rw [q4, q5] at q3
    simp at q3
    exact hc q3
  rw [this, Bool.and_false]
theorem word_dash (n : Nat) : word n ≠ Str.ofString "-" := fun e => by
  have h1 := numL_digits n
  rw [← tl_word, e] at h1
  have := h1 45 (by decide +kernel)
  omega
end DT
set_option maxHeartbeats 4000000
namespace DH
open PySem PySem.Spec PyProof.Rows L2 Mv
def d_is_within : En → Option Out := (dRet (ePure (dAndV (dIsi .int (dVar 0)) (dAndV (dNotV (dIsi .bool (dVar 0))) (dChain fLe fLe (dVar 1) (dVar 0) (dVar 2))))))
def g_is_within : List S → Option (S × List S) := fnG 3 d_is_within
def d_is_house : En → Option Out := (dRet (eCall g_is_within (dCons (dVar 0) (dCons (dC (.int 0)) (dCons (dC (.int 19)) dNil)))))
def g_is_house : List S → Option (S × List S) := fnG 1 d_is_house
def d_is_owners : En → Option Out := (dRet (eAndV (ePure (dIsi .tuple (dVar 0))) (eAndV (ePure (dOp fEqS (dLen (dVar 0)) (dC (.int 12)))) (eCB1 fAll (eLc (iTupS (dVar 0)) 1 eYes (eCall g_is_house (dCons (dVar 1) dNil)))))))
def g_is_owners : List S → Option (S × List S) := fnG 2 d_is_owners
def d_is_edition : En → Option Out := (dSeq (dIf (ePureT (dOr (dNot (dTest (dIsi .tuple (dVar 0)))) (dTest (dOp fNeS (dLen (dVar 0)) (dC (.int 3)))))) (dRet (ePure (dC (.bool false)))) dNext)
    (dSeq (dAsg (bTup 3 (bCons (bName 1) (bCons (bName 2) (bCons (bName 3) bNil)))) (ePure (dVar 0)))
    (dSeq (dIf (eAnd (ePureT (dTest (dOp fNotN (dVar 2) (dC .none)))) (eNot (eTest (eCall g_is_within (dCons (dVar 2) (dCons (dC (.int 0)) (dCons (dC (.int 1000000)) dNil))))))) (dRet (ePure (dC (.bool false)))) dNext)
    (dRet (eAndV (eCall g_is_within (dCons (dVar 1) (dCons (dC (.int 1)) (dCons (dC (.int 1000000)) dNil)))) (eCall g_is_owners (dCons (dVar 3) dNil)))))))
def g_is_edition : List S → Option (S × List S) := fnG 4 d_is_edition
def d_check_edition : En → Option Out := (dIf (eNot (eTest (eCall g_is_edition (dCons (dVar 0) dNil)))) dNever dNext)
def g_check_edition : List S → Option (S × List S) := fnG 1 d_check_edition
end DH
set_option maxHeartbeats 4000000
namespace DH
open PySem PySem.Spec PyProof.Rows L2 Mv
def d__law_begun : En → Option Out := (dSeq (dAlias 1 (dC (.int 0)))
    (dSeq (dFor (iLst (dVar 0)) (bName 2) (dAlias 1 (dOp fMod (dOp fAdd (dOp fAdd (dOp fMul (dVar 1) (dC (.int 48271))) (dOp fMul (dVar 2) (dC (.int 69621)))) (dC (.int 11))) (dC (.int 2147483647)))))
    (dRet (ePure (dLst (dCons (dCS fList (dCons (dVar 0) dNil)) (dCons (dOp fMul (dVar 1) (dCB fInt (dCons (dOp fGt (dLen (dVar 0)) (dC (.int 2))) dNil))) dNil)))))))
def g__law_begun : List S → Option (S × List S) := fnG 3 d__law_begun
def d__law_take : En → Option Out := (dSeq (dIf (ePureT (dTest (dOp fEqD (dIxL (dVar 0) (dC (.int 0))) (dLst dNil)))) (dSeq (dLSet (dVar 0) (dC (.int 1)) (ePure (dOp fMod (dOp fMul (dIxL (dVar 0) (dC (.int 1))) (dC (.int 48271))) (dC (.int 2147483647)))))
    (dRet (ePure (dOp fMod (dOp fDiv (dIxL (dVar 0) (dC (.int 1))) (dC (.int 7))) (dVar 1))))) dNext)
    (dSeq (dAlias 2 (dIxL (dIxL (dVar 0) (dC (.int 0))) (dC (.int 0))))
    (dSeq (dLSet (dIxL (dVar 0) (dC (.int 0))) (dC (.int 0)) (ePure (dOp fDiv (dVar 2) (dVar 1))))
    (dSeq (dIf (ePureT (dOr (dTest (dOp fEqS (dIxL (dIxL (dVar 0) (dC (.int 0))) (dC (.int 0))) (dC (.int 0)))) (dTest (dOp fEqS (dIxL (dIxL (dVar 0) (dC (.int 0))) (dC (.int 0))) (dNeg (dC (.int 1))))))) (dDrop (eBM1 oPopAt (dIxL (dVar 0) (dC (.int 0))) (dC (.int 0)))) dNext)
    (dRet (ePure (dOp fMod (dVar 2) (dVar 1))))))))
def g__law_take : List S → Option (S × List S) := fnG 3 d__law_take
end DH
set_option maxHeartbeats 4000000
namespace K02
open PySem PySem.Spec PyProof.Rows L2 Mv
def d_is_within : En → Option Out := (dRet (ePure (dAndV (dIsi .int (dVar 0)) (dAndV (dNotV (dIsi .bool (dVar 0))) (dChain fLe fLe (dVar 1) (dVar 0) (dVar 2))))))
def g_is_within : List S → Option (S × List S) := fnG 3 d_is_within
def d_is_house : En → Option Out := (dRet (eCall g_is_within (dCons (dVar 0) (dCons (dC (.int 0)) (dCons (dC (.int 19)) dNil)))))
def g_is_house : List S → Option (S × List S) := fnG 1 d_is_house
def d_is_owners : En → Option Out := (dRet (eAndV (ePure (dIsi .tuple (dVar 0))) (eAndV (ePure (dOp fEqS (dLen (dVar 0)) (dC (.int 12)))) (eCB1 fAll (eLc (iTupS (dVar 0)) 1 eYes (eCall g_is_house (dCons (dVar 1) dNil)))))))
def g_is_owners : List S → Option (S × List S) := fnG 2 d_is_owners
def d__law_begun : En → Option Out := (dSeq (dAlias 1 (dC (.int 0)))
    (dSeq (dFor (iLst (dVar 0)) (bName 2) (dAlias 1 (dOp fMod (dOp fAdd (dOp fAdd (dOp fMul (dVar 1) (dC (.int 48271))) (dOp fMul (dVar 2) (dC (.int 69621)))) (dC (.int 11))) (dC (.int 2147483647)))))
    (dRet (ePure (dLst (dCons (dCS fList (dCons (dVar 0) dNil)) (dCons (dOp fMul (dVar 1) (dCB fInt (dCons (dOp fGt (dLen (dVar 0)) (dC (.int 2))) dNil))) dNil)))))))
def d__law_take : En → Option Out := (dSeq (dIf (ePureT (dTest (dOp fEqD (dIxL (dVar 0) (dC (.int 0))) (dLst dNil)))) (dSeq (dLSet (dVar 0) (dC (.int 1)) (ePure (dOp fMod (dOp fMul (dIxL (dVar 0) (dC (.int 1))) (dC (.int 48271))) (dC (.int 2147483647)))))
    (dRet (ePure (dOp fMod (dOp fDiv (dIxL (dVar 0) (dC (.int 1))) (dC (.int 7))) (dVar 1))))) dNext)
    (dSeq (dAlias 2 (dIxL (dIxL (dVar 0) (dC (.int 0))) (dC (.int 0))))
    (dSeq (dLSet (dIxL (dVar 0) (dC (.int 0))) (dC (.int 0)) (ePure (dOp fDiv (dVar 2) (dVar 1))))
    (dSeq (dIf (ePureT (dOr (dTest (dOp fEqS (dIxL (dIxL (dVar 0) (dC (.int 0))) (dC (.int 0))) (dC (.int 0)))) (dTest (dOp fEqS (dIxL (dIxL (dVar 0) (dC (.int 0))) (dC (.int 0))) (dNeg (dC (.int 1))))))) (dDrop (eBM1 oPopAt (dIxL (dVar 0) (dC (.int 0))) (dC (.int 0)))) dNext)
    (dRet (ePure (dOp fMod (dVar 2) (dVar 1))))))))
end K02
namespace Sh
def cnt (l : List Int) (h : Int) : Int := (l.count h : Int)
/-- how many places are alike -/
def score : List Int → List Int → Int
  | a :: t, r :: rs => (if a = r then 1 else 0) + score t rs
  | _, _ => 0
/-- a sum over a list -/
def sumL {α : Type} (f : α → Int) : List α → Int
  | [] => 0
  | a :: l => f a + sumL f l
structure Sys (S : Type) where
  hs : List Int
  step : Int → S → S
  val : List Int → S → Option Int
  Ok : S → List Int → Prop
  Inv : S → Nat → Prop
  up : hs.Pairwise (· < ·)
  ok_nil : ∀ {s t}, Inv s 0 → t.length = 0 → Ok s t → t = []
  ok_cons : ∀ {s n h t}, Inv s (n + 1) → (Ok s (h :: t) ↔ h ∈ hs ∧ Ok (step h s) t)
  inv_step : ∀ {s n h}, Inv s (n + 1) → h ∈ hs → Inv (step h s) n
  att : ∀ {s rest m}, Inv s rest.length → val rest s = some m → ∃ t, t.length = rest.length ∧ Ok s t ∧ score t rest = m
  bound : ∀ {s rest t}, Inv s rest.length → t.length = rest.length → Ok s t → ∃ m, val rest s = some m ∧ score t rest ≤ m
section
variable {S : Type} (Y : Sys S)
/-- is this house a good one -/
def Sys.good (s : S) (r : Int) (rs : List Int) (m : Int) (h : Int) : Bool :=
  match Y.val rs (Y.step h s) with
  | some k => decide (k + (if h = r then 1 else 0) = m)
  | none => false
def Sys.run : S → List Int → List Int
  | _, [] => []
  | s, r :: rs =>
    match Y.val (r :: rs) s with
    | some m => match Y.hs.find? (Y.good s r rs m) with
      | some h => h :: Sys.run (Y.step h s) rs
      | none => []
    | none => []
end
end Sh
namespace Sh
theorem sum_const (low : Int) : ∀ (g : List (Int × Int)), sumL (fun p => low - p.2) g = low * g.length - sumL (·.2) g
  | [] => by simp [sumL]
  | p :: g => by
    simp only [sumL, sum_const low g, List.length_cons]
    rw [Int.natCast_add, Int.mul_add]
    simp
    omega
end Sh
namespace Sh
end Sh
set_option maxHeartbeats 4000000
set_option maxHeartbeats 4000000
set_option maxHeartbeats 4000000
namespace K02
open PySem PySem.Spec PyProof.Rows L2 Mv Sh
theorem v_house (i : Int) : g_is_house [.dat (.int i)] = some (.dat (.bool (decide (0 ≤ i) && decide (i ≤ 19))), [.dat (.int i)]) := rfl
theorem v_house_ok {i : Int} (h : 0 ≤ i ∧ i ≤ 19) : g_is_house [.dat (.int i)] = some (.dat (.bool true), [.dat (.int i)]) := by
  rw [v_house, decide_eq_true h.1, decide_eq_true h.2]; rfl
theorem lst_trues (ns : List Int) : S.toD (.lst (ns.map fun _ => S.dat (.bool true))) = some (.list (List.replicate ns.length (.bool true))) := by
  have : (ns.map fun _ => S.dat (.bool true)) = (List.replicate ns.length (PyData.bool true)).map S.dat := by
    rw [List.map_const', List.map_replicate]
  rw [this]
  show (S.toDs _).map PyData.list = _
  rw [toDs_dats]; rfl
theorem v_is_owners {ns : List Int} (hl : ns.length = 12) (h : ∀ i ∈ ns, 0 ≤ i ∧ i ≤ 19) : g_is_owners [tI ns] = some (.dat (.bool true), [tI ns]) := by
  have hlen : (ns.map PyData.int).length = 12 := by simpa using hl
  have hloop : dLcLoop (rdD (ns.map .int)) 1 eYes (eCall g_is_house (dCons (dVar 1) dNil)) 12 0 [] [.own (tI ns), .no, .own (tI ns)] = some (ns.map (fun _ => S.dat (.bool true)), [.own (tI ns), .no, .own (tI ns)]) := by
    rw [lc_pure (fun _ => S.dat (.bool true)) 12 (by decide) (fun i hi => ?_) (rdD_end (by omega)) 12 0 12 [] rfl (Nat.le_refl _) rfl]
    · rw [List.nil_append, ← hl, map_range' (fun _ => S.dat (.bool true)) ns _ (fun _ _ _ => rfl)]
    · have hv : ns[i]? = some (ns[i]'(by omega)) := List.getElem?_eq_getElem _
      exact ⟨_, _, _, rdD_I hv, rfl, eCall_go (rs := [.val (.dat (.int (ns[i]'(by omega))))]) rfl rfl rfl (v_house_ok (h _ (List.getElem_mem _))), rfl⟩
  have hcomp : eLc (iTupS (dVar 0)) 1 eYes (eCall g_is_house (dCons (dVar 1) dNil)) [.own (tI ns), .no, .own (tI ns)] = some (.lst (ns.map fun _ => S.dat (.bool true)), [.own (tI ns), .no, .own (tI ns)]) := by
    show (match dLcLoop (rdD (ns.map .int)) 1 eYes (eCall g_is_house (dCons (dVar 1) dNil)) (ns.map PyData.int).length 0 [] [.own (tI ns), .no, .own (tI ns)] with
      | some (acc, E') => some (S.lst acc, stripE ⟨_, [], _, _⟩ E')
      | none => none) = _
    rw [hlen, hloop]; rfl
  have hall : eCB1 fAll (eLc (iTupS (dVar 0)) 1 eYes (eCall g_is_house (dCons (dVar 1) dNil))) [.own (tI ns), .no, .own (tI ns)] = some (.dat (.bool true), [.own (tI ns), .no, .own (tI ns)]) := by
    unfold eCB1
    rw [hcomp]
    simp only [lst_trues, all_trues]
    rfl
  have hl12 : ePure (dOp fEqS (dLen (dVar 0)) (dC (.int 12))) [.own (tI ns), .no, .own (tI ns)] = some (.dat (.bool true), [.own (tI ns), .no, .own (tI ns)]) := by
    show some (S.dat (.bool (decide (((ns.map PyData.int).length : Int) = 12))), _) = _
    rw [hlen]; rfl
  exact fnG_rt (dRet_go (eAndV_t (E1 := [.own (tI ns), .no, .own (tI ns)]) rfl (eAndV_t hl12 hall))) rfl
end K02
set_option maxHeartbeats 4000000
set_option maxHeartbeats 4000000
set_option maxHeartbeats 4000000
namespace DQ
open PySem PySem.Spec PyProof.Rows L2 Mv DH
def oI : Option Int → PyData | none => .none | some n => .int n
structure Ed where
  num : Int
  make : Option Int
  own : List Int
deriving DecidableEq
def tD (ns : List Int) : PyData := .tuple (ns.map .int)
def Ed.d (e : Ed) : PyData := .tuple [.int e.num, oI e.make, tD e.own]
structure An where
  num : Int
  worth : Int
  count : Int
  make : Int
deriving DecidableEq
def An.d (a : An) : PyData := .tuple [.int a.num, .int a.worth, .int a.count, .int a.make]
def oA : Option An → PyData | none => .none | some a => a.d
structure Sc where
  worth : Int
  count : Int
  ans : List (Option An)
deriving DecidableEq
def Sc.d (s : Sc) : PyData := .tuple [.int s.worth, .int s.count, .tuple (s.ans.map oA)]
structure De where
  slot : Int
  count : Int
  asker : Int
  num : Int
  more : Int
  worth : Int
  make : Int
deriving DecidableEq
def De.d (s : De) : PyData := .tuple [.int s.slot, .int s.count, .int s.asker, .int s.num, .int s.more, .int s.worth, .int s.make]
/-- what is told to houses -/
inductive HW where
  | ed (e : Ed)
  | give (num giver slot : Int) (s : Sc)
  | taken (num slot : Int)
  | ask (asker num slot more book : Int)
deriving DecidableEq
def HW.d : HW → PyData
  | .ed e => .tuple [.str "edition", e.d]
  | .give n g s c => .tuple [.str "give", .int n, .int g, .int s, c.d]
  | .taken n s => .tuple [.str "taken", .int n, .int s]
  | .ask a n s m b => .tuple [.str "ask", .int a, .int n, .int s, .int m, .int b]
inductive Le where
  | house (h : Int) (w : HW)
  | has (h : Int) (num : Int)
  | answer (a : Int) (x : An)
  | book (a : Int) (e : Option Ed)
deriving DecidableEq
def edO : Option Ed → PyData | none => .tuple [.int 0, .none, .tuple []] | some e => e.d
def Le.d : Le → PyData
  | .house h w => .tuple [.str "house", .int h, w.d]
  | .has h n => .tuple [.str "board", .int 0, .tuple [.str "has", .int h, .int n]]
  | .answer a x => .tuple [.str "asker", .int a, .tuple [.str "answer", x.d]]
  | .book a e => .tuple [.str "asker", .int a, .tuple [.str "book", edO e]]
/-- dicts with numbers as keys -/
def kN {α : Type} (f : α → PyData) (m : List (Int × α)) : List (Key × S) := m.map fun p => (.inl p.1, .dat (f p.2))
structure Giv where
  to : Int
  num : Int
  giver : Int
  slot : Int
  sc : Sc
deriving DecidableEq
def Giv.le (g : Giv) : Le := .house g.to (.give g.num g.giver g.slot g.sc)
def Giv.d (g : Giv) : PyData := g.le.d
def iD (n : Int) : PyData := .int n
def t3 (p : Int × Int × Int) : PyData := .tuple [.int p.1, .int p.2.1, .int p.2.2]
structure Ho where
  name : Int
  now : Option Ed
  owned : Bool
  held : List (Int × Sc)
  giving : List (Int × Giv)
  takings : List (Int × Int)
  newest : List (Int × (Int × Int × Int))
  last : List (Int × An)
  done : List De
def dL {α : Type} (f : α → PyData) (m : List α) : S := .lst (m.map fun d => S.dat (f d))
def Ho.s (h : Ho) : S := .ins 1 [.dat (.int h.name), .dat (edO h.now), .dat (.bool h.owned), .dct false (kN Sc.d h.held), .dct false (kN Giv.d h.giving), .dct false (kN iD h.takings), .dct false (kN t3 h.newest), .dct false (kN An.d h.last), dL De.d h.done]
def getK {α : Type} : List (Int × α) → Int → Option α
  | [], _ => none
  | p :: r, k => if p.1 = k then some p.2 else getK r k
def putN {α : Type} : List (Int × α) → Int → α → List (Int × α)
  | [], k, x => [(k, x)]
  | p :: r, k, x => if p.1 = k then (p.1, x) :: r else p :: putN r k x
end DQ
set_option maxHeartbeats 400000
namespace DQ
open PySem PySem.Spec PyProof.Rows L2 Mv DH
variable {E E1 E2 : En} {d d1 d2 da db : En → Option Rs} {de df : En → Option (S × En)} {dt du : En → Option (Bool × En)} {s t : S}
def inS (k : Int) : Prop := 0 ≤ k ∧ k < 12
theorem eAnd_t {r : Option (Bool × En)} (h : dt E = some (true, E1)) (h2 : du E1 = r) : eAnd dt du E = r := by unfold eAnd; rw [h]; exact h2
theorem eAnd_f (h : dt E = some (false, E1)) : eAnd dt du E = some (false, E1) := by unfold eAnd; rw [h]
end DQ
set_option maxHeartbeats 400000
namespace DQ
open PySem PySem.Spec PyProof.Rows L2 Mv DH
variable {E E1 E2 : En} {d d1 d2 da db : En → Option Rs} {de df : En → Option (S × En)} {dt du : En → Option (Bool × En)} {s t : S}
theorem len_le : ∀ (n : Nat) (l : List Int), l.Nodup → (∀ x ∈ l, 0 ≤ x ∧ x < n) → l.length ≤ n
  | 0, [], _, _ => Nat.le_refl _
  | 0, a :: _, _, h => by have := h a List.mem_cons_self; omega
  | n + 1, l, nd, h => by
    have ih := len_le n (l.erase (n : Int)) (nd.erase _) fun x m => by
      have m2 := nd.mem_erase_iff.mp m
      have := h x m2.2
      have ne := m2.1
      omega
    have e : l.length ≤ (l.erase (n : Int)).length + 1 := by
      rw [List.length_erase]
      split <;> omega
    omega
def KOk {α : Type} (n : Nat) (m : List (Int × α)) : Prop := (m.map (·.1)).Nodup ∧ ∀ k : Int, k ∈ m.map (·.1) → 0 ≤ k ∧ k < (n : Int)
theorem KOk.len {α : Type} {n : Nat} {m : List (Int × α)} (h : KOk n m) : m.length ≤ n := by have := len_le n _ h.1 h.2; simpa using this
theorem keys_put {α : Type} {k : Int} {x : α} : ∀ {m : List (Int × α)}, (putN m k x).map (·.1) = if k ∈ m.map (·.1) then m.map (·.1) else m.map (·.1) ++ [k]
  | [] => rfl
  | p :: r => by
    by_cases e : p.1 = k
    · simp [putN, e]
    · simp only [putN, if_neg e, List.map_cons, keys_put (m := r), List.mem_cons]
      by_cases h : k ∈ r.map (·.1)
      · rw [if_pos h, if_pos (.inr h)]
      · rw [if_neg h, if_neg (fun z => z.elim (fun z => e z.symm) h)]; rfl
theorem KOk.put {α : Type} {n : Nat} {m : List (Int × α)} (h : KOk n m) {k : Int} (x : α) (hk : 0 ≤ k ∧ k < n) : KOk n (putN m k x) := by
  unfold KOk
  rw [keys_put]
  split
  · exact h
  · next e =>
    refine ⟨List.nodup_append.mpr ⟨h.1, by simp, fun a m b m2 => ?_⟩, fun j m => ?_⟩
    · rw [List.mem_singleton.mp m2]; exact fun z => e (z ▸ m)
    · rcases List.mem_append.mp m with m | m
      · exact h.2 j m
      · rw [List.mem_singleton.mp m]; exact hk
def Ho.num (h : Ho) : Int := match h.now with | none => 0 | some e => e.num
def Ho.make (h : Ho) : Option Int := match h.now with | none => none | some e => e.make
structure HoOk (h : Ho) : Prop where
  now : ∀ e, h.now = some e → e.own.length = 12 ∧ 1 ≤ e.num
  held : KOk 12 h.held
  ans : ∀ p ∈ h.held, p.2.ans.length = 6
  giving : KOk 12 h.giving
  takings : KOk 12 h.takings
  newest : KOk 6 h.newest
  last : KOk 6 h.last
  done : h.done.length < 99000
end DQ
set_option maxHeartbeats 400000
set_option maxHeartbeats 400000
namespace DQ
open PySem PySem.Spec PyProof.Rows L2 Mv DH
variable {E E1 E2 : En} {d d1 d2 da db : En → Option Rs} {de df : En → Option (S × En)} {dt du : En → Option (Bool × En)} {s t : S}
def maxT (p q : Int × Int × Int) : Int × Int × Int := if PySem.W.dataLt (t3 p) (t3 q) = true then q else p
def maxA (p q : An) : An := if PySem.W.dataLt p.d q.d = true then q else p
def Ho.new (h : Ho) (a n k b : Int) : Ho := { h with newest := putN h.newest a (maxT ((getK h.newest a).getD (0, 0, 0)) (n, b, k)) }
def Ho.ans (h : Ho) (a : Int) (x : An) : Ho := { h with last := putN h.last a (maxA ((getK h.last a).getD x) x) }
theorem HoOk.new {h : Ho} (ok : HoOk h) {a n k b : Int} (ha : 0 ≤ a ∧ a < 6) : HoOk (h.new a n k b) := ⟨ok.now, ok.held, ok.ans, ok.giving, ok.takings, ok.newest.put _ ha, ok.last, ok.done⟩
end DQ
set_option maxHeartbeats 400000
namespace DQ
open PySem PySem.Spec PyProof.Rows L2 Mv DH
variable {E E1 E2 E' : En} {d d1 d2 da db : En → Option Rs} {de df : En → Option (S × En)} {dt du : En → Option (Bool × En)} {s t : S}
def frs (n : Nat) : Sl → Bool
  | .bor (i :: _) => decide (i < n)
  | _ => true
def newSc : Sc := ⟨0, 0, [none, none, none, none, none, none]⟩
def newHeld : List (Int × Sc) := [(0, newSc), (1, newSc), (2, newSc), (3, newSc), (4, newSc), (5, newSc), (6, newSc), (7, newSc), (8, newSc), (9, newSc), (10, newSc), (11, newSc)]
def Ho.pre (h : Ho) (e : Ed) : Ho := { h with now := some e, takings := [], owned := if h.name ∈ e.own then true else h.owned, held := if e.num = 1 then newHeld else h.held }
end DQ
set_option maxHeartbeats 400000
namespace DQ
open PySem PySem.Spec PyProof.Rows L2 Mv DH
variable {E E1 E2 E' : En} {d d1 d2 da db : En → Option Rs} {de df : En → Option (S × En)} {dt du : En → Option (Bool × En)} {s t : S}
theorem newHeld_ok : KOk 12 newHeld ∧ ∀ p ∈ newHeld, p.2.ans.length = 6 := by
  refine ⟨⟨by decide, ?_⟩, by decide⟩
  intro k m
  have : ∀ k ∈ newHeld.map (·.1), (0 : Int) ≤ k ∧ k < 12 := by decide
  exact this k m
theorem HoOk.pre {h : Ho} {e : Ed} (ok : HoOk h) (h12 : e.own.length = 12) (h1 : 1 ≤ e.num) : HoOk (h.pre e) := by
  refine ⟨fun e' z => by cases z; exact ⟨h12, h1⟩, ?_, ?_, ok.giving, ⟨List.nodup_nil, fun _ m => nomatch m⟩, ok.newest, ok.last, ok.done⟩
  · show KOk 12 (if e.num = 1 then newHeld else h.held)
    split
    · exact newHeld_ok.1
    · exact ok.held
  · show ∀ p ∈ (if e.num = 1 then newHeld else h.held), p.2.ans.length = 6
    split
    · exact newHeld_ok.2
    · exact ok.ans
end DQ
set_option maxHeartbeats 400000
namespace DQ
open PySem PySem.Spec PyProof.Rows L2 Mv DH
variable {E E1 E2 E' : En} {d d1 d2 da db : En → Option Rs} {de df : En → Option (S × En)} {dt du : En → Option (Bool × En)} {s t : S}
def HW.Ok : HW → Prop
  | .ed e => e.own.length = 12 ∧ 1 ≤ e.num
  | .give n g k c => 1 ≤ n ∧ inS k ∧ c.ans.length = 6
  | .taken n k => True
  | .ask a n k m b => (0 ≤ a ∧ a < 6) ∧ inS k
end DQ
set_option maxHeartbeats 400000
set_option maxHeartbeats 400000
set_option maxHeartbeats 400000
namespace DQ
open PySem PySem.Spec PyProof.Rows L2 Mv DH
variable {E E1 E2 E' : En} {d d1 d2 da db : En → Option Rs} {de df : En → Option (S × En)} {dt du : En → Option (Bool × En)}
structure Ak where
  name : Int
  now : Ed
  num : Int
  way : Option (Int × Int)
  last : Option An
def wD : Option (Int × Int) → PyData | none => .none | some (s, m) => .tuple [.int s, .int m]
def Ak.s (a : Ak) : S := .ins 2 [.dat (.int a.name), .dat a.now.d, .dat (.int a.num), .dat (wD a.way), .dat (oA a.last)]
structure EdOk (e : Ed) : Prop where
  num : 1 ≤ e.num ∧ e.num ≤ 1000000
  make : ∀ k, e.make = some k → 0 ≤ k ∧ k ≤ 1000000
  own : e.own.length = 12
  ok : ∀ i ∈ e.own, 0 ≤ i ∧ i ≤ 19
theorem v_within {i a b : Int} : g_is_within [.dat (.int i), .dat (.int a), .dat (.int b)] = some (.dat (.bool (decide (a ≤ i) && decide (i ≤ b))), [.dat (.int i), .dat (.int a), .dat (.int b)]) := rfl
theorem v_within_ok {i a b : Int} (h1 : a ≤ i) (h2 : i ≤ b) : g_is_within [.dat (.int i), .dat (.int a), .dat (.int b)] = some (.dat (.bool true), [.dat (.int i), .dat (.int a), .dat (.int b)]) := by
  rw [v_within, decide_eq_true h1, decide_eq_true h2]; rfl
theorem v_is_owners {ns : List Int} (hl : ns.length = 12) (h : ∀ i ∈ ns, 0 ≤ i ∧ i ≤ 19) : g_is_owners [.dat (tD ns)] = some (.dat (.bool true), [.dat (tD ns)]) := K02.v_is_owners hl h
theorem v_is_edition {e : Ed} (ok : EdOk e) : g_is_edition [.dat e.d] = some (.dat (.bool true), [.dat e.d]) := by
  obtain ⟨num, make, own⟩ := e
  let T : En := [.own (.dat (Ed.d ⟨num, make, own⟩))]
  let E1 : En := [.own (.dat (Ed.d ⟨num, make, own⟩)), .own (.dat (.int num)), .own (.dat (oI make)), .own (.dat (tD own))] ++ T
  have s1 : dIf (ePureT (dOr (dNot (dTest (dIsi .tuple (dVar 0)))) (dTest (dOp fNeS (dLen (dVar 0)) (dC (.int 3)))))) (dRet (ePure (dC (.bool false)))) dNext (entry 4 [.dat (Ed.d ⟨num, make, own⟩)]) = some (.nx (entry 4 [.dat (Ed.d ⟨num, make, own⟩)])) := rfl
  have s2 : dAsg (bTup 3 (bCons (bName 1) (bCons (bName 2) (bCons (bName 3) bNil)))) (ePure (dVar 0)) (entry 4 [.dat (Ed.d ⟨num, make, own⟩)]) = some (.nx E1) := rfl
  have s3 : dIf (eAnd (ePureT (dTest (dOp fNotN (dVar 2) (dC .none)))) (eNot (eTest (eCall g_is_within (dCons (dVar 2) (dCons (dC (.int 0)) (dCons (dC (.int 1000000)) dNil))))))) (dRet (ePure (dC (.bool false)))) dNext E1 = some (.nx E1) := by
    cases make with
    | none => exact dIf_f (E1 := E1) (eAnd_f rfl) rfl
    | some k =>
      have := ok.make k rfl
      exact dIf_f (E1 := E1) (eAnd_t (E1 := E1) rfl (eNot_go (eTest_go (eCall_go (rs := [.val (.dat (.int k)), .val (.dat (.int 0)), .val (.dat (.int 1000000))]) rfl rfl rfl (v_within_ok this.1 this.2))))) rfl
  exact fnG_rt (dSeq_go s1 (dSeq_go s2 (dSeq_go s3 (dRet_go (eAndV_t (E1 := E1) (eCall_go (rs := [.val (.dat (.int num)), .val (.dat (.int 1)), .val (.dat (.int 1000000))]) rfl rfl rfl (v_within_ok ok.num.1 ok.num.2)) (eCall_go (rs := [.val (.dat (tD own))]) rfl rfl rfl (v_is_owners ok.own ok.ok))))))) rfl
theorem v_check_edition {e : Ed} (ok : EdOk e) : g_check_edition [.dat e.d] = some (.dat .none, [.dat e.d]) :=
  fnG_nx (dIf_f (E1 := entry 1 [.dat e.d]) (eNot_go (eTest_go (eCall_go (rs := [.val (.dat e.d)]) rfl rfl rfl (v_is_edition ok)))) rfl) rfl
def Ak.ask (a : Ak) (k m : Int) : Ak := { a with num := a.num + 1, way := some (k, m) }
end DQ
set_option maxHeartbeats 1000000
namespace DT
open PySem PySem.Spec PyProof.Rows L2 Mv TL
open Gn hiding g__law_take g__law_begun d__law_take d__law_begun
theorem pureT_go {E : En} {dt : En → Option Bool} {b : Bool} (h : dt E = some b) : ePureT dt E = some (b, E) := by unfold ePureT; rw [h]; rfl
theorem pure_go {E : En} {d : En → Option Rs} {s : S} (h : d E = some (.val s)) : ePure d E = some (s, E) := by unfold ePure; rw [h]
theorem dot_plain {n : Nat} (h : n < 10 ^ 7) : K19.g_is_plain [.dat (.str (word n))] = some (.dat (.bool true), [.dat (.str (word n))]) := by
  let E : En := entry 1 [.dat (.str (word n))]
  have h7 := word_len7 h
  have a1 : dTest (dM0 fDig (dVar 0)) E = some true := by
    show some (Txt.isdigit (word n)) = _
    rw [word_dig]
  have a2 : dTest (dOp fGt (dCB fLenS (dCons (dVar 0) dNil)) (dC (.int 7))) E = some false := by
    have : dCB fLenS (dCons (dVar 0) dNil) E = some (.val (.dat (.int ((word n).length : Nat)))) := by
      show ((if (word n).length ≤ sizeLine then some (PyData.int ((word n).length : Nat)) else none).map fun c => Rs.val (.dat c)) = _
      rw [if_pos (by have : 7 ≤ sizeLine := by decide
                     omega)]
      rfl
    unfold dTest
    rw [dOp_go this rfl rfl rfl rfl]
    show some (decide ((7 : Int) < ((word n).length : Nat))) = _
    rw [decide_eq_false (by omega)]
  have t1 : ePureT (dOr (dNot (dTest (dM0 fDig (dVar 0)))) (dTest (dOp fGt (dCB fLenS (dCons (dVar 0) dNil)) (dC (.int 7))))) E = some (false, E) := by
    refine pureT_go ?_
    unfold dOr dNot
    rw [a1]
    exact a2
  have r1 : dOrV (dOp fEqS (dVar 0) (dC (.str "0"))) (dNotV (dM1 fStarts (dVar 0) (dC (.str "0")))) E = some (.val (.dat (.bool true))) := by
    unfold dOrV
    have e0 : dOp fEqS (dVar 0) (dC (.str "0")) E = some (.val (.dat (.bool (decide (word n = ("0" : Str)))))) := rfl
    rw [e0]
    by_cases hw : word n = ("0" : Str)
    · rw [decide_eq_true hw]
    · rw [decide_eq_false hw]
      have : 0 < n := by
        rcases Nat.eq_zero_or_pos n with rfl | h
        · exact absurd (by decide +kernel : word 0 = ("0" : Str)) hw
        · exact h
      have s0 := starts0 this
      show (match dM1 fStarts (dVar 0) (dC (.str "0")) E with | _ => _) = _
      have e1 : dM1 fStarts (dVar 0) (dC (.str "0")) E = some (.val (.dat (.bool (Txt.startswith (word n) ("0" : Str))))) := rfl
      unfold dNotV
      rw [e1, show Txt.startswith (word n) ("0" : Str) = false from s0]
      rfl
  exact fnG_rt (dSeq_go (dIf_f t1 rfl) (dRet_go (pure_go r1))) rfl
end DT
set_option maxHeartbeats 1000000
namespace DT
open PySem PySem.Spec PyProof.Rows L2 Mv TL
open Gn hiding g__law_take g__law_begun d__law_take d__law_begun
abbrev Ed := DQ.Ed
abbrev EdOk := DQ.EdOk
theorem check_ok {e : Ed} (ok : EdOk e) : K19.g_check_edition [.dat e.d] = some (.dat .none, [.dat e.d]) := DQ.v_check_edition ok
def dash : Str := Str.ofString "-"
def wI (i : Int) : Str := Str.ofString (toString i)
theorem wI_nat (n : Nat) : wI (n : Int) = word n := rfl
theorem int_word {n : Nat} (h : n < 10 ^ 7) : PySem.intText? (word n) = some (n : Int) := int_num (Nat.le_trans (numL_len (k := 7) (by decide) h) (by decide))
/-- a word of an edition: a number below 10 ** 7, or the dash -/
inductive Wd where
  | num (n : Nat)
  | dash
def Wd.s : Wd → Str | .num n => word n | .dash => DT.dash
def Wd.d : Wd → PyData | .num n => .int (n : Int) | .dash => .none
def Wd.ok (p : Nat) : Wd → Prop | .num n => n < 10 ^ 7 ∧ (2 ≤ p → n ≤ 19) | .dash => p = 1
theorem stand {w : Wd} {p : Nat} (h : w.ok p) : K19.g_can_stand [.dat (.str w.s), .dat (.int (p : Nat))] = some (.dat (.bool true), [.dat (.str w.s), .dat (.int (p : Nat))]) := by
  let E : En := entry 2 [.dat (.str w.s), .dat (.int (p : Nat))]
  have e0 : dTest (dOp fEqS (dVar 0) (dC (.str "-"))) E = some (decide (w.s = ("-" : Str))) := rfl
  cases w with
  | dash =>
    have hp : p = 1 := h
    subst hp
    have t : ePureT (dTest (dOp fEqS (dVar 0) (dC (.str "-")))) E = some (true, E) := pureT_go (e0.trans (by rw [decide_eq_true (show Wd.dash.s = ("-" : Str) from rfl)]))
    exact fnG_rt (dSeq_rt (dIf_t t (dRet_go (pure_go (rfl : dOp fEqS (dVar 1) (dC (.int 1)) E = some (.val (.dat (.bool true)))))))) rfl
  | num n =>
    have h7 : n < 10 ^ 7 := h.1
    have t : ePureT (dTest (dOp fEqS (dVar 0) (dC (.str "-")))) E = some (false, E) := pureT_go (e0.trans (by rw [decide_eq_false (show (Wd.num n).s ≠ ("-" : Str) from word_dash n)]))
    have c1 : eCall K19.g_is_plain (dCons (dVar 0) dNil) E = some (.dat (.bool true), E) := eCall_go (rs := [.val (.dat (.str (word n)))]) rfl rfl rfl (dot_plain h7)
    have c2 : eOrV (ePure (dOp fLt (dVar 1) (dC (.int 2)))) (eCall K19.g_is_house (dCons (dCB fIntT (dCons (dVar 0) dNil)) dNil)) E = some (.dat (.bool true), E) := by
      have l0 : ePure (dOp fLt (dVar 1) (dC (.int 2))) E = some (.dat (.bool (decide (((p : Nat) : Int) < 2))), E) := rfl
      by_cases hp : ((p : Nat) : Int) < 2
      · rw [decide_eq_true hp] at l0
        unfold eOrV
        rw [l0]
      · rw [decide_eq_false hp] at l0
        have hn : n ≤ 19 := h.2 (by omega)
        have i1 : dCB fIntT (dCons (dVar 0) dNil) E = some (.val (.dat (.int (n : Nat)))) := by
          show ((if (word n).length ≤ 640 then (PySem.intText? (word n)).map PyData.int else none).map fun c => Rs.val (.dat c)) = _
          rw [if_pos (Nat.le_trans (word_len7 h7) (by decide)), int_word h7]
          rfl
        have i2 : dCons (dCB fIntT (dCons (dVar 0) dNil)) dNil E = some [.val (.dat (.int (n : Nat)))] := dcons_go i1 rfl
        have hh : K19.g_is_house [.dat (.int (n : Nat))] = some (.dat (.bool true), [.dat (.int (n : Nat))]) := K02.v_house_ok (i := (n : Int)) ⟨by omega, by omega⟩
        unfold eOrV
        rw [l0]
        exact eCall_go (rs := [.val (.dat (.int (n : Nat)))]) i2 rfl rfl hh
    exact fnG_rt (dSeq_go (dIf_f t rfl) (dRet_go (eAndV_t c1 c2))) rfl
def mkW : Option Int → Wd | none => .dash | some k => .num k.toNat
def edW (e : Ed) : List Wd := .num e.num.toNat :: mkW e.make :: e.own.map fun o => .num o.toNat
def txt (e : Ed) : Str := Txt.join (Str.ofString " ") ((edW e).map Wd.s)
theorem edW_len {e : Ed} (ok : EdOk e) : (edW e).length = 14 := by
  show (e.own.map _).length + 1 + 1 = 14
  rw [List.length_map, ok.own]
theorem edW_ok {e : Ed} (ok : EdOk e) {p : Nat} {w : Wd} (h : (edW e)[p]? = some w) : w.ok p := by
  have n1 := ok.num
  match p with
  | 0 =>
    simp [edW] at h
    subst h
    exact ⟨by omega, fun z => by omega⟩
  | 1 =>
    simp [edW] at h
    subst h
    cases hm : e.make with
    | none => exact rfl
    | some k =>
      have := ok.make k hm
      exact ⟨by omega, fun z => by omega⟩
  | p + 2 =>
    simp [edW] at h
    obtain ⟨o, ho, rfl⟩ := h
    have := ok.ok o (List.mem_of_getElem? ho)
    exact ⟨by omega, fun _ => by omega⟩
theorem Wd.len {w : Wd} {p : Nat} (h : w.ok p) : w.s.length ≤ 7 := by
  cases w with
  | num n => exact word_len7 h.1
  | dash => decide +kernel
theorem Wd.free (w : Wd) : 32 ∉ tl w.s := by
  cases w with
  | num n =>
    show 32 ∉ (word n).cps.toList
    rw [tl_word]
    exact numL_free (.inl (by decide))
  | dash => decide +kernel
theorem edW_mem {e : Ed} (ok : EdOk e) {w : Wd} (h : w ∈ edW e) : w.s.length ≤ 7 := by
  obtain ⟨p, hp⟩ := List.mem_iff_getElem?.mp h
  exact Wd.len (edW_ok ok hp)
theorem split_txt {e : Ed} (ok : EdOk e) : Txt.split (txt e) (Str.ofString " ") = (edW e).map Wd.s := by
  refine split_join (s := 32) (S := []) (by decide +kernel) (by decide +kernel) (by simp [edW]) fun p hp => ?_
  obtain ⟨w, _, rfl⟩ := List.mem_map.mp hp
  exact Wd.free w
end DT
set_option maxHeartbeats 1000000
namespace DT
open PySem PySem.Spec PyProof.Rows L2 Mv TL
open Gn hiding g__law_take g__law_begun d__law_take d__law_begun
/-- what stands in the row of words ahead of str(..): a number, or the dash -/
def Wd.r : Wd → PyData | .num n => .int (n : Int) | .dash => .str DT.dash
def eWr (e : Ed) (v4 v5 : Sl) (G : En) : En := [.own (.dat e.d), .own (.dat (.int e.num)), .own (.dat (DQ.oI e.make)), .own (.dat (DQ.tD e.own)), v4, v5, .own (.dat e.d)] ++ G
theorem strs_map : ∀ (ws : List Wd), strsS (ws.map fun w => S.dat (.str w.s)) = some (ws.map Wd.s)
  | [] => rfl
  | w :: ws => by
    show (strsS (ws.map fun w => S.dat (.str w.s))).map (w.s :: ·) = _
    rw [strs_map ws]; rfl
theorem sum_le {k : Nat} : ∀ (ls : List Nat), (∀ l ∈ ls, l ≤ k) → ls.sum ≤ ls.length * k
  | [], _ => Nat.zero_le _
  | l :: ls, h => by
    have := sum_le ls fun x m => h x (List.mem_cons_of_mem _ m)
    have := h l List.mem_cons_self
    simp only [List.sum_cons, List.length_cons, Nat.succ_mul]
    omega
theorem v_written {e : Ed} (ok : EdOk e) : K19.g_written [.dat e.d] = some (.dat (.str (txt e)), [.dat e.d]) := by
  have n1 := ok.num
  let E0 : En := entry 6 [.dat e.d]
  let E1 : En := eWr e .no .no []
  have s1 : dDrop (eCall K19.g_check_edition (dCons (dVar 0) dNil)) E0 = some (.nx E0) := dDrop_go (eCall_go (rs := [.val (.dat e.d)]) rfl rfl rfl (check_ok ok))
  have s2 : dAsg (bTup 3 (bCons (bName 1) (bCons (bName 2) (bCons (bName 3) bNil)))) (ePure (dVar 0)) E0 = some (.nx E1) := rfl
  have hr : .int e.num :: (match e.make with | none => PyData.str "-" | some k => .int k) :: e.own.map PyData.int = (edW e).map Wd.r := by
    show _ = PyData.int ((e.num.toNat : Nat) : Int) :: (mkW e.make).r :: (e.own.map fun o => Wd.num o.toNat).map Wd.r
    rw [Int.toNat_of_nonneg (by omega)]
    congr 2
    · cases hm : e.make with
      | none => rfl
      | some k =>
        have := ok.make k hm
        show PyData.int k = .int ((k.toNat : Nat) : Int)
        rw [Int.toNat_of_nonneg this.1]
    · rw [List.map_map]
      refine List.map_congr_left fun o ho => ?_
      have := ok.ok o ho
      show PyData.int o = .int ((o.toNat : Nat) : Int)
      rw [Int.toNat_of_nonneg this.1]
  let E2 : En := eWr e (.own (dL Wd.r (edW e))) .no []
  have s3 : dAlias 4 (dLst (dCons (dVar 1) (dCons (dIfE (dTest (dOp fIsN (dVar 2) (dC .none))) (dC (.str "-")) (dVar 2)) (dStarA (dVar 3) dNil)))) E1 = some (.nx E2) := by
    have a1 : dIfE (dTest (dOp fIsN (dVar 2) (dC .none))) (dC (.str "-")) (dVar 2) E1 = some (.val (.dat (match e.make with | none => PyData.str "-" | some k => .int k))) := by
      show dIfE _ _ _ (eWr e .no .no []) = _
      unfold eWr
      cases e.make <;> rfl
    have a2 : dStarA (dVar 3) dNil E1 = some ((e.own.map PyData.int).map fun d => Rs.val (.dat d)) := by
      show some ((e.own.map PyData.int).map (fun d => Rs.val (.dat d)) ++ []) = _
      rw [List.append_nil]
    have a3 : dCons (dVar 1) (dCons (dIfE (dTest (dOp fIsN (dVar 2) (dC .none))) (dC (.str "-")) (dVar 2)) (dStarA (dVar 3) dNil)) E1 = some (((edW e).map Wd.r).map fun d => Rs.val (.dat d)) := by
      rw [← hr]
      exact dcons_go rfl (dcons_go a1 a2)
    unfold dAlias dLst
    rw [a3]
    have ll : (((edW e).map Wd.r).map fun d => Rs.val (.dat d)).length < 1000 := by rw [List.length_map, List.length_map, edW_len ok]; decide
    have ls : ∀ ds : List PyData, lstS (ds.map fun d => Rs.val (.dat d)) = some (ds.map S.dat) := by
      intro ds
      induction ds with
      | nil => rfl
      | cons d ds ih =>
        show (lstS (ds.map fun d => Rs.val (.dat d))).map (S.dat d :: ·) = _
        rw [ih]; rfl
    simp only [if_pos ll, ls, Option.map_some]
    have : S.lst (((edW e).map Wd.r).map S.dat) = dL Wd.r (edW e) := by simp [dL]
    rw [this]
    rfl
  have s4 : eLc (iLst (dVar 4)) 5 eYes (ePure (dCB fStr (dCons (dVar 5) dNil))) E2 = some (.lst ((edW e).map fun w => S.dat (.str w.s)), E2) := by
    have hl : (edW e).length < 100000 := by rw [edW_len ok]; decide
    have := lcP (xs := edW e) (f := Wd.r) (p := fun _ => true) (g := fun w => S.dat (.str w.s)) (q := [4]) (j := 5) (src := iLst (dVar 4)) (dt := eYes) (de := ePure (dCB fStr (dCons (dVar 5) dNil))) (E := E2) (E0 := E2 ++ [.bor [4]]) hl (by
        show some (Src.mk E2 [.bor [4]] rdP ((edW e).map fun d => S.dat d.r).length) = _
        rw [List.length_map]) rfl rfl rfl (fun w hw => by
          refine ⟨eWr e (.own (dL Wd.r (edW e))) (.own (.dat w.r)) [.bor [4]], rfl, rfl, fun _ => ?_, rfl⟩
          refine pure_go ?_
          cases w with
          | dash => rfl
          | num n =>
            obtain ⟨p, hp⟩ := List.mem_iff_getElem?.mp hw
            have h7 := (edW_ok ok hp).1
            show ((if ((n : Nat) : Int).natAbs.log2 < 1920 then some (PyData.str (toString ((n : Nat) : Int))) else none).map fun c => Rs.val (.dat c)) = _
            rw [if_pos (by
              rw [Int.natAbs_natCast]
              rcases Nat.eq_zero_or_pos n with rfl | hn
              · decide
              · exact (Nat.log2_lt (by omega)).mpr (Nat.lt_of_lt_of_le h7 (Nat.le_trans (by decide : (10 : Nat) ^ 7 ≤ 2 ^ 24) (Nat.pow_le_pow_right (by decide) (by decide)))))]
            rfl)
    rw [this, List.filter_eq_self.mpr (fun _ _ => rfl)]
    rfl
  have s5 : eJoin (dC (.str " ")) (eLc (iLst (dVar 4)) 5 eYes (ePure (dCB fStr (dCons (dVar 5) dNil)))) E2 = some (.dat (.str (txt e)), E2) := by
    have d0 : dC (.str " ") E2 = some (.val (.dat (.str (Str.ofString " ")))) := rfl
    unfold eJoin
    simp only [d0, s4, strs_map]
    rw [if_pos]
    · rfl
    · have h1 := sum_le (k := 7) (((edW e).map Wd.s).map (·.length)) (fun l hl => by
        obtain ⟨x, hx, rfl⟩ := List.mem_map.mp hl
        obtain ⟨w, hw, rfl⟩ := List.mem_map.mp hx
        exact edW_mem ok hw)
      rw [List.length_map, List.length_map, edW_len ok] at h1
      rw [List.length_map, edW_len ok]
      have : (Str.ofString " ").length = 1 := by decide +kernel
      show _ + 14 * (Str.ofString " ").length ≤ _
      rw [this]
      omega
  exact fnG_rt (E := E2) (dSeq_go s1 (dSeq_go s2 (dSeq_go s3 (dRet_go s5)))) rfl
end DT
set_option maxHeartbeats 1000000
namespace DT
open PySem PySem.Spec PyProof.Rows L2 Mv TL
open Gn hiding g__law_take g__law_begun d__law_take d__law_begun
def Wd.w (w : Wd) : PyData := .str w.s
def Qd (s : Sl) : Prop := s = .no ∨ ∃ d, s = .own (.dat d)
def eRd (e : Ed) (v2 v3 v4 v5 v6 v7 : Sl) (G : En) : En := [.own (.dat (.str (txt e))), .own (dL Wd.w (edW e)), v2, v3, v4, v5, v6, v7, .own (.dat (.str (txt e)))] ++ G
theorem txt_len {e : Ed} (ok : EdOk e) : (txt e).length ≤ 200 := by
  show (Txt.join (Str.ofString " ") ((edW e).map Wd.s)).length ≤ _
  rw [join_eq]
  have h0 := StrLaws.join_length_le (Str.ofString " ") ((edW e).map Wd.s)
  have h1 := sum_le (k := 7) (((edW e).map Wd.s).map (·.length)) (fun l hl => by
    obtain ⟨x, hx, rfl⟩ := List.mem_map.mp hl
    obtain ⟨w, hw, rfl⟩ := List.mem_map.mp hx
    exact edW_mem ok hw)
  rw [List.length_map, List.length_map, edW_len ok] at h1
  rw [List.length_map, edW_len ok] at h0
  have : (Str.ofString " ").length = 1 := by decide +kernel
  rw [this] at h0
  omega
theorem edW_d {e : Ed} (ok : EdOk e) : (edW e).map Wd.d = .int e.num :: DQ.oI e.make :: e.own.map PyData.int := by
  have n1 := ok.num
  show PyData.int ((e.num.toNat : Nat) : Int) :: (mkW e.make).d :: (e.own.map fun o => Wd.num o.toNat).map Wd.d = _
  rw [Int.toNat_of_nonneg (by omega)]
  congr 2
  · cases hm : e.make with
    | none => rfl
    | some k =>
      have := ok.make k hm
      show PyData.int ((k.toNat : Nat) : Int) = .int k
      rw [Int.toNat_of_nonneg this.1]
  · rw [List.map_map]
    refine List.map_congr_left fun o ho => ?_
    have := ok.ok o ho
    show PyData.int ((o.toNat : Nat) : Int) = .int o
    rw [Int.toNat_of_nonneg this.1]
section
variable {e : Ed}
theorem r_len {v2 v3 v4 v5 v6 v7 : Sl} {G : En} : dLen (dVar 1) (eRd e v2 v3 v4 v5 v6 v7 G) = some (.val (.dat (.int (((edW e).length : Nat) : Int)))) := by
  show some (Rs.val (.dat (.int ((((edW e).map fun d => S.dat d.w).length : Nat) : Int)))) = _
  rw [List.length_map]
theorem r_turn (ok : EdOk e) {i : Nat} (hi : i < 14) : dIf (eOr (ePureT (dTest (dOp fEqS (dVar 2) (dLen (dVar 1))))) (eNot (eTest (eCall K19.g_can_stand (dCons (dIxL (dVar 1) (dVar 2)) (dCons (dVar 2) dNil)))))) dNever dNext (eRd e (.own (.dat (.int (i : Nat)))) .no .no .no .no .no []) =
    some (.nx (eRd e (.own (.dat (.int (i : Nat)))) .no .no .no .no .no [])) := by
  let E : En := eRd e (.own (.dat (.int (i : Nat)))) .no .no .no .no .no []
  have hw : (edW e)[i]? = some ((edW e)[i]'(by rw [edW_len ok]; exact hi)) := List.getElem?_eq_getElem _
  generalize ((edW e)[i]'(by rw [edW_len ok]; exact hi)) = w at hw
  have t1 : ePureT (dTest (dOp fEqS (dVar 2) (dLen (dVar 1)))) E = some (false, E) := by
    refine pureT_go ?_
    unfold dTest
    rw [dOp_go (a := .val (.dat (.int (i : Nat)))) (x := .int (i : Nat)) rfl r_len rfl rfl rfl, edW_len ok]
    show some (decide (((i : Nat) : Int) = ((14 : Nat) : Int))) = _
    rw [decide_eq_false (by omega)]
  have ix : dIxL (dVar 1) (dVar 2) E = some (.val (.dat (.str w.s))) := ixL_go (f := Wd.w) (xs := edW e) (k := i) rfl rfl rfl hw
  have c1 : eCall K19.g_can_stand (dCons (dIxL (dVar 1) (dVar 2)) (dCons (dVar 2) dNil)) E = some (.dat (.bool true), E) :=
    eCall_go (rs := [.val (.dat (.str w.s)), .val (.dat (.int (i : Nat)))]) (dcons_go ix rfl) rfl rfl (stand (edW_ok ok hw))
  exact dIf_f (eOr_f t1 (eNot_go (eTest_go c1))) rfl
theorem v_read (ok : EdOk e) : K19.g_read [.dat (.str (txt e))] = some (.dat e.d, [.dat (.str (txt e))]) := by
  have tl := txt_len ok
  let E0 : En := entry 8 [.dat (.str (txt e))]
  let E1 : En := eRd e .no .no .no .no .no .no []
  have s1 : dAlias 1 (dSplit (dVar 0) (dC (.str " "))) E0 = some (.nx E1) := by
    have : dSplit (dVar 0) (dC (.str " ")) E0 = some (.val (dL Wd.w (edW e))) := by
      show (if ((Str.ofString " ").length == 0) = false ∧ (txt e).length + 2 ≤ sizeLine then some (Rs.val (.lst ((Txt.split (txt e) (Str.ofString " ")).map fun x => .dat (.str x)))) else none) = _
      rw [if_pos ⟨by decide +kernel, by have : 202 ≤ sizeLine := by decide
                                        omega⟩, split_txt ok, List.map_map]
      rfl
    unfold dAlias
    rw [this]
    rfl
  have hsrc := iRange_go (E := E1) (d := dC (.int 14)) (j := 14) rfl (by omega) (by omega)
  have hloop := loop_inv (rd := fun _ i => some (if i < 14 then some (.val (.dat (.int (i : Nat)))) else none)) (bd := bName 2) (db := dIf (eOr (ePureT (dTest (dOp fEqS (dVar 2) (dLen (dVar 1))))) (eNot (eTest (eCall K19.g_can_stand (dCons (dIxL (dVar 1) (dVar 2)) (dCons (dVar 2) dNil)))))) dNever dNext)
    (fun _ E => ∃ v2, E = eRd e v2 .no .no .no .no .no [] ∧ Qd v2) 14
    (fun i E hi hJ => by
      obtain ⟨v2, rfl, q⟩ := hJ
      refine ⟨_, _, _, rng_rd (E := []) hi, ?_, r_turn ok hi, _, rfl, .inr ⟨_, rfl⟩⟩
      show some (slotSet _ 2 _) = _
      rcases q with rfl | ⟨d, rfl⟩ <;> rfl)
    (fun E _ => rng_end (E := [])) 14 0 14 E1 (by omega) (Nat.le_refl _) ⟨.no, rfl, .inl rfl⟩
  obtain ⟨E', hE, v2, rfl, q⟩ := hloop
  have s2 := dFor_go hsrc (by rw [List.append_nil]; exact hE)
  let E2 : En := eRd e v2 .no .no .no .no .no []
  have s3 : dIf (ePureT (dTest (dOp fGt (dLen (dVar 1)) (dC (.int 14))))) dNever dNext E2 = some (.nx E2) := by
    have t : ePureT (dTest (dOp fGt (dLen (dVar 1)) (dC (.int 14)))) E2 = some (false, E2) := by
      refine pureT_go ?_
      unfold dTest
      rw [dOp_go (b := .val (.dat (.int 14))) (y := .int 14) r_len rfl rfl rfl rfl, edW_len ok]
      rfl
    exact dIf_f t rfl
  have s4 : eLc (iLst (dVar 1)) 7 eYes (ePure (dIfE (dTest (dOp fEqS (dVar 7) (dC (.str "-")))) (dC .none) (dCB fIntT (dCons (dVar 7) dNil)))) E2 = some (.lst ((edW e).map fun w => S.dat w.d), E2) := by
    have hl : (edW e).length < 100000 := by rw [edW_len ok]; decide
    have := lcP (xs := edW e) (f := Wd.w) (p := fun _ => true) (g := fun w => S.dat w.d) (q := [1]) (j := 7) (src := iLst (dVar 1)) (dt := eYes) (de := ePure (dIfE (dTest (dOp fEqS (dVar 7) (dC (.str "-")))) (dC .none) (dCB fIntT (dCons (dVar 7) dNil)))) (E := E2) (E0 := E2 ++ [.bor [1]]) hl (by
        show some (Src.mk E2 [.bor [1]] rdP ((edW e).map fun d => S.dat d.w).length) = _
        rw [List.length_map]) (by rcases q with rfl | ⟨d, rfl⟩ <;> rfl) (by rcases q with rfl | ⟨d, rfl⟩ <;> rfl) rfl (fun w hw => by
          refine ⟨eRd e v2 .no .no .no .no (.own (.dat w.w)) [.bor [1]], by rcases q with rfl | ⟨d, rfl⟩ <;> rfl, rfl, fun _ => ?_, by rcases q with rfl | ⟨d, rfl⟩ <;> rfl⟩
          refine pure_go ?_
          have e0 : dTest (dOp fEqS (dVar 7) (dC (.str "-"))) (eRd e v2 .no .no .no .no (.own (.dat w.w)) [.bor [1]]) = some (decide (w.s = ("-" : Str))) := rfl
          unfold dIfE
          rw [e0]
          cases w with
          | dash =>
            rw [decide_eq_true (show Wd.dash.s = ("-" : Str) from rfl)]
            rfl
          | num n =>
            rw [decide_eq_false (show (Wd.num n).s ≠ ("-" : Str) from word_dash n)]
            obtain ⟨p, hp⟩ := List.mem_iff_getElem?.mp hw
            have h7 := (edW_ok ok hp).1
            show ((if (word n).length ≤ 640 then (PySem.intText? (word n)).map PyData.int else none).map fun c => Rs.val (.dat c)) = _
            rw [if_pos (Nat.le_trans (word_len7 h7) (by decide)), int_word h7]
            rfl)
    rw [this, List.filter_eq_self.mpr (fun _ _ => rfl)]
    rcases q with rfl | ⟨d, rfl⟩ <;> rfl
  let E3 : En := eRd e v2 (.own (.dat (.int e.num))) (.own (.dat (DQ.oI e.make))) (.own (.dat (.list (e.own.map PyData.int)))) .no .no []
  have s5 : dStarS 2 (bCons (bName 3) (bCons (bName 4) (bCons (bName 5) bNil))) (eLc (iLst (dVar 1)) 7 eYes (ePure (dIfE (dTest (dOp fEqS (dVar 7) (dC (.str "-")))) (dC .none) (dCB fIntT (dCons (dVar 7) dNil))))) E2 = some (.nx E3) := by
    unfold dStarS
    have hd : datsS ((edW e).map fun w => S.dat w.d) = some (.int e.num :: DQ.oI e.make :: e.own.map PyData.int) := by
      rw [← edW_d ok]
      have : ((edW e).map fun w => S.dat w.d) = ((edW e).map Wd.d).map S.dat := by simp
      rw [this, datsS_dats]
    simp only [s4, hd]
    rw [if_pos (by simp)]
    rcases q with rfl | ⟨d, rfl⟩ <;> rfl
  let E4 : En := eRd e v2 (.own (.dat (.int e.num))) (.own (.dat (DQ.oI e.make))) (.own (.dat (.list (e.own.map PyData.int)))) (.own (.dat e.d)) .no []
  have s6 : dAlias 6 (dTupL (dCons (dVar 3) (dCons (dVar 4) (dCons (dCS fTuple (dCons (dVar 5) dNil)) dNil)))) E3 = some (.nx E4) := by
    rcases q with rfl | ⟨d, rfl⟩ <;> rfl
  have s7 : dDrop (eCall K19.g_check_edition (dCons (dVar 6) dNil)) E4 = some (.nx E4) := by
    refine dDrop_go (s := .dat .none) ((eCall_go (rs := [.val (.dat e.d)]) rfl rfl rfl (check_ok ok)).trans ?_)
    rcases q with rfl | ⟨d, rfl⟩ <;> rfl
  exact fnG_rt (dSeq_go s1 (dSeq_go s2 (dSeq_go s3 (dSeq_go s5 (dSeq_go s6 (dSeq_go s7 (dRet_go rfl))))))) rfl
end
end DT
set_option maxHeartbeats 4000000
namespace K17
open PySem PySem.Spec PyProof.Rows L2 Mv NX
def d__law_begun : En → Option Out := (dSeq (dAlias 1 (dC (.int 0)))
    (dSeq (dFor (iLst (dVar 0)) (bName 2) (dAlias 1 (dOp fMod (dOp fAdd (dOp fAdd (dOp fMul (dVar 1) (dC (.int 48271))) (dOp fMul (dVar 2) (dC (.int 69621)))) (dC (.int 11))) (dC (.int 2147483647)))))
    (dRet (ePure (dLst (dCons (dCS fList (dCons (dVar 0) dNil)) (dCons (dOp fMul (dVar 1) (dCB fInt (dCons (dOp fGt (dLen (dVar 0)) (dC (.int 2))) dNil))) dNil)))))))
def d__law_take : En → Option Out := (dSeq (dIf (ePureT (dTest (dOp fEqD (dIxL (dVar 0) (dC (.int 0))) (dLst dNil)))) (dSeq (dLSet (dVar 0) (dC (.int 1)) (ePure (dOp fMod (dOp fMul (dIxL (dVar 0) (dC (.int 1))) (dC (.int 48271))) (dC (.int 2147483647)))))
    (dRet (ePure (dOp fMod (dOp fDiv (dIxL (dVar 0) (dC (.int 1))) (dC (.int 7))) (dVar 1))))) dNext)
    (dSeq (dAlias 2 (dIxL (dIxL (dVar 0) (dC (.int 0))) (dC (.int 0))))
    (dSeq (dLSet (dIxL (dVar 0) (dC (.int 0))) (dC (.int 0)) (ePure (dOp fDiv (dVar 2) (dVar 1))))
    (dSeq (dIf (ePureT (dOr (dTest (dOp fEqS (dIxL (dIxL (dVar 0) (dC (.int 0))) (dC (.int 0))) (dC (.int 0)))) (dTest (dOp fEqS (dIxL (dIxL (dVar 0) (dC (.int 0))) (dC (.int 0))) (dNeg (dC (.int 1))))))) (dDrop (eBM1 oPopAt (dIxL (dVar 0) (dC (.int 0))) (dC (.int 0)))) dNext)
    (dRet (ePure (dOp fMod (dVar 2) (dVar 1))))))))
def f__law_alike (g : List S → Option (S × List S)) : En → Option Out := (dSeq (dIf (ePureT (dTest (dOp fIsN (dVar 1) (dC .none)))) (dRet (ePure (dOp fIsN (dVar 0) (dC .none)))) dNext)
    (dSeq (dIf (ePureT (dTest (dIsi .bool (dVar 1)))) (dRet (ePure (dAndV (dIsi .bool (dVar 0)) (dOp fEqD (dVar 0) (dVar 1))))) dNext)
    (dSeq (dIf (ePureT (dTest (dIsi .int (dVar 1)))) (dRet (ePure (dAndV (dIsi .int (dVar 0)) (dAndV (dNotV (dIsi .bool (dVar 0))) (dOp fEqD (dVar 0) (dVar 1)))))) dNext)
    (dSeq (dIf (ePureT (dTest (dIsi .str (dVar 1)))) (dRet (ePure (dAndV (dIsi .str (dVar 0)) (dOp fEqD (dVar 0) (dVar 1))))) dNext)
    (dSeq (dIf (ePureT (dOr (dTest (dOp fNeS (dIsi .tuple (dVar 1)) (dIsi .tuple (dVar 0)))) (dTest (dOp fNeS (dIsi .list (dVar 1)) (dIsi .list (dVar 0)))))) (dRet (ePure (dC (.bool false)))) dNext)
    (dSeq (dIf (ePureT (dTest (dOp fNeS (dLen (dVar 0)) (dLen (dVar 1))))) (dRet (ePure (dC (.bool false)))) dNext)
    (dSeq (dFor (iRange (dLen (dVar 1))) (bName 2) (dIf (eNot (eTest (eCall g (dCons (dIxA (dVar 0) (dVar 2)) (dCons (dIxA (dVar 1) (dVar 2)) dNil))))) (dRet (ePure (dC (.bool false)))) dNext))
    (dRet (ePure (dC (.bool true)))))))))))
def g__law_alike : Nat → List S → Option (S × List S)
  | 0 => gNone
  | k + 1 => fnG 3 (f__law_alike (g__law_alike k))
end K17
set_option maxHeartbeats 4000000
namespace DQ17
open PySem PySem.Spec PyProof.Rows L2 Mv Gn
section
variable {E E1 E2 : En} {da db dx d d1 d2 : En → Option Rs} {de : En → Option (S × En)} {dt du : En → Option (Bool × En)} {ds : List PyData} {r : Rs}
theorem andV_t {r : Option Rs} (h : d1 E = some (.val (.dat (.bool true)))) (h2 : d2 E = r) : dAndV d1 d2 E = r := by unfold dAndV; rw [h]; exact h2
theorem op_go {f : PyData → PyData → Option PyData} {a b c : PyData} {r1 r2 : Rs} (h1 : d1 E = some r1) (h2 : d2 E = some r2) (f1 : r1.full E = some a) (f2 : r2.full E = some b) (h : f a b = some c) : dOp f d1 d2 E = some (.val (.dat c)) := by
  unfold dOp
  rw [h1, h2]
  simp only [f1, f2, h, Option.map_some]
theorem opI_go {f : PyData → PyData → Option PyData} {a b c : PyData} (h1 : d1 E = some (.val (.dat a))) (h2 : d2 E = some (.val (.dat b))) (h : f a b = some c) : dOp f d1 d2 E = some (.val (.dat c)) := op_go h1 h2 rfl rfl h
theorem pure_go {s : S} (h : d E = some (.val s)) : ePure d E = some (s, E) := by unfold ePure; rw [h]
theorem pureT_go {b : Bool} {dd : En → Option Bool} (h : dd E = some b) : ePureT dd E = some (b, E) := by unfold ePureT; rw [h]; rfl
theorem test_go {b : Bool} (h : d E = some (.val (.dat (.bool b)))) : dTest d E = some b := by unfold dTest; rw [h]
end
structure De where
  slot : Int
  count : Int
  asker : Int
  num : Int
  more : Int
  worth : Int
  make : Int
deriving DecidableEq
def De.d (s : De) : PyData := .tuple [.int s.slot, .int s.count, .int s.asker, .int s.num, .int s.more, .int s.worth, .int s.make]
def t2 (p : Int × Int) : PyData := .tuple [.int p.1, .int p.2]
def iD (n : Int) : PyData := .int n
structure Ty where
  grown : List (Int × (Int × Int))
  numbers : List (Int × Int)
  make : Int
def Ty.s (t : Ty) : S := .ins 4 [.dct false (kN t2 t.grown), .dct false (kN iD t.numbers), .dat (.int t.make)]
def Ty.at (t : Ty) (slot : Int) : Int × Int := (getK t.grown slot).getD (0, 0)
def Ty.num (t : Ty) (a : Int) : Int := (getK t.numbers a).getD 0
def Ty.lets (t : Ty) (e : De) : Bool := decide (e.count = (t.at e.slot).2 + 1) && decide (e.worth = ((t.at e.slot).1 + e.more) % 1000) && decide (e.num = t.num e.asker + 1) && decide (t.make ≤ e.make)
def Ty.note (t : Ty) (e : De) : Ty := ⟨putN t.grown e.slot (e.worth, e.count), putN t.numbers e.asker e.num, e.make⟩
structure Ty.Ok (t : Ty) (k : Nat) : Prop where
  n1 : (t.grown.map (·.1)).Nodup
  n2 : (t.numbers.map (·.1)).Nodup
  l1 : t.grown.length ≤ k
  l2 : t.numbers.length ≤ k
theorem putN_len {α : Type} (x : α) (k : Int) : ∀ (m : List (Int × α)), (putN m k x).length ≤ m.length + 1
  | [] => by simp [putN]
  | p :: r => by
    unfold putN
    split
    · simp
    · have := putN_len x k r
      simp only [List.length_cons]; omega
theorem putN_keys {α : Type} (x : α) (k : Int) : ∀ (m : List (Int × α)) (j : Int), j ∈ (putN m k x).map (·.1) → j ∈ m.map (·.1) ∨ j = k
  | [], j, h => by simp [putN] at h; exact .inr h
  | p :: r, j, h => by
    unfold putN at h
    split at h
    · exact .inl (by simpa using h)
    · rcases List.mem_cons.mp h with e | h
      · exact .inl (by rw [e]; exact List.mem_cons_self)
      · rcases putN_keys x k r j h with h | h
        · exact .inl (List.mem_cons_of_mem _ h)
        · exact .inr h
theorem putN_nodup {α : Type} (x : α) (k : Int) : ∀ {m : List (Int × α)}, (m.map (·.1)).Nodup → ((putN m k x).map (·.1)).Nodup
  | [], _ => by simp [putN]
  | p :: r, h => by
    unfold putN
    split
    · simpa using h
    · next ne =>
      obtain ⟨h1, h2⟩ := List.nodup_cons.mp h
      refine List.nodup_cons.mpr ⟨fun m => ?_, putN_nodup x k h2⟩
      rcases putN_keys x k r _ m with m | m
      · exact h1 m
      · exact ne m
theorem getK_put {α : Type} (x : α) (k j : Int) : ∀ (m : List (Int × α)), getK (putN m k x) j = if k = j then some x else getK m j
  | [] => by by_cases h : k = j <;> simp [putN, getK, h]
  | p :: r => by
    have ih := getK_put x k j r
    unfold putN
    split
    · next e =>
      by_cases h : k = j
      · simp [getK, e, h]
      · have : p.1 ≠ j := by rw [e]; exact h
        simp [getK, h, this]
    · next ne =>
      by_cases h : p.1 = j
      · have : k ≠ j := fun z => ne (h.trans z.symm)
        simp [getK, h, this]
      · simp only [getK, if_neg h, ih]
theorem Ty.Ok.note {t : Ty} {k : Nat} (h : t.Ok k) (e : De) : (t.note e).Ok (k + 1) :=
  ⟨putN_nodup _ _ h.n1, putN_nodup _ _ h.n2, by have := putN_len (e.worth, e.count) e.slot t.grown; have := h.l1; simp only [Ty.note]; omega, by have := putN_len e.num e.asker t.numbers; have := h.l2; simp only [Ty.note]; omega⟩
end DQ17
set_option maxHeartbeats 4000000
namespace DQ17
open PySem PySem.Spec PyProof.Rows L2 Mv Gn
def R (ds : List De) : S := dL De.d ds
def t0 : Ty := ⟨[], [], 0⟩
end DQ17
set_option maxHeartbeats 400000
set_option maxHeartbeats 400000
namespace DQ17
open PySem PySem.Spec PyProof.Rows L2 Mv Gn
variable {E E1 : En} {da db : En → Option Rs}
def nxt (rows : List (List De)) (bg : List Nat) (k : Nat) : Option De := (rows[k]?).bind fun ds => (bg[k]?).bind fun b => ds[b]?
def makes (rows : List (List De)) : List Int := rows.flatten.map (·.make)
end DQ17
set_option maxHeartbeats 400000
namespace DQ17
open PySem PySem.Spec PyProof.Rows L2 Mv Gn
variable {E E1 : En} {da db : En → Option Rs}
theorem makes_len {rows : List (List De)} : (makes rows).length = rows.flatten.length := by unfold makes; rw [List.length_map]
end DQ17
set_option maxHeartbeats 400000
namespace DQ17
open PySem PySem.Spec PyProof.Rows L2 Mv Gn
theorem lets_iff {t : Ty} {e : De} : t.lets e = true ↔ e.count = (t.at e.slot).2 + 1 ∧ e.worth = ((t.at e.slot).1 + e.more) % 1000 ∧ e.num = t.num e.asker + 1 ∧ t.make ≤ e.make := by
  unfold Ty.lets
  simp only [Bool.and_eq_true, decide_eq_true_eq]
  constructor
  · rintro ⟨⟨⟨a, b⟩, c⟩, d⟩; exact ⟨a, b, c, d⟩
  · rintro ⟨a, b, c, d⟩; exact ⟨⟨⟨a, b⟩, c⟩, d⟩
theorem note_at {t : Ty} {e : De} {s : Int} : (t.note e).at s = if e.slot = s then (e.worth, e.count) else t.at s := by
  unfold Ty.at Ty.note
  simp only [getK_put]
  split <;> rfl
theorem note_num {t : Ty} {e : De} {a : Int} : (t.note e).num a = if e.asker = a then e.num else t.num a := by
  unfold Ty.num Ty.note
  simp only [getK_put]
  split <;> rfl
structure TyEq (t t' : Ty) : Prop where
  at_ : ∀ s, t.at s = t'.at s
  num : ∀ a, t.num a = t'.num a
  make : t.make = t'.make
theorem TyEq.lets {t t' : Ty} (h : TyEq t t') (e : De) : t.lets e = t'.lets e := by
  unfold Ty.lets
  rw [h.at_, h.num, h.make]
theorem TyEq.note {t t' : Ty} (h : TyEq t t') (e : De) : TyEq (t.note e) (t'.note e) :=
  ⟨fun s => by rw [note_at, note_at, h.at_], fun a => by rw [note_num, note_num, h.num], rfl⟩
/-- all of the rows, each in turn, let deed by deed -/
inductive Run (rows : List (List De)) : Ty → List Nat → List (Nat × De) → Prop
  | done {t : Ty} {bg : List Nat} : (∀ k, nxt rows bg k = none) → Run rows t bg []
  | step {t : Ty} {bg : List Nat} {k : Nat} {e : De} {W : List (Nat × De)} : nxt rows bg k = some e → t.lets e = true → Run rows (t.note e) (bg.modify k (· + 1)) W → Run rows t bg ((k, e) :: W)
variable {rows : List (List De)} {t t' : Ty} {bg : List Nat} {W : List (Nat × De)} {k k0 : Nat} {e e0 : De}
theorem Run.congr (R : Run rows t bg W) : ∀ {t' : Ty}, TyEq t t' → Run rows t' bg W := by
  induction R with
  | done h => intro t' _; exact .done h
  | step h1 h2 _ ih => intro t' q; exact .step h1 ((q.lets _).symm.trans h2) (ih (q.note _))
end DQ17
set_option maxHeartbeats 400000
namespace DQ17
open PySem PySem.Spec PyProof.Rows L2 Mv Gn
variable {rows : List (List De)} {t t' : Ty} {bg : List Nat} {W : List (Nat × De)} {k k0 : Nat} {e e0 : De} {mk : Int}
inductive LexLe : List Nat → List Nat → Prop
  | nil : LexLe [] []
  | lt {a b : Nat} {x y : List Nat} : a < b → LexLe (a :: x) (b :: y)
  | eq {a : Nat} {x y : List Nat} : LexLe x y → LexLe (a :: x) (a :: y)
end DQ17
set_option maxHeartbeats 400000
set_option maxHeartbeats 400000
namespace DQ17
open PySem PySem.Spec PyProof.Rows L2 Mv Gn NX
variable {rows : List (List De)} {t t' : Ty} {bg bg' : List Nat} {k : Nat} {e : De} {A F W : List (Nat × De)} {z : List NK} {f : De → Int}
/-- a sum over what stands behind the counts bg -/
def tot (f : De → Int) : List (List De) → List Nat → Int
  | ds :: rows, b :: bg => ((ds.take b).map f).sum + tot f rows bg
  | _, _ => 0
theorem tot_step : ∀ {rows : List (List De)} {bg : List Nat} {k : Nat}, nxt rows bg k = some e → tot f rows (bg.modify k (· + 1)) = tot f rows bg + f e
  | [], _, _, h => by simp [nxt] at h
  | _ :: _, [], k, h => by
    unfold nxt at h
    cases k <;> simp at h
  | ds :: rows, b :: bg, 0, h => by
    have h' : ds[b]? = some e := by simpa [nxt] using h
    show tot f (ds :: rows) ((b + 1) :: bg) = _
    simp only [tot]
    rw [List.take_succ, h', List.map_append, List.sum_append]
    simp only [Option.toList_some, List.map_cons, List.map_nil, List.sum_cons, List.sum_nil]
    omega
  | ds :: rows, b :: bg, k + 1, h => by
    have h' : nxt rows bg k = some e := by simpa [nxt] using h
    show tot f (ds :: rows) (b :: bg.modify k (· + 1)) = _
    simp only [tot]
    rw [tot_step h']
    omega
theorem tot_zero : ∀ (rows : List (List De)), tot f rows (rows.map fun _ => 0) = 0
  | [] => rfl
  | ds :: rows => by
    simp only [List.map_cons, tot, List.take_zero, List.map_nil, List.sum_nil]
    rw [tot_zero rows]; rfl
structure Good (rows : List (List De)) (t : Ty) (bg : List Nat) : Prop where
  at_ : ∀ s, t.at s = (tot (fun e => if e.slot = s then e.more else 0) rows bg % 1000, tot (fun e => if e.slot = s then 1 else 0) rows bg)
  num : ∀ a, t.num a = tot (fun e => if e.asker = a then 1 else 0) rows bg
theorem Good.zero : Good rows t0 (rows.map fun _ => 0) := ⟨fun s => by rw [tot_zero, tot_zero]; rfl, fun a => by rw [tot_zero]; rfl⟩
theorem Good.step (g : Good rows t bg) (hn : nxt rows bg k = some e) (hl : t.lets e = true) : Good rows (t.note e) (bg.modify k (· + 1)) := by
  obtain ⟨l1, l2, l3, l4⟩ := lets_iff.mp hl
  refine ⟨fun s => ?_, fun a => ?_⟩
  · rw [note_at, tot_step hn, tot_step hn]
    have := g.at_ s
    by_cases h : e.slot = s
    · rw [if_pos h, if_pos h, if_pos h, l1, l2, h, this]
      refine Prod.ext ?_ rfl
      show _ % 1000 = _ % 1000
      dsimp only
      omega
    · rw [if_neg h, if_neg h, if_neg h, this]
      simp
  · rw [note_num, tot_step hn]
    have := g.num a
    by_cases h : e.asker = a
    · rw [if_pos h, if_pos h, l3, h, this]
    · rw [if_neg h, if_neg h, this]
      simp
theorem Good.same (g : Good rows t bg) (g' : Good rows t' bg) (h : t.make = t'.make) : TyEq t t' :=
  ⟨fun s => (g.at_ s).trans (g'.at_ s).symm, fun a => (g.num a).trans (g'.num a).symm, h⟩
def keyOf (t : Ty) (bg : List Nat) : NK := (bg.map fun n : Nat => (n : Int), t.make)
theorem cast_inj : ∀ {a b : List Nat}, (a.map fun n : Nat => (n : Int)) = b.map (fun n : Nat => (n : Int)) → a = b
  | [], [], _ => rfl
  | [], _ :: _, h => by simp at h
  | _ :: _, [], h => by simp at h
  | x :: a, y :: b, h => by
    simp only [List.map_cons, List.cons.injEq] at h
    obtain ⟨h1, h2⟩ := h
    rw [cast_inj h2, show x = y by omega]
/-- the keys tell of ways that end nowhere -/
def Sound (rows : List (List De)) (z : List NK) : Prop := ∀ p ∈ z, ∀ t bg, Good rows t bg → keyOf t bg = p → ∀ W, ¬ Run rows t bg W
theorem Sound.nil : Sound rows [] := fun _ m => nomatch m
theorem Sound.put (h : Sound rows z) (g : Good rows t bg) (no : ∀ W, ¬ Run rows t bg W) : Sound rows (zPutKey (keyOf t bg) z) := by
  unfold zPutKey
  split
  · exact h
  · intro p m t' bg' g' hk W R
    rcases List.mem_append.mp m with q | q
    · exact h p q t' bg' g' hk W R
    · rw [List.mem_singleton.mp q] at hk
      have e1 : bg' = bg := cast_inj (congrArg Prod.fst hk)
      have e2 : t'.make = t.make := congrArg Prod.snd hk
      subst e1
      exact no W (R.congr (g'.same g e2))
/-- what went ahead -/
inductive Ah (rows : List (List De)) : List (Nat × De) → Ty → List Nat → Prop
  | nil : Ah rows [] t0 (rows.map fun _ => 0)
  | snoc {A : List (Nat × De)} {t : Ty} {bg : List Nat} {k : Nat} {e : De} : Ah rows A t bg → nxt rows bg k = some e → t.lets e = true → Ah rows (A ++ [(k, e)]) (t.note e) (bg.modify k (· + 1))
theorem Ah.good (h : Ah rows A t bg) : Good rows t bg := by
  induction h with
  | nil => exact .zero
  | snoc _ hn hl ih => exact ih.step hn hl
theorem Ah.len (h : Ah rows A t bg) : bg.length = rows.length := by
  induction h with
  | nil => simp
  | snoc _ _ _ ih => rw [List.length_modify, ih]
theorem Ah.cnt (h : Ah rows A t bg) : ∀ k, k < rows.length → bg[k]? = some (A.filter fun p => decide (p.1 = k)).length := by
  induction h with
  | nil => intro k hk; simp [hk]
  | @snoc A t bg k0 e h hn hl ih =>
    intro k hk
    rw [List.getElem?_modify, ih k hk, List.filter_append, List.length_append]
    by_cases e0 : k0 = k
    · simp [e0]
    · simp [e0]
theorem Ah.places (h : Ah rows A t bg) : ((List.range rows.length).map fun k => (A.filter fun p => decide (p.1 = k)).length) = bg := by
  apply List.ext_getElem?
  intro i
  by_cases hi : i < rows.length
  · rw [h.cnt i hi, List.getElem?_map, List.getElem?_range hi]
    rfl
  · rw [List.getElem?_eq_none (by simpa using hi), List.getElem?_eq_none (by rw [h.len]; omega)]
theorem Ah.at_ (h : Ah rows A t bg) (s : Int) : t.at s = (((A.filter fun p => decide (p.2.slot = s)).getLast?).map fun p => (p.2.worth, p.2.count)).getD (0, 0) := by
  induction h with
  | nil => rfl
  | @snoc A t bg k0 e h hn hl ih =>
    rw [note_at, List.filter_append]
    by_cases q : e.slot = s
    · rw [if_pos q]
      simp [q]
    · rw [if_neg q, ih]
      simp [q]
theorem Ah.num (h : Ah rows A t bg) (a : Int) : t.num a = (((A.filter fun p => decide (p.2.asker = a)).getLast?).map fun p => p.2.num).getD 0 := by
  induction h with
  | nil => rfl
  | @snoc A t bg k0 e h hn hl ih =>
    rw [note_num, List.filter_append]
    by_cases q : e.asker = a
    · rw [if_pos q]
      simp [q]
    · rw [if_neg q, ih]
      simp [q]
theorem Ah.make (h : Ah rows A t bg) : t.make = ((A.getLast?).map fun p => p.2.make).getD 0 := by
  cases h with
  | nil => rfl
  | snoc h hn hl => simp [Ty.note]
/-- the first of all ways on -/
def First (rows : List (List De)) (t : Ty) (bg : List Nat) (F : List (Nat × De)) : Prop := Run rows t bg F ∧ ∀ W, Run rows t bg W → LexLe (F.map (·.1)) (W.map (·.1))
theorem First.step (hn : nxt rows bg k = some e) (hl : t.lets e = true) (h : First rows (t.note e) (bg.modify k (· + 1)) F) (no : ∀ p W, Run rows t bg (p :: W) → k ≤ p.1) : First rows t bg ((k, e) :: F) := by
  refine ⟨.step hn hl h.1, fun W R => ?_⟩
  cases R with
  | done h0 => rw [h0 k] at hn; cases hn
  | @step _ _ k' e' W' h1 h2 h3 =>
    have hk := no (k', e') W' (.step h1 h2 h3)
    by_cases q : k = k'
    · subst q
      rw [hn] at h1
      cases h1
      exact .eq (h.2 W' h3)
    · exact .lt (show k < k' by have : k ≤ k' := hk; omega)
end DQ17
set_option maxHeartbeats 4000000
namespace Gn
open PySem PySem.Spec PyProof.Rows L2 Mv
end Gn
set_option maxHeartbeats 1000000
namespace DQ17
open PySem PySem.Spec PyProof.Rows L2 Mv Gn NX
section
variable {E E1 E2 E' : En} {da db d1 d2 : En → Option Rs}
theorem ix_go {ds : List PyData} {k : Int} {x : PyData} (h1 : da E = some (.val (.dat (.tuple ds)))) (h2 : db E = some (.val (.dat (.int k)))) (h0 : 0 ≤ k) (hx : ds[k.toNat]? = some x) : dIxT da db E = some (.val (.dat x)) := by
  unfold dIxT
  rw [h1, h2]
  have hk := (List.getElem?_eq_some_iff.mp hx).1
  have e1 : ixN ds.length k = some k.toNat := by
    unfold ixN
    rw [if_pos h0, if_pos (by omega)]
  simp only [Rs.at, e1, hx, Option.map_some]
end
variable {rows : List (List De)} {t : Ty} {bg : List Nat} {k : Nat} {e : De} {A : List (Nat × De)}
def I (n : Int) : Sl := .own (.dat (.int n))
end DQ17
set_option maxHeartbeats 1000000
set_option maxHeartbeats 1000000
namespace DQ17
open PySem PySem.Spec PyProof.Rows L2 Mv Gn NX
variable {rows : List (List De)} {t : Ty} {bg : List Nat} {k : Nat} {e : De} {A : List (Nat × De)} {a : Addr}
theorem tuple_L {α : Type} {f : α → PyData} {xs : List α} : fTuple [dL f xs] = some (.dat (.tuple (xs.map f))) := by
  show (match ((dL f xs).seqL <|> (dL f xs).seqT) with | some ds => some (S.dat (.tuple ds)) | none => none) = _
  rw [dL_seqL]
  rfl
end DQ17
set_option maxHeartbeats 1000000
namespace DQ17
open PySem PySem.Spec PyProof.Rows L2 Mv Gn NX
variable {rows : List (List De)} {t : Ty} {bg : List Nat} {k : Nat} {e : De} {A : List (Nat × De)} {z : List NK}
theorem nodup_le {α : Type} [DecidableEq α] : ∀ {l m : List α}, l.Nodup → (∀ x ∈ l, x ∈ m) → l.length ≤ m.length
  | [], _, _, _ => Nat.zero_le _
  | x :: l, m, nd, h => by
    have hx := h x List.mem_cons_self
    have := nodup_le (l := l) (m := m.erase x) (List.nodup_cons.mp nd).2 fun y hy => (List.mem_erase_of_ne fun q => (List.nodup_cons.mp nd).1 (by rw [← q]; exact hy)).mpr (h y (List.mem_cons_of_mem _ hy))
    rw [List.length_erase_of_mem hx] at this
    have : 0 < m.length := List.length_pos_of_mem hx
    simp only [List.length_cons]
    omega
def within : List (List De) → List Nat → Prop
  | [], [] => True
  | ds :: rows, b :: bg => b ≤ ds.length ∧ within rows bg
  | _, _ => False
theorem within_zero : ∀ (rows : List (List De)), within rows (rows.map fun _ => 0)
  | [] => trivial
  | _ :: rows => ⟨Nat.zero_le _, within_zero rows⟩
theorem within_step : ∀ {rows : List (List De)} {bg : List Nat} {k : Nat}, nxt rows bg k = some e → within rows bg → within rows (bg.modify k (· + 1))
  | [], _, _, h, _ => by simp [nxt] at h
  | _ :: _, [], _, _, w => w.elim
  | ds :: rows, b :: bg, 0, h, w => by
    have h' : ds[b]? = some e := by simpa [nxt] using h
    have hb := (List.getElem?_eq_some_iff.mp h').1
    exact ⟨hb, w.2⟩
  | ds :: rows, b :: bg, k + 1, h, w => by
    have h' : nxt rows bg k = some e := by simpa [nxt] using h
    exact ⟨w.1, within_step h' w.2⟩
def allBg : List (List De) → List (List Int)
  | [] => [[]]
  | ds :: rows => (List.range (ds.length + 1)).flatMap fun b => (allBg rows).map fun r => ((b : Nat) : Int) :: r
theorem in_allBg : ∀ {rows : List (List De)} {bg : List Nat}, within rows bg → (bg.map fun n : Nat => (n : Int)) ∈ allBg rows
  | [], [], _ => List.mem_singleton.mpr rfl
  | [], _ :: _, w => w.elim
  | _ :: _, [], w => w.elim
  | ds :: rows, b :: bg, w => by
    unfold allBg
    rw [List.mem_flatMap]
    exact ⟨b, List.mem_range.mpr (by have := w.1; omega), List.mem_map.mpr ⟨_, in_allBg w.2, rfl⟩⟩
theorem sum_const {c : Nat} : ∀ (l : List Nat), (l.map fun _ => c).sum = l.length * c
  | [] => by simp
  | _ :: l => by
    rw [List.map_cons, List.sum_cons, sum_const l, List.length_cons, Nat.succ_mul]
    omega
theorem allBg_len : ∀ (rows : List (List De)), (allBg rows).length ≤ 2 ^ rows.flatten.length
  | [] => Nat.le_refl _
  | ds :: rows => by
    unfold allBg
    rw [List.length_flatMap]
    have e1 : ((List.range (ds.length + 1)).map fun b => ((allBg rows).map fun r => ((b : Nat) : Int) :: r).length) = (List.range (ds.length + 1)).map fun _ => (allBg rows).length := List.map_congr_left fun b _ => List.length_map ..
    rw [e1, sum_const, List.length_range, List.flatten_cons, List.length_append, Nat.pow_add]
    exact Nat.mul_le_mul Nat.lt_two_pow_self (allBg_len rows)
def allKeys (rows : List (List De)) : List NK := (allBg rows).flatMap fun b => (0 :: makes rows).map fun m => (b, m)
theorem sum_constL {α : Type} {c : Nat} : ∀ (l : List α), (l.map fun _ => c).sum = l.length * c
  | [] => by simp
  | _ :: l => by
    rw [List.map_cons, List.sum_cons, sum_constL l, List.length_cons, Nat.succ_mul]
    omega
theorem allKeys_len (h : rows.flatten.length ≤ 17) : (allKeys rows).length ≤ 2400000 := by
  unfold allKeys
  rw [List.length_flatMap]
  have e1 : ((allBg rows).map fun b => ((0 :: makes rows).map fun m => (b, m)).length) = (allBg rows).map fun _ => (makes rows).length + 1 := List.map_congr_left fun b _ => by rw [List.length_map, List.length_cons]
  rw [e1, sum_constL, makes_len]
  have h1 := allBg_len rows
  have h2 : 2 ^ rows.flatten.length ≤ 2 ^ 17 := Nat.pow_le_pow_right (by decide) h
  have h3 : (allBg rows).length * (rows.flatten.length + 1) ≤ 2 ^ 17 * 18 := Nat.mul_le_mul (Nat.le_trans h1 h2) (by omega)
  omega
theorem nxt_mem (h : nxt rows bg k = some e) : e ∈ rows.flatten := by
  unfold nxt at h
  obtain ⟨ds, h1, h2⟩ := Option.bind_eq_some_iff.mp h
  obtain ⟨b, h3, h4⟩ := Option.bind_eq_some_iff.mp h2
  exact List.mem_flatten.mpr ⟨ds, List.mem_of_getElem? h1, List.mem_of_getElem? h4⟩
theorem Ah.within (h : Ah rows A t bg) : DQ17.within rows bg := by
  induction h with
  | nil => exact within_zero rows
  | snoc _ hn _ ih => exact within_step hn ih
theorem Ah.key (h : Ah rows A t bg) : keyOf t bg ∈ allKeys rows := by
  unfold allKeys
  rw [List.mem_flatMap]
  refine ⟨_, in_allBg h.within, List.mem_map.mpr ⟨t.make, ?_, rfl⟩⟩
  cases h with
  | nil => exact List.mem_cons_self
  | @snoc A t bg k e h0 hn hl => exact List.mem_cons_of_mem _ (List.mem_map.mpr ⟨e, nxt_mem hn, rfl⟩)
structure Zok (rows : List (List De)) (z : List NK) : Prop where
  sound : Sound rows z
  nd : z.Nodup
  inn : ∀ p ∈ z, p ∈ allKeys rows
theorem Zok.nil : Zok rows [] := ⟨.nil, List.nodup_nil, fun _ m => nomatch m⟩
theorem Zok.len (h : Zok rows z) (hf : rows.flatten.length ≤ 17) : z.length < 10000000 := by
  have := nodup_le h.nd h.inn
  have := allKeys_len hf
  omega
theorem Zok.put (h : Zok rows z) (ha : Ah rows A t bg) (no : ∀ W, ¬ Run rows t bg W) : Zok rows (zPutKey (keyOf t bg) z) := by
  refine ⟨h.sound.put ha.good no, ?_, fun p m => ?_⟩
  · unfold zPutKey
    split
    · exact h.nd
    · next hn => exact List.nodup_append.mpr ⟨h.nd, List.nodup_cons.mpr ⟨(fun m => nomatch m), List.nodup_nil⟩, fun x hx y hy q => hn (by rw [← List.mem_singleton.mp hy, ← q]; exact hx)⟩
  · unfold zPutKey at m
    split at m
    · exact h.inn p m
    · rcases List.mem_append.mp m with q | q
      · exact h.inn p q
      · rw [List.mem_singleton.mp q]; exact ha.key
end DQ17
set_option maxHeartbeats 1000000
namespace DQ17
open PySem PySem.Spec PyProof.Rows L2 Mv Gn NX
variable {rows : List (List De)} {t : Ty} {bg : List Nat} {k : Nat} {e : De} {A : List (Nat × De)} {z : List NK} {a : Addr} {v5 v6 : Sl}
theorem cons_go {da : En → Option Rs} {dr : En → Option (List Rs)} {E : En} {r : Rs} {rs : List Rs} (h1 : da E = some r) (h2 : dr E = some rs) : dCons da dr E = some (r :: rs) := by
  unfold dCons
  rw [h1, h2]
end DQ17
set_option maxHeartbeats 1000000
namespace DQ17
open PySem PySem.Spec PyProof.Rows L2 Mv Gn NX
def EA (x : Sl) (s : S) (d : PyData) (v2 : Sl) : En := [x, .own (.dat d), v2, .own s, .own (.dat d)]
theorem ixA_T {da db : En → Option Rs} {E : En} {r : Rs} (h : dIxL da db E = none) (h2 : dIxT da db E = some r) : dIxA da db E = some r := by unfold dIxA; rw [h]; exact h2
abbrev alB (g : List S → Option (S × List S)) : En → Option Out := dIf (eNot (eTest (eCall g (dCons (dIxA (dVar 0) (dVar 2)) (dCons (dIxA (dVar 1) (dVar 2)) dNil))))) (dRet (ePure (dC (.bool false)))) dNext
def al2 : Nat → Sl
  | 0 => .no
  | i + 1 => I i
theorem al_turn {g : List S → Option (S × List S)} {x : Sl} {s : S} {D d : PyData} {i : Nat} (h0 : dIxA (dVar 0) (dVar 2) (EA x s D (I i)) = some (.val (.dat d))) (h1 : dIxA (dVar 1) (dVar 2) (EA x s D (I i)) = some (.val (.dat d)))
    (hx : x = .bor [3] ∨ ∃ a, x = .own a) (hg : g [.dat d, .dat d] = some (.dat (.bool true), [.dat d, .dat d])) : alB g (EA x s D (I i)) = some (.nx (EA x s D (I i))) := by
  have c : eCall g (dCons (dIxA (dVar 0) (dVar 2)) (dCons (dIxA (dVar 1) (dVar 2)) dNil)) (EA x s D (I i)) = some (.dat (.bool true), EA x s D (I i)) := by
    have c := eCall_go (E := EA x s D (I i)) (dr := dCons (dIxA (dVar 0) (dVar 2)) (dCons (dIxA (dVar 1) (dVar 2)) dNil)) (rs := [.val (.dat d), .val (.dat d)]) (cons_go h0 (cons_go h1 rfl)) rfl rfl hg
    refine c.trans ?_
    rcases hx with rfl | ⟨_, rfl⟩ <;> rfl
  have c2 : eNot (eTest (eCall g (dCons (dIxA (dVar 0) (dVar 2)) (dCons (dIxA (dVar 1) (dVar 2)) dNil)))) (EA x s D (I i)) = some (false, EA x s D (I i)) := by
    unfold eNot
    rw [eTest_go c]
    rfl
  exact dIf_f c2 rfl
theorem al_loop {g : List S → Option (S × List S)} {x : Sl} {s : S} {D : PyData} {ds : List PyData} (hl : ds.length < 900) (hx : x = .bor [3] ∨ ∃ a, x = .own a)
    (hlen : dLen (dVar 1) (EA x s D .no) = some (.val (.dat (.int (ds.length : Nat)))))
    (h : ∀ (i : Nat) (d : PyData), ds[i]? = some d → dIxA (dVar 0) (dVar 2) (EA x s D (I i)) = some (.val (.dat d)) ∧ dIxA (dVar 1) (dVar 2) (EA x s D (I i)) = some (.val (.dat d)) ∧ g [.dat d, .dat d] = some (.dat (.bool true), [.dat d, .dat d])) :
    dFor (iRange (dLen (dVar 1))) (bName 2) (alB g) (EA x s D .no) = some (.nx (EA x s D (al2 ds.length))) := by
  have src : iRange (dLen (dVar 1)) (EA x s D .no) = some ⟨EA x s D .no, [], fun _ i => some (if i < ((ds.length : Nat) : Int).toNat then some (.val (.dat (.int (i : Nat)))) else none), ((ds.length : Nat) : Int).toNat⟩ := iRange_go hlen (by omega) (by omega)
  have lp := loop_nx (rd := fun _ i => some (if i < ((ds.length : Nat) : Int).toNat then some (.val (.dat (.int (i : Nat)))) else none)) (bd := bName 2) (db := alB g) (fun i => EA x s D (al2 i)) ds.length (fun i hi => by
    obtain ⟨q1, q2, q3⟩ := h i _ (List.getElem?_eq_getElem hi)
    refine ⟨.val (.dat (.int (i : Nat))), EA x s D (I i), ?_, ?_, al_turn q1 q2 hx q3⟩
    · rw [Int.toNat_natCast, if_pos hi]
    · cases i <;> rcases hx with rfl | ⟨_, rfl⟩ <;> rfl) (by rw [Int.toNat_natCast, if_neg (Nat.lt_irrefl _)]) ds.length 0 ds.length (by omega) (Nat.le_refl _)
  have := dFor_go (bd := bName 2) (db := alB g) (E1 := EA x s D (al2 ds.length)) src (by
    rw [Int.toNat_natCast] at lp ⊢
    exact lp)
  exact this
theorem neS_same (n : Nat) : fNeS (.int (n : Nat)) (.int (n : Nat)) = some (.bool false) := by
  show some (PyData.bool (!decide (((n : Nat) : Int) = ((n : Nat) : Int)))) = _
  rw [decide_eq_true rfl]
  rfl
theorem al_tup {j : Nat} {ds : List PyData} (hl : ds.length < 900) (hs : ∀ (i : Nat) (d : PyData), ds[i]? = some d → K17.g__law_alike j [.dat d, .dat d] = some (.dat (.bool true), [.dat d, .dat d])) :
    K17.g__law_alike (j + 1) [.dat (.tuple ds), .dat (.tuple ds)] = some (.dat (.bool true), [.dat (.tuple ds), .dat (.tuple ds)]) := by
  let D : PyData := .tuple ds
  let E0 : En := EA (.own (.dat D)) (.dat D) D .no
  have hlen : ∀ i, (i = 0 ∨ i = 1) → dLen (dVar i) E0 = some (.val (.dat (.int (ds.length : Nat)))) := fun i hi => by rcases hi with rfl | rfl <;> rfl
  have ix : ∀ i k d, (i = 0 ∨ i = 1) → ds[k]? = some d → dIxA (dVar i) (dVar 2) (EA (.own (.dat D)) (.dat D) D (I (k : Nat))) = some (.val (.dat d)) := fun i k d hi hk => by
    rcases hi with rfl | rfl <;> exact ixA_T rfl (ix_go (ds := ds) rfl rfl (by omega) (by simpa using hk))
  have lp := al_loop (g := K17.g__law_alike j) (x := .own (.dat D)) (s := .dat D) (D := D) hl (.inr ⟨_, rfl⟩) (hlen 1 (.inr rfl)) (fun i d hd => ⟨ix 0 i d (.inl rfl) hd, ix 1 i d (.inr rfl) hd, hs i d hd⟩)
  have c6 : dIf (ePureT (dTest (dOp fNeS (dLen (dVar 0)) (dLen (dVar 1))))) (dRet (ePure (dC (.bool false)))) dNext E0 = some (.nx E0) :=
    dIf_f (E1 := E0) (pureT_go (test_go (opI_go (hlen 0 (.inl rfl)) (hlen 1 (.inr rfl)) (neS_same _)))) rfl
  exact fnG_rt (E := EA (.own (.dat D)) (.dat D) D (al2 ds.length)) (dSeq_go (E1 := E0) rfl (dSeq_go (E1 := E0) rfl (dSeq_go (E1 := E0) rfl (dSeq_go (E1 := E0) rfl (dSeq_go (E1 := E0) rfl (dSeq_go c6 (dSeq_go lp rfl))))))) rfl
theorem al_int {j : Nat} (i : Int) : K17.g__law_alike (j + 1) [.dat (.int i), .dat (.int i)] = some (.dat (.bool true), [.dat (.int i), .dat (.int i)]) := by
  let E0 : En := EA (.own (.dat (.int i))) (.dat (.int i)) (.int i) .no
  have eq : fEqD (.int i) (.int i) = some (.bool true) := by
    show some (PyData.bool (i == i)) = _
    rw [beq_self_eq_true]
  have c3 : dIf (ePureT (dTest (dIsi .int (dVar 1)))) (dRet (ePure (dAndV (dIsi .int (dVar 0)) (dAndV (dNotV (dIsi .bool (dVar 0))) (dOp fEqD (dVar 0) (dVar 1)))))) dNext E0 = some (.rt (.dat (.bool true)) E0) := by
    refine dIf_t (E1 := E0) rfl (dRet_go (pure_go (andV_t rfl (andV_t rfl ?_))))
    exact opI_go rfl rfl eq
  exact fnG_rt (E := E0) (dSeq_go (E1 := E0) rfl (dSeq_go (E1 := E0) rfl (dSeq_rt c3))) rfl
theorem al_none {j : Nat} : K17.g__law_alike (j + 1) [.dat .none, .dat .none] = some (.dat (.bool true), [.dat .none, .dat .none]) := rfl
end DQ17
set_option maxHeartbeats 1000000
namespace DT
open PySem PySem.Spec PyProof.Rows L2 Mv TL K19c
open Gn hiding g__law_take g__law_begun d__law_take d__law_begun
theorem told_go {x : Xt} {i : Nat} {E : En} {r : Rs} (h : dVar i E = some r) (h2 : r.at E = some (.ext x)) : eTold1 x i E = some (.dat badE, E) := by
  unfold eTold1
  rw [h]
  simp only [h2, if_true]
theorem al_str {j : Nat} {a : Str} (ok : PyData.strOk a = true) : K17.g__law_alike (j + 1) [.dat (.str a), .dat (.str a)] = some (.dat (.bool true), [.dat (.str a), .dat (.str a)]) := by
  let E0 : En := DQ17.EA (.own (.dat (.str a))) (.dat (.str a)) (.str a) .no
  have eq : fEqD (.str a) (.str a) = some (.bool true) := by
    have sh : SeqAt.shaped (.str a) = true := by simp [SeqAt.shaped, PyData.canLay0, PyData.depth, ok]
    unfold fEqD
    rw [if_pos ⟨sh, sh⟩, SeqAt.eqv_refl _ (by simp [PyData.canLay0, ok])]
  have c4 : dIf (ePureT (dTest (dIsi .str (dVar 1)))) (dRet (ePure (dAndV (dIsi .str (dVar 0)) (dOp fEqD (dVar 0) (dVar 1))))) dNext E0 = some (.rt (.dat (.bool true)) E0) := by
    refine dIf_t (E1 := E0) rfl (dRet_go (pure_go ?_))
    have e1 : dOp fEqD (dVar 0) (dVar 1) E0 = some (.val (.dat (.bool true))) := dOp_go rfl rfl rfl rfl eq
    unfold dAndV
    rw [show dIsi .str (dVar 0) E0 = some (.val (.dat (.bool true))) from rfl]
    exact e1
  exact fnG_rt (E := E0) (dSeq_go (E1 := E0) rfl (dSeq_go (E1 := E0) rfl (dSeq_go (E1 := E0) rfl (dSeq_rt c4)))) rfl
theorem alike_bad : K19.g__law_alike 9 [.dat badE, .dat badE] = some (.dat (.bool true), [.dat badE, .dat badE]) := by
  refine DQ17.al_tup (ds := [.str "BadEdition", .int 0]) (j := 8) (show 2 < 900 by decide) fun i x hx => ?_
  match i, hx with
  | 0, hx => cases hx; exact al_str (by decide +kernel)
  | 1, hx => cases hx; exact DQ17.al_int _
  | _ + 2, hx => cases hx
def eAl (x : Xt) (v2 : Sl) (G : En) : En := [.bor [3], .own (.dat badE), v2, .own (.lst [.ext x]), .own (.dat badE)] ++ G
theorem all_go (x : Xt) : g__law_all x [.lst [.ext x], .dat badE] = some (.dat (.bool true), [.lst [.ext x], .dat badE]) := by
  let E0 : En := eAl x .no []
  let Et : En := eAl x (.bor [3, 0]) [.bor [3]]
  have c1 : eTold1 x 2 Et = some (.dat badE, Et) := told_go (r := .pl [3, 0]) rfl rfl
  have c2 : lConsE (eTold1 x 2) (lConsP (dVar 1) lNil) Et = some (2, Et ++ [.own (.dat badE), .own (.dat badE)]) := lE_go (k := 1) c1 (lP_own (s := .dat badE) (k := 0) rfl (by rw [List.append_assoc]; rfl))
  have c3 : eCall (K19.g__law_alike 9) (dGhs 2) (Et ++ [.own (.dat badE), .own (.dat badE)]) = some (.dat (.bool true), Et ++ [.own (.dat badE), .own (.dat badE)]) :=
    eCall_go (rs := [.val (.dat badE), .val (.dat badE)]) rfl rfl rfl alike_bad
  have c4 : eEff (lConsE (eTold1 x 2) (lConsP (dVar 1) lNil)) (fun k => dWhen k 2 (eCall (K19.g__law_alike 9) (dGhs k))) Et = some (.dat (.bool true), Et) :=
    eff_go (dc := fun k => dWhen k 2 (eCall (K19.g__law_alike 9) (dGhs k))) c2 (when_go c3) (by rfl) rfl
  have c5 : eNot (eTest (eEff (lConsE (eTold1 x 2) (lConsP (dVar 1) lNil)) fun k => dWhen k 2 (eCall (K19.g__law_alike 9) (dGhs k)))) Et = some (false, Et) := eNot_go (eTest_go c4)
  have c6 : eLc (iLst (dVar 0)) 2 (eNot (eTest (eEff (lConsE (eTold1 x 2) (lConsP (dVar 1) lNil)) fun k => dWhen k 2 (eCall (K19.g__law_alike 9) (dGhs k))))) (ePure (dVar 2)) E0 = some (.lst [], E0) := by
    refine (eLc_go (c := ⟨E0, [.bor [3]], rdP, 1⟩) (E1 := eAl x .no [.bor [3]]) (acc := []) rfl ?_).trans rfl
    show dLcLoop _ 2 _ _ 1 0 [] (eAl x .no [.bor [3]]) = _
    rw [lcLoop_no (r := .pl [3, 0]) (E1 := Et) (E2 := Et) rfl rfl c5]
    exact lcLoop_end rfl
  have c7 : lConsE (eLc (iLst (dVar 0)) 2 (eNot (eTest (eEff (lConsE (eTold1 x 2) (lConsP (dVar 1) lNil)) fun k => dWhen k 2 (eCall (K19.g__law_alike 9) (dGhs k))))) (ePure (dVar 2))) (lConsP (dLst dNil) lNil) E0 = some (2, E0 ++ [.own (.lst []), .own (.lst [])]) :=
    lE_go (k := 1) c6 (lP_own (s := .lst []) (k := 0) rfl (by rw [List.append_assoc]; rfl))
  have c8 : (ePure ((dOp fEqD) (dGh 2 0) (dGh 2 1))) (E0 ++ [.own (.lst []), .own (.lst [])]) = some (.dat (.bool true), E0 ++ [.own (.lst []), .own (.lst [])]) := rfl
  have c9 := eff_go (dc := fun k => dWhen k 2 (ePure ((dOp fEqD) (dGh k 0) (dGh k 1)))) c7 (when_go c8) (by rfl) rfl
  exact fnG_rt (dRet_go c9) rfl
end DT
set_option maxHeartbeats 4000000
namespace K19c
open PySem PySem.Spec PyProof.Rows L2 Mv NX CLX
section
variable {P : Program} {w : World} {K : PySem.W.Frag} {mg : Str → Option Value} {base : Heap}
open Classical in
noncomputable def eAll1 (j jb : Nat) (Pt : Addr) (q : Str) (E : En) : Option (S × En) := match E[j]? with
  | some (.own (.ext y)) => if y = tabX Pt q then match (ekill E [j])[jb]? with
      | some (.own (.dat D)) => if K19x.g_written [.dat D] = some (.ex 17, [.dat D]) then some (.dat (.bool true), ekill E [j]) else none
      | _ => none
    else none
  | _ => none
theorem e_all1 (T : TxtD K mg) (hT : clsOf K 17 T.C_BadEdition) {n j jb : Nat} {as : Ro} {Pt c : Addr} {i : LamId} {N Nl : List Str} {x : Str} {cells : List (Str × Addr)} (hj : jb < n) (hNb : N[jb]? = some x) (hcells : cells.lookup x = some c) (hcl : i.cl = [(x, c)]) (hNl : Nl = [x])
    (S : ClS i.scope Nl) (hb : LamBind i.params i.scope) (hd : i.params.defaults = [])
    (hbody : ∀ (f c' : Addr) (A : Around) (outer : List Env) (s : Shared) (H : Hp) (E : XK), Room 6 (A.deeper (clEnv i.qual i.scope [(x, c)] s.heap.objs.size f c')) → PE (clCx P w K mg base i.qual i.scope Nl [(x, c)] f c' A outer s H E) i.body (tbL K E)) :
    EvE K n as (tCallC N cells (spMv K 2 (g__law_all (raisX P w base T 7))) (tCons (tLst (tCons (tLm Pt i.qual i.params i.body i.scope i.cl) tNil)) (tCons (tTupF (tCons (tC (.str "BadEdition")) (tCons (tC (.int 0)) tNil))) tNil))) (eAll1 j jb Pt i.qual) := by
  intro F H σ E fp L R s0 E0 e Q q
  unfold eAll1 at e
  split at e
  · next y ey =>
    split at e
    · next hy =>
      subst hy
      have eL := eLm_go (i := i) ey
      split at e
      · next D eD =>
       split at e
       · next hw =>
        cases e
        unfold tCallC tCons tLst
        dsimp only
        refine e_lm (K := K) (n := n) (as := as) L R eL fun v F1 H1 fr fp1 g1 R1 ow nd of => ?_
        obtain ⟨rfl, f, rfl, il⟩ := ow.ext_inv rfl
        refine ⟨by show 1 ≤ sizeLine; decide, fun p hp => ?_⟩
        refine ⟨by show 2 ≤ sizeLine; decide, fun p2 ob hp2 ho => ?_⟩
        intro os hfree hos
        have hcm : c ∈ cells.map (·.2) := List.mem_map.mpr ⟨(x, c), PySem.mem_of_lookup hcells, rfl⟩
        have hin : ∀ b o, (upd (upd H1 p (.lst [V.ref f])) p2 (.frz ob (.tup [V.str "BadEdition", V.int 0]))) b = some o → b ∉ cells.map (·.2) := fun b o e m => by rw [hfree b m] at e; cases e
        have pp : p2 ≠ p := fun z => by rw [z, upd_same] at hp2; cases hp2
        have H1p2 : H1 p2 = none := by rw [upd_ne pp] at hp2; exact hp2
        have h3c : (upd (upd H1 p (.lst [V.ref f])) p2 (.frz ob (.tup [V.str "BadEdition", V.int 0]))) c = none := hfree c hcm
        have cp2 : c ≠ p2 := fun z => by rw [z, upd_same] at h3c; cases h3c
        have cp : c ≠ p := fun z => by rw [upd_ne cp2, z, upd_same] at h3c; cases h3c
        have h1c : H1 c = none := by rw [upd_ne cp2, upd_ne cp] at h3c; exact h3c
        have F1c : F1 c = none := by
          cases q : F1 c with
          | none => rfl
          | some o => rw [g1.sub c o q] at h1c; cases h1c
        have F1p : F1 p = none := by
          cases q : F1 p with
          | none => rfl
          | some o => rw [g1.sub p o q] at hp; cases hp
        have F1p2 : F1 p2 = none := by
          cases q : F1 p2 with
          | none => rfl
          | some o => rw [g1.sub p2 o q] at H1p2; cases H1p2
        have ne1 : ∀ b o, H1 b = some o → b ≠ p ∧ b ≠ p2 ∧ b ≠ c := fun b o e => ⟨(fun z => by rw [z, hp] at e; cases e), (fun z => by rw [z, H1p2] at e; cases e), (fun z => by rw [z, h1c] at e; cases e)⟩
        let F4 : Hp := upd (upd F1 p2 (.frz ob (.tup [V.str "BadEdition", V.int 0]))) c (CellO c (os c))
        let H4 : Hp := tellC (cells.map (·.2)) os (upd (upd H1 p (.lst [V.ref f])) p2 (.frz ob (.tup [V.str "BadEdition", V.int 0])))
        have h4c : H4 c = some (CellO c (os c)) := tell_in hcm
        have h4 : ∀ b, b ∉ cells.map (·.2) → H4 b = (upd (upd H1 p (.lst [V.ref f])) p2 (.frz ob (.tup [V.str "BadEdition", V.int 0]))) b := fun b hb => tell_out hb
        have h4s : ∀ b o, (upd (upd H1 p (.lst [V.ref f])) p2 (.frz ob (.tup [V.str "BadEdition", V.int 0]))) b = some o → H4 b = some o := fun b o e => by rw [h4 b (hin b o e)]; exact e
        have h14 : ∀ b o, F1 b = some o → F4 b = some o := fun b o e => by
          obtain ⟨_, n2, n3⟩ := ne1 b o (g1.sub b o e)
          show upd _ _ _ b = _
          rw [upd_ne n3, upd_ne n2]; exact e
        have sub4 : ∀ b o, F4 b = some o → H4 b = some o := fun b o e => by
          by_cases hb : b = c
          · rw [hb] at e ⊢
            rw [show F4 c = _ from upd_same] at e
            rw [h4c]; exact e
          · refine h4s b o ?_
            rw [show F4 b = _ from upd_ne hb] at e
            by_cases hb2 : b = p2
            · rw [hb2, upd_same] at e ⊢; exact e
            · rw [upd_ne hb2] at e ⊢
              rw [upd_ne (ne1 b o (g1.sub b o e)).1]
              exact g1.sub b o e
        have h4p : H4 p = some (.lst [V.ref f]) := h4s p _ (by rw [upd_ne (Ne.symm pp), upd_same])
        have f4p : F4 p = none := by
          show upd _ _ _ p = _
          rw [upd_ne (Ne.symm cp), upd_ne (Ne.symm pp)]; exact F1p
        obtain ⟨dV, ⟨c', pm, ct, l1, l2⟩, dfl⟩ := il
        have hdv : dV = .none := by
          rcases dfl with ⟨_, e⟩ | ⟨e, _⟩
          · exact e
          · exact absurd hd e
        subst hdv
        rw [hcl] at l1
        obtain ⟨vb, hvb⟩ := R1.core.set jb _ eD
        have hvb' : σ[jb]? = some (some vb) := by rwa [List.getElem?_append_left (by omega)] at hvb
        have hDq : Dq K F1 vb D := by
          have hg : eget (ekill E [j]) [jb] = some (.dat D) := by simp only [eget, eD, Mv.S.get_nil]
          obtain ⟨u, fa, fb, h1, o1, _, _⟩ := R1.core.take hg
          have : u = vb := by
            simp only [followE, hvb, follow_nil] at h1
            exact (Option.some.inj h1).symm
          subst this
          exact (o1.dat_inv rfl).1
        have rl : (raisX P w base T 7).At K F4 H4 (.ref f) [] := raise_lam (N := Nl) (x := x) (c := c) (c' := c') (F1 := F1) (o := os c) (v := vb) (D := D) T hT hNl S hb hd (fun A outer s H E hr => hbody f c' A outer s H E hr) (h14 _ _ l1) (h14 _ _ l2) (show F4 c = _ from upd_same)
          (hos jb x vb c hNb hvb' hcells) h14 F1c hDq hw
        refine ⟨rfl, F4, [.lst [.ext (raisX P w base T 7)], .dat badE], [p], .dat (.bool true), [.lst [.ext (raisX P w base T 7)], .dat badE], sub4, ?_, by simp, (fun b m => by rw [List.mem_singleton.mp m]; exact f4p), DT.all_go _, fun v F' H' fr' fp' g l ow' nd' of' => ?_⟩
        · have o1 : Own K F4 H4 (.ref p) (.lst [.ext (raisX P w base T 7)]) [p] := by
            have := Own.node (K := K) (F := F4) (H := H4) (a := p) (o := .lst [V.ref f]) (s := .lst [.ext (raisX P w base T 7)]) (ex := []) (fp := []) h4p rfl (OwnL.cons (fp := []) (fq := []) (.ext rl) .nil)
            simpa using this
          have o2 : Own K F4 H4 (.ref p2) (.dat badE) [] := .dat (.tup (.inl ⟨ob, by show upd _ _ _ p2 = _; rw [upd_ne (Ne.symm cp2), upd_same], ho⟩) (.cons (.str _) (.cons (.int _) .nil)))
          exact OwnL.cons (fp := [p]) (fq := []) o1 (OwnL.cons (fp := []) (fq := []) o2 .nil)
        · refine ⟨fun b m => ?_, ?_⟩
          · exact g.keep b _ (show H4 b = _ from tell_in m) (fun z => hin p _ (show _ = some (.lst [V.ref f]) by rw [upd_ne (Ne.symm pp), upd_same]) (by rw [← List.mem_singleton.mp z]; exact m))
          · have k1 : ∀ b o, H1 b = some o → lessC (cells.map (·.2)) H' b = some o := fun b o e => by
              obtain ⟨n1, n2, n3⟩ := ne1 b o e
              have e3 : (upd (upd H1 p (.lst [V.ref f])) p2 (.frz ob (.tup [V.str "BadEdition", V.int 0]))) b = some o := by rw [upd_ne n2, upd_ne n1]; exact e
              rw [less_out (hin b o e3)]
              exact g.keep b o (h4s b o e3) (fun m => n1 (List.mem_singleton.mp m))
            have gK : Grow F1 H1 [] F1 (lessC (cells.map (·.2)) H') [] := ⟨fun _ _ e => e, fun b o e => k1 b o (g1.sub b o e), fun b o e _ => k1 b o e, (fun b m => nomatch m), fun b _ _ e => e⟩
            have hv : v = .bl true := by
              have := (ow'.dat_inv rfl).1
              cases this; rfl
            subst hv
            exact q _ F1 _ [] fp1 (by simpa using g1.trans gK.mine) (R1.grow gK) (.dat (.bl true)) (by simpa using R1.nd) (fun _ m => nomatch m)
       · cases e
      · cases e
    · cases e
  · cases e
end
end K19c
set_option maxHeartbeats 4000000
namespace K19c
open PySem PySem.Spec PyProof.Rows L2 Mv NX CLX LamX K19
abbrev s_law : Stmt := K19.topS 41
theorem sc_law : FnScope ["_law_script", "_law_box", "_law_turn", "_law_number", "_law_make", "_law_edition", "_law_text", "_law_owner", "_law_far", "_law_odd", "_law_bad", "_law_k"] ["_law_script"] (defScope s_law) := ⟨rfl, rfl, rfl, by decide +kernel, rfl, by decide +kernel, by decide +kernel⟩
/-- the law's lambda -/
def lamE : Expr := match (defBody s_law)[1]? with
  | some (Stmt.For _ _ b _ _) => match b[11]? with
    | some (Stmt.If (Expr.UnaryOp _ (Expr.Call _ (Expr.List (e :: _) _ :: _) _ _) _) _ _ _) => e
    | _ => Expr.Constant .none default default
  | _ => Expr.Constant .none default default
def lamP : Arguments := match lamE with | Expr.Lambda p _ _ _ => p | _ => default
def lamB : Expr := match lamE with | Expr.Lambda _ b _ _ => b | _ => lamE
def lamSc : Scope := match lamE with | Expr.Lambda _ _ s _ => s | _ => default
def lamQ : Str := (envOfC "law" (defScope s_law) 0 0 .none).qual ++ "<lambda>"
def lamI (n : Nat) : LamId := ⟨lamQ, lamP, lamB, lamSc, [("_law_bad", n + 1 + 1)]⟩
section
variable {P : Program} {w : World} {K : PySem.W.Frag} {mg : Str → Option Value} {base : Heap}
noncomputable def d_law (Pt : Addr) : En → Option Out := (dSeq (dSet 1 (eCall g__law_begun (dCons (dVar 0) dNil)))
    (dSeq (dFor (iRange (dC (.int 4))) (bName 2) (dSeq (dSet 3 (eEff (lConsE (eLst (lConsP (dC (.int 1)) (lConsP (dOp fPow (dC (.int 10)) (dC (.int 6))) (lConsE (eOp fAdd (ePure (dC (.int 1))) (eCall g__law_take (dCons (dVar 1) (dCons (dOp fPow (dC (.int 10)) (dC (.int 6))) dNil)))) lNil)))) (lConsE (eCall g__law_take (dCons (dVar 1) (dCons (dC (.int 3)) dNil))) lNil)) fun k => dWhen k 2 (ePure (dIxL (dGh k 0) (dGh k 1)))))
    (dSeq (dSet 4 (eEff (lConsE (eLst (lConsP (dC .none) (lConsP (dC (.int 0)) (lConsP (dOp fPow (dC (.int 10)) (dC (.int 6))) (lConsE (eCall g__law_take (dCons (dVar 1) (dCons (dOp fPow (dC (.int 10)) (dC (.int 6))) dNil))) lNil))))) (lConsE (eCall g__law_take (dCons (dVar 1) (dCons (dC (.int 4)) dNil))) lNil)) fun k => dWhen k 2 (ePure (dIxL (dGh k 0) (dGh k 1)))))
    (dSeq (dSet 5 (eEff (lConsP (dVar 3) (lConsP (dVar 4) (lConsE (eCS fTuple (eLc (iRange (dC (.int 12))) 11 eYes (eCall g__law_take (dCons (dVar 1) (dCons (dC (.int 20)) dNil))))) lNil))) fun k => ePure (dTupL (dGhs k))))
    (dSeq (dAlias 6 (dOp fAddS (dOp fAddS (dCB fStr (dCons (dVar 3) dNil)) (dC (.str " "))) (dIfE (dTest (dOp fIsN (dVar 4) (dC .none))) (dC (.str "-")) (dCB fStr (dCons (dVar 4) dNil)))))
    (dSeq (dFor (iTupS (dIxT (dVar 5) (dC (.int 2)))) (bName 7) (dAlias 6 (dOp fAddS (dOp fAddS (dVar 6) (dC (.str " "))) (dCB fStr (dCons (dVar 7) dNil)))))
    (dSeq (dIf (eOr (eNot (eTest (eEff (lConsE (eCall g_written (dCons (dVar 5) dNil)) (lConsP (dVar 6) lNil)) fun k => dWhen k 2 (eCall (g__law_alike 9) (dGhs k))))) (eNot (eTest (eEff (lConsE (eCall g_read (dCons (dVar 6) dNil)) (lConsP (dVar 5) lNil)) fun k => dWhen k 2 (eCall (g__law_alike 9) (dGhs k)))))) (dRet (ePure (dC (.bool false)))) dNext)
    (dSeq (dIf (eTest (eOp fNeS (eEff (lConsE (eCall g_read (dCons (dVar 6) dNil)) lNil) fun k => dWhen k 1 (eCall g_written (dGhs k))) (ePure (dVar 6)))) (dRet (ePure (dC (.bool false)))) dNext)
    (dSeq (dSet 8 (eCall g__law_take (dCons (dVar 1) (dCons (dOp fPow (dC (.int 10)) (dC (.int 18))) dNil))))
    (dSeq (dAlias 9 (dLst (dCons (dTupL (dCons (dC (.int 0)) (dCons (dVar 4) (dCons (dIxT (dVar 5) (dC (.int 2))) dNil)))) (dCons (dTupL (dCons (dVar 3) (dCons (dNeg (dC (.int 1))) (dCons (dIxT (dVar 5) (dC (.int 2))) dNil)))) (dCons (dTupL (dCons (dVar 3) (dCons (dVar 4) (dCons (dSl fSlT (dIxT (dVar 5) (dC (.int 2))) (dPart (dC (.int 1))) dNoPart) dNil)))) (dCons (dTupL (dCons (dVar 3) dNil)) (dCons (dTupL dNil) dNil)))))))
    (dSeq (dAlias 9 (dOpS fCatL (dVar 9) (dLst (dCons (dTupL (dCons (dOp fAdd (dOp fAdd (dOp fPow (dC (.int 10)) (dC (.int 6))) (dC (.int 1))) (dVar 8)) (dCons (dVar 4) (dCons (dIxT (dVar 5) (dC (.int 2))) dNil)))) (dCons (dTupL (dCons (dVar 3) (dCons (dVar 4) (dCons (dOpS fCatT (dSl fSlT (dIxT (dVar 5) (dC (.int 2))) (dPart (dC (.int 1))) dNoPart) (dTupL (dCons (dOp fAdd (dC (.int 20)) (dVar 8)) dNil))) dNil)))) dNil)))))
    (dSeq (dSet 10 (eEff (lConsP (dVar 9) (lConsE (eCall g__law_take (dCons (dVar 1) (dCons (dC (.int 7)) dNil))) lNil)) fun k => dWhen k 2 (ePure (dIxL (dGh k 0) (dGh k 1)))))
    (dIf (eNot (eTest (eAll1 13 10 Pt lamQ))) (dRet (ePure (dC (.bool false)))) dNext)))))))))))))
    (dRet (ePure (dC (.bool true))))))
noncomputable def g_law (Pt : Addr) : List Mv.S → List Mv.S → Option (Mv.S × List Mv.S × List Mv.S) := fnGG 12 (d_law Pt)
theorem lamS : ClS lamSc ["_law_bad"] := ⟨rfl, rfl, rfl, by decide +kernel, by decide +kernel, by decide +kernel, by decide +kernel⟩
theorem lamBi : LamBind lamP lamSc := ⟨fun _ _ _ _ _ _ _ => rfl, fun h => absurd rfl h⟩
theorem lam_body (TX : K19x.Txt K mg) {f c c' : Addr} (A : Around) (outer : List Env) (s : Shared) (H : Hp) (E : XK) (hr : Room 6 (A.deeper (clEnv lamQ lamSc [("_law_bad", c)] s.heap.objs.size f c'))) : PE (clCx P w K mg base lamQ lamSc ["_law_bad"] [("_law_bad", c)] f c' A outer s H E) lamB (tbL K E) :=
  pe_callS (K19x.ok_written TX) hr rfl TX.m_written TX.F_written.kp TX.b_written (fun σ => passAt (takes_of rfl rfl rfl rfl) σ) (pa_cons (pv 0) pa_nil)
theorem ok_law (TB : K19.Txt K mg) (TE : TxtE K mg) (TX : K19x.Txt K mg) (hT : clsOf K 17 TE.C_BadEdition) {aL cA Pt : Addr} {dL : FuncData} (FL : FunC K "law" "law" s_law aL dL cA) (hTab : TabB base mg cA Pt) :
    FnOk P w K mg base CX0 11 aL dL ["_law_script"] (spG [.ref Pt] K 1 (g_law Pt)) := by
  refine fn_mvGC [.ref Pt] FL sc_law (fun A outer s H E vs hl hr => ?_)
  have hce : (envOfC "law" (defScope s_law) s.heap.objs.size aL (.ref cA)).cells = ([("_law_bad", s.heap.objs.size + 1 + 1), ("_law_box", s.heap.objs.size + 1)] : List (Str × Addr)) := rfl
  have hnd : ∀ q ∈ (envOfC "law" (defScope s_law) s.heap.objs.size aL (.ref cA)).cells, (envOfC "law" (defScope s_law) s.heap.objs.size aL (.ref cA)).cells.lookup q.1 = some q.2 := by
    rw [hce]; intro q hq
    rcases List.mem_cons.mp hq with rfl | hq
    · rfl
    · rw [List.mem_singleton.mp hq]; rfl
  have hcell : ∀ q ∈ (envOfC "law" (defScope s_law) s.heap.objs.size aL (.ref cA)).cells, (defScope s_law).names.lookup q.1 = some .cell := by
    rw [hce]; intro q hq
    rcases List.mem_cons.mp hq with rfl | hq
    · rfl
    · rw [List.mem_singleton.mp hq]; rfl
  have hfree : ∀ y ∈ lamSc.names, y.2 = .free → ∃ c, (envOfC "law" (defScope s_law) s.heap.objs.size aL (.ref cA)).cells.lookup y.1 = some c := by
    intro y hy hf
    have : y.1 ∈ (["_law_bad"] : List Str) := lamS.free y hy hf
    rw [List.mem_singleton.mp this]
    exact ⟨_, rfl⟩
  exact ⟨_, (pss_cons (ps_set (i := 1) sc_law.nd rfl (Or.inr rfl) (pe_call (ok__law_begun TB) (hr.mono (by decide)) rfl TB.m__law_begun TB.F__law_begun.kp TB.b__law_begun .nil pass0 (pa_cons (pv 0) pa_nil)))
    (pss_cons (ps_for PassesOwn.never rfl (pi_range1 (by rfl) TB.n_range (pa_cons pe_int pa_nil)) (pg_name (i := 2) sc_law.nd rfl (Or.inl rfl)) (pss_cons (ps_set (i := 3) sc_law.nd rfl (Or.inl rfl) (pe_ix (r := rIxL K) ix_list (pe_lst (pa_cons pe_int (pa_cons (pe_op op_pow pe_int pe_int) (pa_cons (pe_op op_add pe_int (pe_call (ok__law_take TB) (hr.mono (by decide)) rfl TB.m__law_take TB.F__law_take.kp TB.b__law_take .nil pass0 (pa_cons (pv 1) (pa_cons (pe_op op_pow pe_int pe_int) pa_nil)))) pa_nil)))) (pe_call (ok__law_take TB) (hr.mono (by decide)) rfl TB.m__law_take TB.F__law_take.kp TB.b__law_take .nil pass0 (pa_cons (pv 1) (pa_cons pe_int pa_nil))) (fun _ _ => rfl)))
    (pss_cons (ps_set (i := 4) sc_law.nd rfl (Or.inl rfl) (pe_ix (r := rIxL K) ix_list (pe_lst (pa_cons pe_non (pa_cons pe_int (pa_cons (pe_op op_pow pe_int pe_int) (pa_cons (pe_call (ok__law_take TB) (hr.mono (by decide)) rfl TB.m__law_take TB.F__law_take.kp TB.b__law_take .nil pass0 (pa_cons (pv 1) (pa_cons (pe_op op_pow pe_int pe_int) pa_nil))) pa_nil))))) (pe_call (ok__law_take TB) (hr.mono (by decide)) rfl TB.m__law_take TB.F__law_take.kp TB.b__law_take .nil pass0 (pa_cons (pv 1) (pa_cons pe_int pa_nil))) (fun _ _ => rfl)))
    (pss_cons (ps_set (i := 5) sc_law.nd rfl (Or.inl rfl) (pe_tupF (pa_cons (pv 3) (pa_cons (pv 4) (pa_cons (pe_callTy (r := rTupQ K) cr_tupQ (by rfl) TB.n_tuple (by decide +kernel) (pa_cons (pe_lc (own := [("_law_k", 11)]) rfl sc_law.nd (pi_range1 (by rfl) TB.n_range (pa_cons pe_int pa_nil)) (blkOk_by (N := ["_law_script", "_law_box", "_law_turn", "_law_number", "_law_make", "_law_edition", "_law_text", "_law_owner", "_law_far", "_law_odd", "_law_bad", "_law_k"]) (sc := defScope s_law) (by decide +kernel)) (fun _ _ _ _ _ => pg_name (i := 11) sc_law.nd rfl (Or.inl rfl)) (fun _ _ _ _ _ => pts_nil) (fun _ _ _ _ _ => (pe_call (ok__law_take TB) (hr.mono (by decide)) rfl TB.m__law_take TB.F__law_take.kp TB.b__law_take .nil pass0 (pa_cons (pv 1) (pa_cons pe_int pa_nil))))) pa_nil)) pa_nil)))))
    (pss_cons (ps_set (i := 6) sc_law.nd rfl (Or.inl rfl) (pe_op op_add_str (pe_op op_add_str (pe_callTy call_str (by rfl) TB.n_str (by decide +kernel) (pa_cons (pv 3) pa_nil)) pe_str) (pe_ifExp (pt_cmpR op_isN (pv 4) pe_non (nomark _)) pe_str (pe_callTy call_str (by rfl) TB.n_str (by decide +kernel) (pa_cons (pv 4) pa_nil)))))
    (pss_cons (ps_for PassesOwn.never rfl (pi_tup (pe_ix (r := rIxT K) ix_tup (pv 5) pe_int (fun _ _ => rfl))) (pg_name (i := 7) sc_law.nd rfl (Or.inl rfl)) (pss_one (ps_set (i := 6) sc_law.nd rfl (Or.inl rfl) (pe_op op_add_str (pe_op op_add_str (pv 6) pe_str) (pe_callTy call_str (by rfl) TB.n_str (by decide +kernel) (pa_cons (pv 7) pa_nil))))))
    (pss_cons (ps_if (PW.pt (pw_or (pt_not (pt_val (pe_call (ok__law_alike TB) (hr.mono (by decide)) rfl TB.m__law_alike TB.F__law_alike.kp TB.b__law_alike .nil pass0 (pa_cons (pe_call (ok_written TB) (hr.mono (by decide)) rfl TB.m_written TB.F_written.kp TB.b_written .nil pass0 (pa_cons (pv 5) pa_nil)) (pa_cons (pv 6) pa_nil))))) (pw_or1 (pt_not (pt_val (pe_call (ok__law_alike TB) (hr.mono (by decide)) rfl TB.m__law_alike TB.F__law_alike.kp TB.b__law_alike .nil pass0 (pa_cons (pe_call (ok_read TB) (hr.mono (by decide)) rfl TB.m_read TB.F_read.kp TB.b_read .nil pass0 (pa_cons (pv 6) pa_nil)) (pa_cons (pv 5) pa_nil)))))))) (pss_one (ps_ret pe_bl)) pss_nil)
    (pss_cons (ps_if (pt_cmpR op_ne (pe_call (ok_written TB) (hr.mono (by decide)) rfl TB.m_written TB.F_written.kp TB.b_written .nil pass0 (pa_cons (pe_call (ok_read TB) (hr.mono (by decide)) rfl TB.m_read TB.F_read.kp TB.b_read .nil pass0 (pa_cons (pv 6) pa_nil)) pa_nil)) (pv 6) (nomark _)) (pss_one (ps_ret pe_bl)) pss_nil)
    (pss_cons (ps_set (i := 8) sc_law.nd rfl (Or.inl rfl) (pe_call (ok__law_take TB) (hr.mono (by decide)) rfl TB.m__law_take TB.F__law_take.kp TB.b__law_take .nil pass0 (pa_cons (pv 1) (pa_cons (pe_op op_pow pe_int pe_int) pa_nil))))
    (pss_cons (ps_set (i := 9) sc_law.nd rfl (Or.inl rfl) (pe_lst (pa_cons (pe_tupF (pa_cons pe_int (pa_cons (pv 4) (pa_cons (pe_ix (r := rIxT K) ix_tup (pv 5) pe_int (fun _ _ => rfl)) pa_nil)))) (pa_cons (pe_tupF (pa_cons (pv 3) (pa_cons (pe_un un_neg pe_int) (pa_cons (pe_ix (r := rIxT K) ix_tup (pv 5) pe_int (fun _ _ => rfl)) pa_nil)))) (pa_cons (pe_tupF (pa_cons (pv 3) (pa_cons (pv 4) (pa_cons (pe_slice (r := rSlF K) sl_tupF (pe_ix (r := rIxT K) ix_tup (pv 5) pe_int (fun _ _ => rfl)) (po_some pe_int) po_none) pa_nil)))) (pa_cons (pe_tupF (pa_cons (pv 3) pa_nil)) (pa_cons (pe_tupF pa_nil) pa_nil)))))))
    (pss_cons (ps_set (i := 9) sc_law.nd rfl (Or.inl rfl) (pe_op (r := rCatS K) op_catS (pv 9) (pe_lst (pa_cons (pe_tupF (pa_cons (pe_op op_add (pe_op op_add (pe_op op_pow pe_int pe_int) pe_int) (pv 8)) (pa_cons (pv 4) (pa_cons (pe_ix (r := rIxT K) ix_tup (pv 5) pe_int (fun _ _ => rfl)) pa_nil)))) (pa_cons (pe_tupF (pa_cons (pv 3) (pa_cons (pv 4) (pa_cons (pe_op (r := rCatF K) op_catF (pe_slice (r := rSlF K) sl_tupF (pe_ix (r := rIxT K) ix_tup (pv 5) pe_int (fun _ _ => rfl)) (po_some pe_int) po_none) (pe_tupF (pa_cons (pe_op op_add pe_int (pv 8)) pa_nil))) pa_nil)))) pa_nil)))))
    (pss_cons (ps_set (i := 10) sc_law.nd rfl (Or.inr rfl) (pe_ix (r := rIxL K) ix_list (pv 9) (pe_call (ok__law_take TB) (hr.mono (by decide)) rfl TB.m__law_take TB.F__law_take.kp TB.b__law_take .nil pass0 (pa_cons (pv 1) (pa_cons pe_int pa_nil))) (fun _ _ => rfl)))
    (pss_one (ps_if (pt_not (pt_val (pe_callC (ok__law_all (P := P) (w := w) (base := base) TB TE) (fun _ _ _ _ _ _ h => h) (hr.mono (by decide)) rfl TE.m__law_all TE.F__law_all.kp TE.b__law_all (fun _ => rfl) hnd hcell (pa_cons (pe_lst (pa_cons (pe_lm hTab rfl hfree (.none rfl rfl)) pa_nil)) (pa_cons (pe_tupF (pa_cons pe_str (pa_cons pe_int pa_nil))) pa_nil))))) (pss_one (ps_ret pe_bl)) pss_nil))))))))))))))
    (pss_one (ps_ret pe_bl)))),
    fun W => (s_seq (s_set (by decide) (e_call (p_cons (p_var (i := 0) (by decide)) p_nil) (dl_cons dl_nil)))
    (s_seq (s_for (i_range (p_c (d := .int 4))) (g_name (i := 2) (by decide)) (fun _ => (s_seq (s_set (by decide) (e_op2E (fun a b => p_ixL a b) (l_consE (e_lst (l_consP (p_c (d := .int 1)) (fun _ => (l_consP (p_op rv_pow (p_c (d := .int 10)) (p_c (d := .int 6))) (fun _ => (l_consE (e_op rv_add (e_pure (p_c (d := .int 1))) (e_call (p_cons (p_var (i := 1) (by decide)) (p_cons (p_op rv_pow (p_c (d := .int 10)) (p_c (d := .int 6))) p_nil)) (dl_cons (dl_cons dl_nil)))) (fun _ => l_nil))))))) (fun _ => (l_consE (e_call (p_cons (p_var (i := 1) (by decide)) (p_cons (p_c (d := .int 3)) p_nil)) (dl_cons (dl_cons dl_nil))) (fun _ => l_nil))))))
    (s_seq (s_set (by decide) (e_op2E (fun a b => p_ixL a b) (l_consE (e_lst (l_consP (p_c (d := .none)) (fun _ => (l_consP (p_c (d := .int 0)) (fun _ => (l_consP (p_op rv_pow (p_c (d := .int 10)) (p_c (d := .int 6))) (fun _ => (l_consE (e_call (p_cons (p_var (i := 1) (by decide)) (p_cons (p_op rv_pow (p_c (d := .int 10)) (p_c (d := .int 6))) p_nil)) (dl_cons (dl_cons dl_nil))) (fun _ => l_nil))))))))) (fun _ => (l_consE (e_call (p_cons (p_var (i := 1) (by decide)) (p_cons (p_c (d := .int 4)) p_nil)) (dl_cons (dl_cons dl_nil))) (fun _ => l_nil))))))
    (s_seq (s_set (by decide) (e_tupE (l_consP (p_var (i := 3) (by decide)) (fun _ => (l_consP (p_var (i := 4) (by decide)) (fun _ => (l_consE (e_cs1 rc_tuple (e_lc (by decide) (i_range (p_c (d := .int 12))) (fun _ => e_yes) (fun _ => (e_call (p_cons (p_var (i := 1) (by decide)) (p_cons (p_c (d := .int 20)) p_nil)) (dl_cons (dl_cons dl_nil)))))) (fun _ => l_nil))))))))
    (s_seq (s_alias (by decide) (p_op rv_addS (p_op rv_addS (p_cb rc_str (p_cons (p_var (i := 3) (by decide)) p_nil)) (p_c (d := .str " "))) (p_ifE (p_test (p_op rv_isN (p_var (i := 4) (by decide)) (p_c (d := .none)))) (p_c (d := .str "-")) (p_cb rc_str (p_cons (p_var (i := 4) (by decide)) p_nil)))))
    (s_seq (s_for (i_tup (p_ixT (p_var (i := 5) (by decide)) (p_c (d := .int 2)))) (g_name (i := 7) (by decide)) (fun _ => (s_alias (by decide) (p_op rv_addS (p_op rv_addS (p_var (i := 6) (by decide)) (p_c (d := .str " "))) (p_cb rc_str (p_cons (p_var (i := 7) (by decide)) p_nil))))))
    (s_seq (s_if (e_or (e_not (e_tB (e_callE (l_consE (e_call (p_cons (p_var (i := 5) (by decide)) p_nil) (dl_cons dl_nil)) (fun _ => (l_consP (p_var (i := 6) (by decide)) (fun _ => l_nil))))))) (e_not (e_tB (e_callE (l_consE (e_call (p_cons (p_var (i := 6) (by decide)) p_nil) (dl_cons dl_nil)) (fun _ => (l_consP (p_var (i := 5) (by decide)) (fun _ => l_nil)))))))) (s_ret (e_pure (p_c (d := .bool false)))) s_next)
    (s_seq (s_if (e_test (e_op rv_ne (e_callE (l_consE (e_call (p_cons (p_var (i := 6) (by decide)) p_nil) (dl_cons dl_nil)) (fun _ => l_nil))) (e_pure (p_var (i := 6) (by decide))))) (s_ret (e_pure (p_c (d := .bool false)))) s_next)
    (s_seq (s_set (by decide) (e_call (p_cons (p_var (i := 1) (by decide)) (p_cons (p_op rv_pow (p_c (d := .int 10)) (p_c (d := .int 18))) p_nil)) (dl_cons (dl_cons dl_nil))))
    (s_seq (s_alias (by decide) (p_lst (p_cons (p_tup (p_cons (p_c (d := .int 0)) (p_cons (p_var (i := 4) (by decide)) (p_cons (p_ixT (p_var (i := 5) (by decide)) (p_c (d := .int 2))) p_nil)))) (p_cons (p_tup (p_cons (p_var (i := 3) (by decide)) (p_cons (p_neg (p_c (d := .int 1))) (p_cons (p_ixT (p_var (i := 5) (by decide)) (p_c (d := .int 2))) p_nil)))) (p_cons (p_tup (p_cons (p_var (i := 3) (by decide)) (p_cons (p_var (i := 4) (by decide)) (p_cons (p_sliceT (p_ixT (p_var (i := 5) (by decide)) (p_c (d := .int 2))) (p_part (p_c (d := .int 1))) p_noPart) p_nil)))) (p_cons (p_tup (p_cons (p_var (i := 3) (by decide)) p_nil)) (p_cons (p_tup p_nil) p_nil)))))))
    (s_seq (s_alias (by decide) (p_opS rv_catL (p_var (i := 9) (by decide)) (p_lst (p_cons (p_tup (p_cons (p_op rv_add (p_op rv_add (p_op rv_pow (p_c (d := .int 10)) (p_c (d := .int 6))) (p_c (d := .int 1))) (p_var (i := 8) (by decide))) (p_cons (p_var (i := 4) (by decide)) (p_cons (p_ixT (p_var (i := 5) (by decide)) (p_c (d := .int 2))) p_nil)))) (p_cons (p_tup (p_cons (p_var (i := 3) (by decide)) (p_cons (p_var (i := 4) (by decide)) (p_cons (p_opS rv_catT (p_sliceT (p_ixT (p_var (i := 5) (by decide)) (p_c (d := .int 2))) (p_part (p_c (d := .int 1))) p_noPart) (p_tup (p_cons (p_op rv_add (p_c (d := .int 20)) (p_var (i := 8) (by decide))) p_nil))) p_nil)))) p_nil)))))
    (s_seq (s_set (by decide) (e_op2E (fun a b => p_ixL a b) (l_consP (p_var (i := 9) (by decide)) (fun _ => (l_consE (e_call (p_cons (p_var (i := 1) (by decide)) (p_cons (p_c (d := .int 7)) p_nil)) (dl_cons (dl_cons dl_nil))) (fun _ => l_nil))))))
    (s_if (e_not (e_tB (e_all1 TE.toTxtD hT (i := lamI s.heap.objs.size) (jb := 10) (j := 13) (by decide) rfl rfl rfl rfl lamS lamBi rfl (fun f c2 A outer s H E hr => lam_body TX A outer s H E hr)))) (s_ret (e_pure (p_c (d := .bool false)))) s_next))))))))))))))
    (s_ret (e_pure (p_c (d := .bool true))))))⟩
end
end K19c
set_option maxHeartbeats 1000000
namespace DT
open PySem PySem.Spec PyProof.Rows L2 Mv TL
open Gn hiding g__law_take g__law_begun d__law_take d__law_begun v_take v_begun eBg
theorem divPW {i j : Int} (h : 0 < j) (h2 : j < 18446744073709551616) : fDivW (.int i) (.int j) = some (.int (i / j)) := if_pos ⟨h, h2⟩
theorem v_begun {ns : List Int} (hl : ns.length < 1000) : ∃ st, K19.g__law_begun [.dat (.list (ns.map .int))] = some (bx ns st, [.dat (.list (ns.map .int))]) := Gn.v_begun hl
theorem v_take {ns : List Int} {st many : Int} (h0 : 0 < many) (h1 : many < 18446744073709551616) (hl : ns.length < 1000) : ∃ r ns' st', 0 ≤ r ∧ r < many ∧ ns'.length ≤ ns.length ∧ K19.g__law_take [bx ns st, .dat (.int many)] = some (.dat (.int r), [bx ns' st', .dat (.int many)]) := by
  cases ns with
  | nil =>
    let E0 : En := [.bor [3], .own (.dat (.int many)), .no, .own (bx [] st), .own (.dat (.int many))]
    have hc : ePureT (dTest (dOp fEqD (dIxL (dVar 0) (dC (.int 0))) (dLst dNil))) E0 = some (true, E0) := by
      have a1 : dOp fEqD (dIxL (dVar 0) (dC (.int 0))) (dLst dNil) E0 = some (.val (.dat (.bool true))) := dOp_go (a := .pl [3, 0]) (b := .val (.lst [])) (x := .list []) (y := .list []) rfl rfl rfl rfl (eqD_self [])
      unfold ePureT dTest
      rw [a1]; rfl
    have a0 : dIxL (dVar 0) (dC (.int 1)) E0 = some (.val (.dat (.int st))) := rfl
    have a1 : dOp fMod (dOp fMul (dIxL (dVar 0) (dC (.int 1))) (dC (.int 48271))) (dC (.int 2147483647)) E0 = some (.val (.dat (.int (st * 48271 % 2147483647)))) :=
      dOp_go (dOp_go a0 rfl rfl rfl (mulR (by omega))) rfl rfl rfl (modP (by omega))
    generalize hst : st * 48271 % 2147483647 = st' at a1
    have a2 : dLSet (dVar 0) (dC (.int 1)) (ePure (dOp fMod (dOp fMul (dIxL (dVar 0) (dC (.int 1))) (dC (.int 48271))) (dC (.int 2147483647)))) E0 = some (.nx [.bor [3], .own (.dat (.int many)), .no, .own (bx [] st'), .own (.dat (.int many))]) := by
      have e1 : ePure (dOp fMod (dOp fMul (dIxL (dVar 0) (dC (.int 1))) (dC (.int 48271))) (dC (.int 2147483647))) E0 = some (.dat (.int st'), E0) := by unfold ePure; rw [a1]
      unfold dLSet
      rw [e1]; rfl
    let E1 : En := [.bor [3], .own (.dat (.int many)), .no, .own (bx [] st'), .own (.dat (.int many))]
    have a3 : dOp fMod (dOp fDivW (dIxL (dVar 0) (dC (.int 1))) (dC (.int 7))) (dVar 1) E1 = some (.val (.dat (.int (st' / 7 % many)))) :=
      dOp_go (dOp_go (x := .int st') rfl rfl rfl rfl (divPW (by omega) (by omega))) rfl rfl rfl (modP h0)
    have a4 : dRet (ePure (dOp fMod (dOp fDivW (dIxL (dVar 0) (dC (.int 1))) (dC (.int 7))) (dVar 1))) E1 = some (.rt (.dat (.int (st' / 7 % many))) E1) := by
      unfold dRet ePure
      rw [a3]
    exact ⟨st' / 7 % many, [], st', Int.emod_nonneg _ (by omega), Int.emod_lt_of_pos _ h0, Nat.le_refl _, fnG_rt (dSeq_rt (dIf_t hc (dSeq_go a2 a4))) rfl⟩
  | cons a t =>
    let E0 : En := [.bor [3], .own (.dat (.int many)), .no, .own (bx (a :: t) st), .own (.dat (.int many))]
    have hc : ePureT (dTest (dOp fEqD (dIxL (dVar 0) (dC (.int 0))) (dLst dNil))) E0 = some (false, E0) := by
      have a1 : dOp fEqD (dIxL (dVar 0) (dC (.int 0))) (dLst dNil) E0 = some (.val (.dat (.bool false))) := by
        refine dOp_go (a := .pl [3, 0]) (b := .val (.lst [])) (x := .list ((a :: t).map .int)) (y := .list []) rfl rfl (lI_toD (a :: t)) rfl ?_
        unfold fEqD
        rw [if_pos ⟨shaped_list (a :: t), shaped_list []⟩]; rfl
      unfold ePureT dTest
      rw [a1]; rfl
    let E1 : En := [.bor [3], .own (.dat (.int many)), .own (.dat (.int a)), .own (bx (a :: t) st), .own (.dat (.int many))]
    have hix : ∀ (b : Int) (E : En), dVar 0 E = some (.pl [3]) → eget E [3] = some (bx (b :: t) st) → eget E [3, 0] = some (lI (b :: t)) → dIxL (dIxL (dVar 0) (dC (.int 0))) (dC (.int 0)) E = some (.val (.dat (.int b))) := fun b E e1 e2 e3 => by
      have i1 : dIxL (dVar 0) (dC (.int 0)) E = some (.pl [3, 0]) := by
        unfold dIxL
        rw [e1]
        show (match eget E [3] with | some (.lst ss) => _ | some (.dat (.list ds)) => _ | _ => none) = _
        rw [e2]; rfl
      exact ixL_I (k := 0) (ns := b :: t) i1 e3 rfl rfl
    have c1 : dAlias 2 (dIxL (dIxL (dVar 0) (dC (.int 0))) (dC (.int 0))) E0 = some (.nx E1) := by
      unfold dAlias
      rw [hix a E0 rfl rfl rfl]; rfl
    have a2 : dOp fDivW (dVar 2) (dVar 1) E1 = some (.val (.dat (.int (a / many)))) := dOp_go rfl rfl rfl rfl (divPW h0 (by omega))
    generalize hq : a / many = q at a2
    let E2 : En := [.bor [3], .own (.dat (.int many)), .own (.dat (.int a)), .own (bx (q :: t) st), .own (.dat (.int many))]
    have c2 : dLSet (dIxL (dVar 0) (dC (.int 0))) (dC (.int 0)) (ePure (dOp fDivW (dVar 2) (dVar 1))) E1 = some (.nx E2) := by
      have e1 : ePure (dOp fDivW (dVar 2) (dVar 1)) E1 = some (.dat (.int q), E1) := by unfold ePure; rw [a2]
      have e2 : oLSet 0 (lI (a :: t)) (.dat (.int q)) = some (lI (q :: t), .dat .none) := by
        have : ixN ((a :: t).map fun i => S.dat (.int i)).length ((0 : Nat) : Int) = some 0 := ixN_in (by simp)
        show (match ixN ((a :: t).map fun i => S.dat (.int i)).length ((0 : Nat) : Int) with | some j => some (S.lst (((a :: t).map fun i => S.dat (.int i)).set j (.dat (.int q))), S.dat PyData.none) | none => none) = _
        rw [this]; rfl
      unfold dLSet
      rw [e1]
      show stepAt (oLSet 0) E1 [3, 0] (.dat (.int q)) = _
      show (match oLSet 0 (lI (a :: t)) (.dat (.int q)) with | some (t', _) => some (Out.nx (ekill (eput E1 [3, 0] t') [3, 0])) | none => none) = _
      rw [e2]; rfl
    have hor : ePureT (dOr (dTest (dOp fEqS (dIxL (dIxL (dVar 0) (dC (.int 0))) (dC (.int 0))) (dC (.int 0)))) (dTest (dOp fEqS (dIxL (dIxL (dVar 0) (dC (.int 0))) (dC (.int 0))) (dNeg (dC (.int 1)))))) E2 = some (decide (q = 0) || decide (q = -1), E2) := by
      unfold ePureT dOr dTest
      rw [dOp_go (hix q E2 rfl rfl rfl) rfl rfl rfl rfl, dOp_go (hix q E2 rfl rfl rfl) rfl rfl rfl rfl]
      by_cases z : q = 0
      · simp [z]
      · simp [z]
    have c4 : ∀ E : En, dVar 2 E = some (.val (.dat (.int a))) → dVar 1 E = some (.val (.dat (.int many))) → dRet (ePure (dOp fMod (dVar 2) (dVar 1))) E = some (.rt (.dat (.int (a % many))) E) := fun E e1 e2 => by
      unfold dRet ePure
      rw [dOp_go e1 e2 rfl rfl (modP h0)]
    cases hb : (decide (q = 0) || decide (q = -1)) with
    | true =>
      rw [hb] at hor
      let E3 : En := [.bor [3], .own (.dat (.int many)), .own (.dat (.int a)), .own (bx t st), .own (.dat (.int many))]
      have c3 : dDrop (eBM1 oPopAt (dIxL (dVar 0) (dC (.int 0))) (dC (.int 0))) E2 = some (.nx E3) := by
        have e2 : oPopAt (lI (q :: t)) (.dat (.int 0)) = some (lI t, .dat (.int q)) := by
          have : ixN ((q :: t).map fun i => S.dat (.int i)).length ((0 : Nat) : Int) = some 0 := ixN_in (by simp)
          show (match ixN ((q :: t).map fun i => S.dat (.int i)).length ((0 : Nat) : Int) with | some j => (match ((q :: t).map fun i => S.dat (.int i))[j]? with | some s => if ((q :: t).map fun i => S.dat (.int i)).length < 100000 then some (S.lst (((q :: t).map fun i => S.dat (.int i)).eraseIdx j), s) else none | none => none) | none => none) = _
          rw [this]
          show (if ((q :: t).map fun i => S.dat (.int i)).length < 100000 then some (lI t, S.dat (.int q)) else none) = _
          exact if_pos (by simp at hl ⊢; omega)
        refine dDrop_go (s := .dat (.int q)) ?_
        show (match oPopAt (lI (q :: t)) (.dat (.int 0)) with | some (t', c) => some (c, ekill (eput E2 [3, 0] t') [3, 0]) | none => none) = _
        rw [e2]; rfl
      exact ⟨a % many, t, st, Int.emod_nonneg _ (by omega), Int.emod_lt_of_pos _ h0, by simp, fnG_rt (dSeq_go (dIf_f hc rfl) (dSeq_go c1 (dSeq_go c2 (dSeq_go (dIf_t hor c3) (c4 E3 rfl rfl))))) rfl⟩
    | false =>
      rw [hb] at hor
      exact ⟨a % many, q :: t, st, Int.emod_nonneg _ (by omega), Int.emod_lt_of_pos _ h0, by simp, fnG_rt (dSeq_go (dIf_f hc rfl) (dSeq_go c1 (dSeq_go c2 (dSeq_go (dIf_f hor rfl) (c4 E2 rfl rfl))))) rfl⟩
theorem xcall_go {E : En} {g : List S → Option (Rx × List S)} {dr : En → Option (List Rs)} {rs : List Rs} {ss ss' : List S} {x : Rx} (h1 : dr E = some rs) (h2 : placesOk rs = true) (h3 : argS E rs = some ss) (h4 : g ss = some (x, ss')) : xCall g dr E = some (x, killAll (Mv.putAll E rs ss') rs) := by
  unfold xCall
  simp only [h1, if_pos h2, h3, h4]
theorem dropX_ex {E E1 : En} {c : Nat} {d : En → Option (Rx × En)} (h : d E = some (.ex c, E1)) : dDropX d E = some (Out.ex c E1) := by unfold dDropX; rw [h]
/-- what is_edition says no to, written refuses -/
theorem odd_wr {D : PyData} (h : K19x.g_is_edition [.dat D] = some (.dat (.bool false), [.dat D])) : K19x.g_written [.dat D] = some (.ex 17, [.dat D]) := by
  have c0 : eNot (eTest (eCall K19x.g_is_edition (dCons (dVar 0) dNil))) (entry 1 [.dat D]) = some (true, entry 1 [.dat D]) := eNot_go (eTest_go (eCall_go (rs := [.val (.dat D)]) rfl rfl rfl h))
  have c1 : K19x.g_check_edition [.dat D] = some (.ex 17, [.dat D]) := by
    have e : K19x.d_check_edition (entry 1 [.dat D]) = some (.ex 17 (entry 1 [.dat D])) := dIf_t c0 rfl
    unfold K19x.g_check_edition fnGX
    rw [e]; rfl
  have e1 : xCall K19x.g_check_edition (dCons (dVar 0) dNil) (entry 6 [.dat D]) = some (.ex 17, entry 6 [.dat D]) := xcall_go (rs := [.val (.dat D)]) rfl rfl rfl c1
  have e2 : K19x.d_written (entry 6 [.dat D]) = some (.ex 17 (entry 6 [.dat D])) := by
    unfold K19x.d_written dSeq
    rw [dropX_ex e1]
  unfold K19x.g_written fnGX
  rw [e2]; rfl
def eIE (D : PyData) (a b c : PyData) : En := [.own (.dat D), .own (.dat a), .own (.dat b), .own (.dat c), .own (.dat D)]
theorem ie_head {a b c : PyData} {r : Option Out} (h : dSeq (dIf (eAnd (ePureT (dTest (dOp fNotN (dVar 2) (dC .none)))) (eNot (eTest (eCall K19x.g_is_within (dCons (dVar 2) (dCons (dC (.int 0)) (dCons (dC (.int 1000000)) dNil))))))) (dRet (ePure (dC (.bool false)))) dNext)
    (dRet (eAndV (eCall K19x.g_is_within (dCons (dVar 1) (dCons (dC (.int 1)) (dCons (dC (.int 1000000)) dNil)))) (eCall K19x.g_is_owners (dCons (dVar 3) dNil)))) (eIE (.tuple [a, b, c]) a b c) = r) : K19x.d_is_edition (entry 4 [.dat (.tuple [a, b, c])]) = r :=
  dSeq_go (E1 := entry 4 [.dat (.tuple [a, b, c])]) rfl (dSeq_go (E1 := eIE (.tuple [a, b, c]) a b c) rfl h)
theorem w_within {i a b : Int} : K19x.g_is_within [.dat (.int i), .dat (.int a), .dat (.int b)] = some (.dat (.bool (decide (a ≤ i) && decide (i ≤ b))), [.dat (.int i), .dat (.int a), .dat (.int b)]) := rfl
theorem ie_make {D a c : PyData} {m : Option Int} (h : ∀ k, m = some k → 0 ≤ k ∧ k ≤ 1000000) : dIf (eAnd (ePureT (dTest (dOp fNotN (dVar 2) (dC .none)))) (eNot (eTest (eCall K19x.g_is_within (dCons (dVar 2) (dCons (dC (.int 0)) (dCons (dC (.int 1000000)) dNil))))))) (dRet (ePure (dC (.bool false)))) dNext (eIE D a (DQ.oI m) c) = some (.nx (eIE D a (DQ.oI m) c)) := by
  cases m with
  | none => exact dIf_f (E1 := eIE D a (DQ.oI none) c) (DQ.eAnd_f rfl) rfl
  | some k =>
    have := h k rfl
    have hw : K19x.g_is_within [.dat (.int k), .dat (.int 0), .dat (.int 1000000)] = some (.dat (.bool true), [.dat (.int k), .dat (.int 0), .dat (.int 1000000)]) := by
      rw [w_within, decide_eq_true this.1, decide_eq_true this.2]; rfl
    exact dIf_f (E1 := eIE D a (DQ.oI (some k)) c) (DQ.eAnd_t (E1 := eIE D a (DQ.oI (some k)) c) rfl (eNot_go (eTest_go (eCall_go (rs := [.val (.dat (.int k)), .val (.dat (.int 0)), .val (.dat (.int 1000000))]) rfl rfl rfl hw)))) rfl
theorem ie_num {i : Int} {m : Option Int} {c : PyData} (hm : ∀ k, m = some k → 0 ≤ k ∧ k ≤ 1000000) (hi : ¬ (1 ≤ i ∧ i ≤ 1000000)) : K19x.g_is_edition [.dat (.tuple [.int i, DQ.oI m, c])] = some (.dat (.bool false), [.dat (.tuple [.int i, DQ.oI m, c])]) := by
  have hw : K19x.g_is_within [.dat (.int i), .dat (.int 1), .dat (.int 1000000)] = some (.dat (.bool false), [.dat (.int i), .dat (.int 1), .dat (.int 1000000)]) := by
    rw [w_within]
    have : (decide ((1 : Int) ≤ i) && decide (i ≤ 1000000)) = false := by
      rw [← Bool.decide_and]; exact decide_eq_false hi
    rw [this]
  refine fnG_rt (ie_head (dSeq_go (ie_make hm) (dRet_go (s := .dat (.bool false)) (E1 := eIE (.tuple [.int i, DQ.oI m, c]) (.int i) (DQ.oI m) c) ?_))) rfl
  have e := eCall_go (E := eIE (.tuple [.int i, DQ.oI m, c]) (.int i) (DQ.oI m) c) (dr := dCons (dVar 1) (dCons (dC (.int 1)) (dCons (dC (.int 1000000)) dNil))) (rs := [.val (.dat (.int i)), .val (.dat (.int 1)), .val (.dat (.int 1000000))]) rfl rfl rfl hw
  unfold eAndV
  rw [e]; rfl
theorem ie_own {i : Int} {m : Option Int} {c : PyData} (hm : ∀ k, m = some k → 0 ≤ k ∧ k ≤ 1000000) (hi : 1 ≤ i ∧ i ≤ 1000000) (ho : K19x.g_is_owners [.dat c] = some (.dat (.bool false), [.dat c])) : K19x.g_is_edition [.dat (.tuple [.int i, DQ.oI m, c])] = some (.dat (.bool false), [.dat (.tuple [.int i, DQ.oI m, c])]) := by
  have hw : K19x.g_is_within [.dat (.int i), .dat (.int 1), .dat (.int 1000000)] = some (.dat (.bool true), [.dat (.int i), .dat (.int 1), .dat (.int 1000000)]) := by
    rw [w_within, decide_eq_true hi.1, decide_eq_true hi.2]; rfl
  refine fnG_rt (ie_head (dSeq_go (ie_make hm) (dRet_go (s := .dat (.bool false)) (E1 := eIE (.tuple [.int i, DQ.oI m, c]) (.int i) (DQ.oI m) c) ?_))) rfl
  have e := eCall_go (E := eIE (.tuple [.int i, DQ.oI m, c]) (.int i) (DQ.oI m) c) (dr := dCons (dVar 1) (dCons (dC (.int 1)) (dCons (dC (.int 1000000)) dNil))) (rs := [.val (.dat (.int i)), .val (.dat (.int 1)), .val (.dat (.int 1000000))]) rfl rfl rfl hw
  exact eAndV_t e (eCall_go (rs := [.val (.dat c)]) rfl rfl rfl ho)
theorem ie_neg {a c : PyData} : K19x.g_is_edition [.dat (.tuple [a, .int (-1), c])] = some (.dat (.bool false), [.dat (.tuple [a, .int (-1), c])]) := by
  refine fnG_rt (ie_head (dSeq_rt (E1 := eIE (.tuple [a, .int (-1), c]) a (.int (-1)) c) (dIf_t (E1 := eIE (.tuple [a, .int (-1), c]) a (.int (-1)) c) (DQ.eAnd_t (E1 := eIE (.tuple [a, .int (-1), c]) a (.int (-1)) c) rfl (eNot_go (eTest_go (eCall_go (rs := [.val (.dat (.int (-1))), .val (.dat (.int 0)), .val (.dat (.int 1000000))]) rfl rfl rfl (w_within (i := -1) (a := 0) (b := 1000000)))))) rfl))) rfl
theorem ie_few {ds : List PyData} (h : ds.length ≠ 3) : K19x.g_is_edition [.dat (.tuple ds)] = some (.dat (.bool false), [.dat (.tuple ds)]) := by
  have e : ePureT (dOr (dNot (dTest (dIsi .tuple (dVar 0)))) (dTest (dOp fNeS (dLen (dVar 0)) (dC (.int 3))))) (entry 4 [.dat (.tuple ds)]) = some (true, entry 4 [.dat (.tuple ds)]) := by
    have e1 : dTest (dOp fNeS (dLen (dVar 0)) (dC (.int 3))) (entry 4 [.dat (.tuple ds)]) = some true := by
      show some (!decide ((ds.length : Int) = 3)) = _
      rw [decide_eq_false (fun z => h (by omega))]; rfl
    unfold ePureT dOr
    rw [show dNot (dTest (dIsi .tuple (dVar 0))) (entry 4 [.dat (.tuple ds)]) = some false from rfl, e1]; rfl
  exact fnG_rt (dSeq_rt (dIf_t e rfl)) rfl
theorem own_few {ns : List Int} (h : ns.length ≠ 12) : K19x.g_is_owners [.dat (DQ.tD ns)] = some (.dat (.bool false), [.dat (DQ.tD ns)]) := by
  have e : ePure (dOp fEqS (dLen (dVar 0)) (dC (.int 12))) (entry 2 [.dat (DQ.tD ns)]) = some (.dat (.bool false), entry 2 [.dat (DQ.tD ns)]) := by
    show some (S.dat (.bool (decide (((ns.map PyData.int).length : Int) = 12))), _) = _
    rw [List.length_map, decide_eq_false (fun z => h (by omega))]
  refine fnG_rt (E := entry 2 [.dat (DQ.tD ns)]) (dRet_go (eAndV_t (E1 := entry 2 [.dat (DQ.tD ns)]) rfl ?_)) rfl
  unfold eAndV
  rw [e]
def inH (i : Int) : Bool := decide (0 ≤ i) && decide (i ≤ 19)
theorem boolsD_map : ∀ ns : List Int, boolsD (ns.map fun i => .bool (inH i)) = some (ns.map inH)
  | [] => rfl
  | n :: ns => by
    show (boolsD (ns.map fun i => .bool (inH i))).map (inH n :: ·) = _
    rw [boolsD_map ns]; rfl
theorem own_far {ns : List Int} (hl : ns.length = 12) (h : ∃ i ∈ ns, inH i = false) : K19x.g_is_owners [.dat (DQ.tD ns)] = some (.dat (.bool false), [.dat (DQ.tD ns)]) := by
  let E0 : En := entry 2 [.dat (DQ.tD ns)]
  have hlen : (ns.map PyData.int).length = 12 := by simpa using hl
  have hloop : dLcLoop (rdD (ns.map .int)) 1 eYes (eCall K19x.g_is_house (dCons (dVar 1) dNil)) 12 0 [] E0 = some (ns.map (fun i => S.dat (.bool (inH i))), E0) := by
    rw [lc_pure (fun k => S.dat (.bool (inH (ns.getD k 0)))) 12 (by decide) (fun i hi => ?_) (rdD_end (by omega)) 12 0 12 [] rfl (Nat.le_refl _) rfl]
    · rw [List.nil_append, ← hl, map_range' (fun i => S.dat (.bool (inH i))) ns _ (fun i x hx => by rw [List.getD_eq_getElem?_getD, hx]; rfl)]
    · have hv : ns[i]? = some (ns[i]'(by omega)) := List.getElem?_eq_getElem _
      have hg : ns.getD i 0 = ns[i]'(by omega) := by rw [List.getD_eq_getElem?_getD, hv]; rfl
      rw [hg]
      exact ⟨_, _, _, rdD_I hv, rfl, eCall_go (rs := [.val (.dat (.int (ns[i]'(by omega))))]) (ss' := [.dat (.int (ns[i]'(by omega)))]) rfl rfl rfl rfl, rfl⟩
  have hcomp : eLc (iTupS (dVar 0)) 1 eYes (eCall K19x.g_is_house (dCons (dVar 1) dNil)) E0 = some (.lst (ns.map fun i => S.dat (.bool (inH i))), E0) := by
    show (match dLcLoop (rdD (ns.map .int)) 1 eYes (eCall K19x.g_is_house (dCons (dVar 1) dNil)) (ns.map PyData.int).length 0 [] E0 with
      | some (acc, E') => some (S.lst acc, stripE ⟨_, [], _, _⟩ E')
      | none => none) = _
    rw [hlen, hloop]; rfl
  have hd : S.toD (.lst (ns.map fun i => S.dat (.bool (inH i)))) = some (.list (ns.map fun i => .bool (inH i))) := by
    have : (ns.map fun i => S.dat (.bool (inH i))) = (ns.map fun i => PyData.bool (inH i)).map S.dat := by rw [List.map_map]; rfl
    rw [this]
    show (S.toDs _).map PyData.list = _
    rw [toDs_dats]; rfl
  have hf : fAll [.list (ns.map fun i => .bool (inH i))] = some (.bool false) := by
    show (boolsD (ns.map fun i => .bool (inH i))).map (fun bs => PyData.bool (bs.all id)) = _
    rw [boolsD_map]
    show some (PyData.bool ((ns.map inH).all id)) = _
    obtain ⟨i, hi, hh⟩ := h
    have : (ns.map inH).all id = false := List.all_eq_false.mpr ⟨false, List.mem_map.mpr ⟨i, hi, hh⟩, by simp⟩
    rw [this]
  have hl12 : ePure (dOp fEqS (dLen (dVar 0)) (dC (.int 12))) E0 = some (.dat (.bool true), E0) := by
    show some (S.dat (.bool (decide (((ns.map PyData.int).length : Int) = 12))), _) = _
    rw [hlen]; rfl
  exact fnG_rt (dRet_go (eAndV_t (E1 := E0) rfl (eAndV_t hl12 (eCB1_go hcomp hd hf)))) rfl
end DT
set_option maxHeartbeats 1000000
namespace DT
open PySem PySem.Spec PyProof.Rows L2 Mv TL
open Gn hiding g__law_take g__law_begun d__law_take d__law_begun v_take v_begun eBg
theorem join_snoc (y : Str) : ∀ (xs : List Str) (x : Str), xs ≠ [] → Str.join y (xs ++ [x]) = Str.join y xs ++ y ++ x
  | [], _, h => absurd rfl h
  | [a], x, _ => rfl
  | a :: b :: r, x, _ => by
    show a ++ y ++ Str.join y (b :: r ++ [x]) = a ++ y ++ Str.join y (b :: r) ++ y ++ x
    rw [join_snoc y (b :: r) x (by simp)]
    simp only [Str.append_assoc]
def tw (ws : List Wd) : Str := Str.join (Str.ofString " ") (ws.map Wd.s)
theorem txt_tw (e : Ed) : txt e = tw (edW e) := join_eq _ _
theorem tw_snoc {ws : List Wd} {w : Wd} (h : ws ≠ []) : tw (ws ++ [w]) = tw ws ++ Str.ofString " " ++ w.s := by
  unfold tw
  rw [List.map_append]
  exact join_snoc _ _ _ (by simpa using h)
theorem sok_app (a b : Str) : PyData.strOk (a ++ b) = (PyData.strOk a && PyData.strOk b) := by
  unfold PyData.strOk
  rw [Str.cps_append, Array.all_append]
theorem sok_word (n : Nat) : PyData.strOk (word n) = true := by
  unfold PyData.strOk
  rw [← Array.all_toList, tl_word]
  refine List.all_eq_true.mpr fun c hc => ?_
  have := numL_digits n c hc
  exact decide_eq_true (by omega)
theorem Wd.sok (w : Wd) : PyData.strOk w.s = true := by
  cases w with
  | num n => exact sok_word n
  | dash => decide +kernel
theorem sok_join {y : Str} (hy : PyData.strOk y = true) : ∀ xs : List Str, (∀ x ∈ xs, PyData.strOk x = true) → PyData.strOk (Str.join y xs) = true
  | [], _ => (by decide +kernel : PyData.strOk Str.empty = true)
  | [a], h => h a (by simp)
  | a :: b :: r, h => by
    show PyData.strOk (a ++ y ++ Str.join y (b :: r)) = true
    rw [sok_app, sok_app, h a (by simp), hy, sok_join hy (b :: r) fun x m => h x (List.mem_cons_of_mem _ m)]; rfl
theorem sok_txt (e : Ed) : PyData.strOk (txt e) = true := by
  rw [txt_tw]
  refine sok_join (by decide +kernel) _ fun x hx => ?_
  obtain ⟨w, _, rfl⟩ := List.mem_map.mp hx
  exact w.sok
theorem tw_len {ws : List Wd} (h : ∀ w ∈ ws, w.s.length ≤ 7) : (tw ws).length ≤ 8 * ws.length := by
  have h0 := StrLaws.join_length_le (Str.ofString " ") (ws.map Wd.s)
  have h1 := sum_le (k := 7) ((ws.map Wd.s).map (·.length)) (fun l hl => by
    obtain ⟨x, hx, rfl⟩ := List.mem_map.mp hl
    obtain ⟨w, hw, rfl⟩ := List.mem_map.mp hx
    exact h w hw)
  rw [List.length_map, List.length_map] at h1
  rw [List.length_map] at h0
  have : (Str.ofString " ").length = 1 := by decide +kernel
  rw [this] at h0
  show (Str.join (Str.ofString " ") (ws.map Wd.s)).length ≤ _
  omega
/-- the law's text behind k owners -/
def tk (e : Ed) (k : Nat) : Str := tw ((edW e).take (2 + k))
theorem tk_end {e : Ed} (ok : EdOk e) : tk e 12 = txt e := by
  unfold tk
  rw [txt_tw, List.take_of_length_le (by rw [edW_len ok]; omega)]
theorem tk_len {e : Ed} (ok : EdOk e) (k : Nat) : (tk e k).length ≤ 112 := by
  have h := tw_len (ws := (edW e).take (2 + k)) fun w hw => edW_mem ok (List.mem_of_mem_take hw)
  have : ((edW e).take (2 + k)).length ≤ 14 := by rw [List.length_take, edW_len ok]; omega
  unfold tk
  omega
theorem tk_step {e : Ed} (ok : EdOk e) {k : Nat} {o : Int} (h : e.own[k]? = some o) : tk e (k + 1) = tk e k ++ Str.ofString " " ++ wI o := by
  have hm := ok.ok o (List.mem_of_getElem? h)
  have hw : (edW e)[2 + k]? = some (.num o.toNat) := by
    show (.num e.num.toNat :: mkW e.make :: e.own.map fun o => Wd.num o.toNat)[2 + k]? = _
    rw [show 2 + k = k + 1 + 1 by omega, List.getElem?_cons_succ, List.getElem?_cons_succ, List.getElem?_map, h]; rfl
  have ho : wI o = (Wd.num o.toNat).s := by
    show wI o = word o.toNat
    rw [← wI_nat, Int.toNat_of_nonneg hm.1]
  unfold tk
  rw [show 2 + (k + 1) = 2 + k + 1 by omega, List.take_succ, hw, ho]
  exact tw_snoc (fun z => by
    have := congrArg List.length z
    rw [List.length_take, edW_len ok] at this
    simp at this)
theorem tk_0 {e : Ed} (ok : EdOk e) : tk e 0 = wI e.num ++ Str.ofString " " ++ (match e.make with | none => dash | some k => wI k) := by
  have n1 := ok.num
  have h1 : wI e.num = word e.num.toNat := by rw [← wI_nat, Int.toNat_of_nonneg (by omega)]
  have h2 : (mkW e.make).s = (match e.make with | none => dash | some k => wI k) := by
    cases hm : e.make with
    | none => rfl
    | some k =>
      have := ok.make k hm
      show word k.toNat = wI k
      rw [← wI_nat, Int.toNat_of_nonneg this.1]
  rw [h1, ← h2]; rfl
theorem fstr_go {i : Int} (h0 : 0 ≤ i) (h1 : i ≤ 1000000) : fStr [.int i] = some (.str (wI i)) := by
  have hl : i.natAbs.log2 < 1920 := by
    by_cases hn : i.natAbs = 0
    · rw [hn]; decide
    · exact (Nat.log2_lt hn).mpr (Nat.lt_of_le_of_lt (show i.natAbs ≤ 2 ^ 20 by omega) (Nat.pow_lt_pow_right (by decide) (by decide)))
  show (if i.natAbs.log2 < 1920 then some (PyData.str (toString i)) else none) = _
  rw [if_pos hl]; rfl
end DT
set_option maxHeartbeats 1000000
namespace NB
open PySem PySem.Spec PyProof.Rows L2 Mv
open Gn hiding g__law_take g__law_begun d__law_take d__law_begun v_take v_begun eBg
def Fr (e : Sl) : Prop := ∀ q, e ≠ .bor q
theorem fr_no : Fr .no := fun _ h => by cases h
theorem fr_own (s : S) : Fr (.own s) := fun _ h => by cases h
def Nb (E : En) : Prop := ∀ e ∈ E, Fr e
variable {E A G : En} {i : Nat} {s : S} {d : PyData}
theorem kh {e : Sl} (h : Fr e) : killHead i e = e := by cases e with | bor q => exact absurd rfl (h q) | no => rfl | own s => rfl
theorem k1 {p : List Nat} {e : Sl} (h : Fr e) : kill1 p e = e := by cases e with | bor q => exact absurd rfl (h q) | no => rfl | own s => rfl
theorem kR {n m : Nat} {e : Sl} (h : Fr e) : killR n m e = e := by cases e with | bor q => exact absurd rfl (h q) | no => rfl | own s => rfl
theorem map_id {f : Sl → Sl} (h : Nb E) (hf : ∀ e, Fr e → f e = e) : E.map f = E := by
  induction E with
  | nil => rfl
  | cons e E ih => rw [List.map_cons, hf e (h e (by simp)), ih fun x m => h x (List.mem_cons_of_mem _ m)]
theorem Nb.slot (h : Nb E) : slotSet E i (.own s) = E.set i (.own s) := by
  unfold slotSet; rw [map_id h fun e he => kh he]
theorem Nb.no (h : Nb E) : slotSet E i .no = E.set i .no := by
  unfold slotSet; rw [map_id h fun e he => kh he]
theorem Nb.kill (h : Nb E) {p : List Nat} : ekill E p = E := map_id h fun e he => k1 he
theorem Nb.killR (h : Nb E) {n m : Nat} : E.map (killR n m) = E := map_id h fun e he => kR he
theorem Nb.frs (h : Nb E) {k : Nat} : E.all (Gn.frs k) = true := List.all_eq_true.mpr fun e m => by
  have := h e m
  cases e with | bor q => exact absurd rfl (this q) | no => rfl | own s => rfl
theorem Nb.app (h : Nb E) (h2 : Nb G) : Nb (E ++ G) := fun e m => (List.mem_append.mp m).elim (h e) (h2 e)
theorem nb_own (ss : List S) : Nb (ss.map Sl.own) := fun e m => by obtain ⟨s, _, rfl⟩ := List.mem_map.mp m; exact fr_own s
theorem Nb.set (h : Nb E) {x : Sl} (hx : Fr x) : Nb (E.set i x) := fun e m => (List.mem_or_eq_of_mem_set m).elim (h e) fun z => by rw [z]; exact hx
theorem var_dat (h : E[i]? = some (.own (.dat d))) : dVar i E = some (.val (.dat d)) := by unfold dVar; rw [h]
theorem get_own (h : E[i]? = some (.own s)) : eget E [i] = some s := by
  show (match E[i]? with | some (.own s) => s.get [] | _ => none) = _
  rw [h]; exact S.get_nil _
theorem put_own {t : S} (h : E[i]? = some (.own s)) : eput E [i] t = E.set i (.own t) := by
  show (match E[i]? with | some (.own s) => E.set i (.own (s.put [] t)) | _ => E) = _
  rw [h]; simp only [S.put_nil]
/-- a def called that changes what lies at a slot, and is handed data besides -/
theorem call_at {g : List S → Option (S × List S)} {da db : En → Option Rs} {s' r : S} (h : Nb E) (h1 : da E = some (.pl [i])) (hp : E[i]? = some (.own s)) (h2 : db E = some (.val (.dat d))) (hv : g [s, .dat d] = some (r, [s', .dat d])) :
    eCall g (dCons da (dCons db dNil)) E = some (r, E.set i (.own s')) := by
  rw [eCall_go (g := g) (rs := [.pl [i], .val (.dat d)]) (ss := [s, .dat d]) (dcons_go h1 (dcons_go h2 rfl)) rfl (by simp only [argS, Rs.at, get_own hp]) hv]
  show some (_, ekill (eput E [i] s') [i]) = _
  rw [put_own hp, (h.set (fr_own s')).kill]
theorem eff_own {dl : En → Option (Nat × En)} {dc : Nat → En → Option (S × En)} {k : Nat} {G : List S} (h : Nb A) (h1 : dl E = some (k, A ++ G.map Sl.own)) (h2 : dc k (A ++ G.map Sl.own) = some (s, A ++ G.map Sl.own)) (hk : G.length = k) : eEff dl dc E = some (s, A) :=
  Gn.eff_go h1 h2 h.frs (by rw [List.length_map]; exact hk)
theorem lst_own {dl : En → Option (Nat × En)} {k : Nat} {G : List S} (h : Nb A) (h1 : dl E = some (k, A ++ G.map Sl.own)) (hk : G.length = k) (hl : k < 1000) : eLst dl E = some (.lst G, A) := by
  unfold eLst
  rw [h1]
  simp only [if_pos hl, Gn.pop_go (m := k) (E1 := A) hk h.killR]
end NB
set_option maxHeartbeats 1000000
namespace DT
open PySem PySem.Spec PyProof.Rows L2 Mv TL NB
open Gn hiding g__law_take g__law_begun d__law_take d__law_begun v_take v_begun eBg
def sc (L : List Int) : S := .dat (.list (L.map .int))
def up (v : Nat → Sl) (i : Nat) (x : Sl) : Nat → Sl := fun j => if j = i then x else v j
theorem up_fr {v : Nat → Sl} {i : Nat} {x : Sl} (h : ∀ i, Fr (v i)) (hx : Fr x) : ∀ j, Fr (up v i x j) := fun j => by
  unfold up
  split
  · exact hx
  · exact h j
def EL (L : List Int) (Pt : Addr) (ns : List Int) (st : Int) (v : Nat → Sl) : En := [.own (sc L), .own (bx ns st), v 2, v 3, v 4, v 5, v 6, v 7, v 8, v 9, v 10, v 11, .own (sc L), .own (.ext (tabX Pt K19c.lamQ))]
theorem nbL {L : List Int} {Pt : Addr} {ns : List Int} {st : Int} {v : Nat → Sl} (h : ∀ i, Fr (v i)) : Nb (EL L Pt ns st v) := fun e m => by
  simp only [EL, List.mem_cons, List.not_mem_nil, or_false] at m
  rcases m with rfl | rfl | rfl | rfl | rfl | rfl | rfl | rfl | rfl | rfl | rfl | rfl | rfl | rfl
  all_goals first
    | exact fr_own _
    | exact h _
def idD (d : PyData) : PyData := d
abbrev I (i : Int) : Sl := .own (.dat (.int i))
theorem pow6 (E : En) : dOp fPow (dC (.int 10)) (dC (.int 6)) E = some (.val (.dat (.int 1000000))) := dOp_go (x := .int 10) (y := .int 6) rfl rfl rfl rfl (by unfold fPow; dsimp only; rw [if_pos (by decide)]; rfl)
theorem pow18 (E : En) : dOp fPow (dC (.int 10)) (dC (.int 18)) E = some (.val (.dat (.int 1000000000000000000))) := dOp_go (x := .int 10) (y := .int 18) rfl rfl rfl rfl (by unfold fPow; dsimp only; rw [if_pos (by decide)]; rfl)
theorem ix_of {E : En} {da db : En → Option Rs} {r : Rs} {xs : List PyData} {z : Int} (ha : da E = some r) (hr : r.at E = some (dL idD xs)) (hb : db E = some (.val (.dat (.int z)))) (h0 : 0 ≤ z) (h1 : z < xs.length) : ∃ x ∈ xs, dIxL da db E = some (.val (.dat x)) := by
  obtain ⟨k, rfl⟩ : ∃ k : Nat, z = k := ⟨z.toNat, by omega⟩
  have hk : k < xs.length := by omega
  exact ⟨xs[k], List.getElem_mem hk, ixL_go (f := idD) ha hr hb (List.getElem?_eq_getElem hk)⟩
abbrev tkD (d : En → Option Rs) : En → Option (S × En) := eCall K19.g__law_take (dCons (dVar 1) (dCons d dNil))
section
variable {L : List Int} {Pt : Addr} {ns : List Int} {st t : Int} {v : Nat → Sl}
theorem tkL (hv : ∀ i, Fr (v i)) {m : Int} (h0 : 0 < m) (h1 : m < 18446744073709551616) (hl : ns.length < 1000) (G : List S) {d : En → Option Rs} (hd : d (EL L Pt ns st v ++ G.map Sl.own) = some (.val (.dat (.int m)))) :
    ∃ r ns' st', 0 ≤ r ∧ r < m ∧ ns'.length < 1000 ∧ tkD d (EL L Pt ns st v ++ G.map Sl.own) = some (.dat (.int r), EL L Pt ns' st' v ++ G.map Sl.own) := by
  obtain ⟨r, n1, b1, p1, q1, l1, e1⟩ := v_take (ns := ns) (st := st) h0 h1 hl
  have e := call_at (i := 1) (g := K19.g__law_take) (da := dVar 1) (E := EL L Pt ns st v ++ G.map Sl.own) ((nbL hv).app (nb_own G)) rfl rfl hd e1
  exact ⟨r, n1, b1, p1, q1, by omega, e⟩
/-- one of a row of things drawn -/
abbrev pickD (dl : En → Option (Nat × En)) (m : Int) : En → Option (S × En) := eEff (lConsE (eLst dl) (lConsE (tkD (dC (.int m))) lNil)) fun k => dWhen k 2 (ePure (dIxL (dGh k 0) (dGh k 1)))
theorem pick_go (hv : ∀ i, Fr (v i)) {dl : En → Option (Nat × En)} {n1 : List Int} {b1 : Int} {xs : List PyData} {k : Nat} (h : dl (EL L Pt ns st v) = some (k, EL L Pt n1 b1 v ++ (xs.map S.dat).map Sl.own)) (hk : xs.length = k) (h2 : k < 1000) (h0 : 0 < k) (hl : n1.length < 1000) :
    ∃ x ∈ xs, ∃ n2 b2, n2.length < 1000 ∧ pickD dl k (EL L Pt ns st v) = some (.dat x, EL L Pt n2 b2 v) := by
  have c4 : eLst dl (EL L Pt ns st v) = some (dL idD xs, EL L Pt n1 b1 v) := lst_own (nbL hv) h (by simpa using hk) h2
  obtain ⟨r, n2, b2, p, q, l, c5⟩ := tkL (L := L) (Pt := Pt) (ns := n1) (st := b1) hv (m := (k : Nat)) (by omega) (by omega) hl [dL idD xs] (d := dC (.int (k : Nat))) rfl
  have c6 : lConsE (eLst dl) (lConsE (tkD (dC (.int (k : Nat)))) lNil) (EL L Pt ns st v) = some (2, EL L Pt n2 b2 v ++ [dL idD xs, .dat (.int r)].map Sl.own) := lE_go (k := 1) c4 (lE_go (k := 0) c5 rfl)
  obtain ⟨x, hx, c7⟩ := ix_of (E := EL L Pt n2 b2 v ++ [dL idD xs, .dat (.int r)].map Sl.own) (da := dGh 2 0) (db := dGh 2 1) (r := .pl [14]) (xs := xs) (z := r) rfl rfl rfl p (by omega)
  exact ⟨x, hx, n2, b2, l, eff_own (nbL hv) c6 (when_go (ePure_go c7)) rfl⟩
def numL3 : En → Option (Nat × En) := lConsP (dC (.int 1)) (lConsP (dOp fPow (dC (.int 10)) (dC (.int 6))) (lConsE (eOp fAdd (ePure (dC (.int 1))) (tkD (dOp fPow (dC (.int 10)) (dC (.int 6))))) lNil))
def numD : En → Option Out := dSet 3 (pickD numL3 3)
theorem numP (hv : ∀ i, Fr (v i)) (hl : ns.length < 1000) : ∃ num ns' st', 1 ≤ num ∧ num ≤ 1000000 ∧ ns'.length < 1000 ∧ numD (EL L Pt ns st v) = some (.nx (EL L Pt ns' st' (up v 3 (I num)))) := by
  obtain ⟨r1, n1, b1, p1, q1, l1, c1⟩ := tkL (L := L) (Pt := Pt) (ns := ns) (st := st) hv (m := 1000000) (by decide) (by decide) hl [.dat (.int 1), .dat (.int 1000000)] (pow6 _)
  have c2 := eOp_go (f := fAdd) (da := ePure (dC (.int 1))) (x := .int 1) (c := .int (1 + r1)) rfl c1 rfl
  have c3 : numL3 (EL L Pt ns st v) = some (3, EL L Pt n1 b1 v ++ (([.int 1, .int 1000000, .int (1 + r1)] : List PyData).map S.dat).map Sl.own) :=
    lP_own (k := 2) (s := .dat (.int 1)) rfl (lP_own (k := 1) (s := .dat (.int 1000000)) (pow6 _) (lE_go (k := 0) c2 rfl))
  obtain ⟨x, hx, n2, b2, l2, h⟩ := pick_go hv c3 rfl (by decide) (by decide) l1
  have hx' : ∃ num, x = .int num ∧ 1 ≤ num ∧ num ≤ 1000000 := by
    rcases List.mem_cons.mp hx with rfl | hx
    · exact ⟨1, rfl, by omega, by omega⟩
    rcases List.mem_cons.mp hx with rfl | hx
    · exact ⟨1000000, rfl, by omega, by omega⟩
    · exact ⟨1 + r1, List.mem_singleton.mp hx, by omega, by omega⟩
  obtain ⟨num, rfl, h1, h3⟩ := hx'
  refine ⟨num, n2, b2, h1, h3, l2, (dSet_go h).trans ?_⟩
  rw [(nbL hv).slot]; rfl
def mkL4 : En → Option (Nat × En) := lConsP (dC .none) (lConsP (dC (.int 0)) (lConsP (dOp fPow (dC (.int 10)) (dC (.int 6))) (lConsE (tkD (dOp fPow (dC (.int 10)) (dC (.int 6)))) lNil)))
def mkD : En → Option Out := dSet 4 (pickD mkL4 4)
theorem mkP (hv : ∀ i, Fr (v i)) (hl : ns.length < 1000) : ∃ (m : Option Int) (ns' : List Int) (st' : Int), (∀ k, m = some k → 0 ≤ k ∧ k ≤ 1000000) ∧ ns'.length < 1000 ∧ mkD (EL L Pt ns st v) = some (.nx (EL L Pt ns' st' (up v 4 (.own (.dat (DQ.oI m)))))) := by
  obtain ⟨r1, n1, b1, p1, q1, l1, c1⟩ := tkL (L := L) (Pt := Pt) (ns := ns) (st := st) hv (m := 1000000) (by decide) (by decide) hl [.dat .none, .dat (.int 0), .dat (.int 1000000)] (pow6 _)
  have c3 : mkL4 (EL L Pt ns st v) = some (4, EL L Pt n1 b1 v ++ (([.none, .int 0, .int 1000000, .int r1] : List PyData).map S.dat).map Sl.own) :=
    lP_own (k := 3) (s := .dat .none) rfl (lP_own (k := 2) (s := .dat (.int 0)) rfl (lP_own (k := 1) (s := .dat (.int 1000000)) (pow6 _) (lE_go (k := 0) c1 rfl)))
  obtain ⟨x, hx, n2, b2, l2, h⟩ := pick_go hv c3 rfl (by decide) (by decide) l1
  have hx' : ∃ m, x = DQ.oI m ∧ ∀ k, m = some k → 0 ≤ k ∧ k ≤ 1000000 := by
    rcases List.mem_cons.mp hx with rfl | hx
    · exact ⟨none, rfl, fun _ z => by cases z⟩
    rcases List.mem_cons.mp hx with rfl | hx
    · exact ⟨some 0, rfl, fun _ z => by cases z; omega⟩
    rcases List.mem_cons.mp hx with rfl | hx
    · exact ⟨some 1000000, rfl, fun _ z => by cases z; omega⟩
    · exact ⟨some r1, List.mem_singleton.mp hx, fun _ z => by cases z; omega⟩
  obtain ⟨m, rfl, h1⟩ := hx'
  refine ⟨m, n2, b2, h1, l2, (dSet_go h).trans ?_⟩
  rw [(nbL hv).slot]; rfl
def ownE : En → Option (S × En) := eCS fTuple (eLc (iRange (dC (.int 12))) 11 eYes (tkD (dC (.int 20))))
theorem own_loop (hv : ∀ i, Fr (v i)) (G : List S) : ∀ (m i : Nat) (ns : List Int) (st : Int) (acc : List Int), i + m = 12 → acc.length = i → ns.length < 1000 → ∃ (os : List Int) (ns' : List Int) (st' : Int), os.length = 12 ∧ (∀ k ∈ os, k ∈ acc ∨ (0 ≤ k ∧ k ≤ 19)) ∧ ns'.length < 1000 ∧
    dLcLoop (fun _ i => some (if i < 12 then some (.val (.dat (.int (i : Nat)))) else none)) 11 eYes (tkD (dC (.int 20))) m i (acc.map fun o => .dat (.int o)) (EL L Pt ns st (up v 11 .no) ++ G.map Sl.own) = some (os.map fun o => .dat (.int o), EL L Pt ns' st' (up v 11 .no) ++ G.map Sl.own)
  | 0, i, ns, st, acc, hi, ha, hl => ⟨acc, ns, st, by omega, fun k hk => .inl hk, hl, lcLoop_end (by show some (if i < 12 then _ else none) = _; rw [if_neg (by omega)])⟩
  | m + 1, i, ns, st, acc, hi, ha, hl => by
    have hv1 : ∀ j, Fr (up (up v 11 .no) 11 (I i) j) := up_fr (up_fr hv fr_no) (fr_own _)
    have hv0 : ∀ j, Fr (up v 11 .no j) := up_fr hv fr_no
    obtain ⟨r, n1, b1, p1, q1, l1, c1⟩ := tkL (L := L) (Pt := Pt) (ns := ns) (st := st) hv1 (m := 20) (by decide) (by decide) hl G (d := dC (.int 20)) rfl
    obtain ⟨os, n2, b2, h1, h2, h3, h4⟩ := own_loop hv G m (i + 1) n1 b1 (acc ++ [r]) (by omega) (by simp [ha]) l1
    refine ⟨os, n2, b2, h1, fun k hk => (h2 k hk).elim (fun z => (List.mem_append.mp z).elim .inl fun y => .inr (by rw [List.mem_singleton.mp y]; omega)) .inr, h3, ?_⟩
    have s1 : bName 11 (.val (.dat (.int (i : Nat)))) (EL L Pt ns st (up v 11 .no) ++ G.map Sl.own) = some (EL L Pt ns st (up (up v 11 .no) 11 (I i)) ++ G.map Sl.own) := by
      show some (slotSet _ 11 _) = _
      rw [((nbL hv0).app (nb_own G)).slot]; rfl
    have s2 : slotSet (EL L Pt n1 b1 (up (up v 11 .no) 11 (I i)) ++ G.map Sl.own) 11 .no = EL L Pt n1 b1 (up v 11 .no) ++ G.map Sl.own := by
      rw [((nbL hv1).app (nb_own G)).no]; rfl
    rw [lcLoop_yes (r := .val (.dat (.int (i : Nat)))) (by show some (if i < 12 then _ else none) = _; rw [if_pos (by omega)]) s1 rfl c1 (by rw [List.length_map]; omega), s2]
    simpa using h4
theorem ownP (hv : ∀ i, Fr (v i)) (G : List S) (hl : ns.length < 1000) : ∃ (os : List Int) (ns' : List Int) (st' : Int), os.length = 12 ∧ (∀ k ∈ os, 0 ≤ k ∧ k ≤ 19) ∧ ns'.length < 1000 ∧ ownE (EL L Pt ns st v ++ G.map Sl.own) = some (.dat (DQ.tD os), EL L Pt ns' st' (up v 11 .no) ++ G.map Sl.own) := by
  obtain ⟨os, n2, b2, h1, h2, h3, h4⟩ := own_loop (L := L) (Pt := Pt) hv G 12 0 ns st [] rfl rfl hl
  refine ⟨os, n2, b2, h1, fun k hk => (h2 k hk).elim (fun z => by cases z) id, h3, ?_⟩
  refine eCS_go (eLc_go (iRange_go (j := 12) rfl (by decide) (by decide)) ?_) (DQ17.tuple_L (f := PyData.int) (xs := os))
  show dLcLoop _ 11 eYes _ 12 0 [] (slotSet (EL L Pt ns st v ++ G.map Sl.own ++ []) 11 .no) = _
  rw [List.append_nil, ((nbL hv).app (nb_own G)).no]
  exact h4
end
end DT
set_option maxHeartbeats 1000000
namespace DT
open PySem PySem.Spec PyProof.Rows L2 Mv TL NB
open Gn hiding g__law_take g__law_begun d__law_take d__law_begun v_take v_begun eBg
abbrev O (d : PyData) : Sl := .own (.dat d)
section
variable {L : List Int} {Pt : Addr} {ns : List Int} {st : Int} {v : Nat → Sl} {e : Ed}
theorem vd {E : En} {i : Nat} {d : PyData} {x : Sl} (h : E[i]? = some x) (h2 : x = O d) : dVar i E = some (.val (.dat d)) := var_dat (h.trans (congrArg some h2))
def edD : En → Option Out := dSet 5 (eEff (lConsP (dVar 3) (lConsP (dVar 4) (lConsE ownE lNil))) fun k => ePure (dTupL (dGhs k)))
theorem edP (hv : ∀ i, Fr (v i)) (hl : ns.length < 1000) {num : Int} {m : Option Int} (h3 : v 3 = I num) (h4 : v 4 = O (DQ.oI m)) :
    ∃ (os : List Int) (ns' : List Int) (st' : Int), os.length = 12 ∧ (∀ k ∈ os, 0 ≤ k ∧ k ≤ 19) ∧ ns'.length < 1000 ∧ edD (EL L Pt ns st v) = some (.nx (EL L Pt ns' st' (up (up v 11 .no) 5 (O (DQ.Ed.d ⟨num, m, os⟩))))) := by
  obtain ⟨os, n1, b1, h1, h2, l1, c⟩ := ownP (L := L) (Pt := Pt) (st := st) hv [.dat (.int num), .dat (DQ.oI m)] hl
  have c1 : lConsP (dVar 3) (lConsP (dVar 4) (lConsE ownE lNil)) (EL L Pt ns st v) = some (3, EL L Pt n1 b1 (up v 11 .no) ++ [S.dat (.int num), .dat (DQ.oI m), .dat (DQ.tD os)].map Sl.own) :=
    lP_own (k := 2) (s := .dat (.int num)) (vd (x := v 3) rfl h3) (lP_own (k := 1) (s := .dat (DQ.oI m)) (vd (x := v 4) rfl h4) (lE_go (k := 0) c lN))
  have c2 : ePure (dTupL (dGhs 3)) (EL L Pt n1 b1 (up v 11 .no) ++ [S.dat (.int num), .dat (DQ.oI m), .dat (DQ.tD os)].map Sl.own) = some (.dat (DQ.Ed.d ⟨num, m, os⟩), EL L Pt n1 b1 (up v 11 .no) ++ [S.dat (.int num), .dat (DQ.oI m), .dat (DQ.tD os)].map Sl.own) :=
    ePure_go (tupL_go (rs := [.val (.dat (.int num)), .val (.dat (DQ.oI m)), .val (.dat (DQ.tD os))]) rfl (show 3 < 1000 by decide) rfl)
  have hv1 := up_fr (i := 11) hv fr_no
  refine ⟨os, n1, b1, h1, h2, l1, (dSet_go (eff_own (dc := fun k => ePure (dTupL (dGhs k))) (nbL hv1) c1 c2 rfl)).trans ?_⟩
  rw [(nbL hv1).slot]; rfl
def txD : En → Option Out := dAlias 6 (dOp fAddS (dOp fAddS (dCB fStr (dCons (dVar 3) dNil)) (dC (.str " "))) (dIfE (dTest (dOp fIsN (dVar 4) (dC .none))) (dC (.str "-")) (dCB fStr (dCons (dVar 4) dNil))))
theorem addS {a b : Str} (h : (a ++ b).length ≤ 112) : fAddS (.str a) (.str b) = some (.str (a ++ b)) := by
  rw [Str.length_append] at h
  exact if_pos (Nat.le_trans h (by decide))
theorem alias_own {E : En} {d : PyData} {i : Nat} {da : En → Option Rs} (hE : Nb E) (h : da E = some (.val (.dat d))) : dAlias i da E = some (.nx (E.set i (O d))) := by
  unfold dAlias; rw [h]; simp only [hE.slot]
theorem txP (hv : ∀ i, Fr (v i)) (ok : EdOk e) (h3 : v 3 = I e.num) (h4 : v 4 = O (DQ.oI e.make)) : txD (EL L Pt ns st v) = some (.nx (EL L Pt ns st (up v 6 (O (.str (tk e 0)))))) := by
  have n1 := ok.num
  let E := EL L Pt ns st v
  have hk := tk_len ok 0
  rw [tk_0 ok] at hk
  have hk2 : (wI e.num ++ Str.ofString " ").length ≤ 112 := by rw [Str.length_append] at hk; omega
  have a1 : dCB fStr (dCons (dVar 3) dNil) E = some (.val (.dat (.str (wI e.num)))) := dCB_go (rs := [.val (.dat (.int e.num))]) (dcons_go (vd (x := v 3) rfl h3) rfl) rfl (fstr_go (by omega) (by omega))
  have a2 : dOp fAddS (dCB fStr (dCons (dVar 3) dNil)) (dC (.str " ")) E = some (.val (.dat (.str (wI e.num ++ Str.ofString " ")))) := dOp_go a1 rfl rfl rfl (addS hk2)
  have a3 : dIfE (dTest (dOp fIsN (dVar 4) (dC .none))) (dC (.str "-")) (dCB fStr (dCons (dVar 4) dNil)) E = some (.val (.dat (.str (match e.make with | none => dash | some k => wI k)))) := by
    have h4' := vd (E := E) (i := 4) (x := v 4) rfl h4
    unfold dIfE dTest
    cases hm : e.make with
    | none =>
      rw [hm] at h4'
      rw [dOp_go h4' rfl rfl rfl rfl]; rfl
    | some k =>
      have := ok.make k hm
      rw [hm] at h4'
      rw [dOp_go h4' rfl rfl rfl rfl]
      exact dCB_go (rs := [.val (.dat (.int k))]) (dcons_go h4' rfl) rfl (fstr_go (by omega) (by omega))
  have a4 := dOp_go (f := fAddS) a2 a3 rfl rfl (addS hk)
  refine (alias_own (i := 6) (nbL hv) a4).trans ?_
  rw [tk_0 ok]; rfl
def txF : En → Option Out := dFor (iTupS (dIxT (dVar 5) (dC (.int 2)))) (bName 7) (dAlias 6 (dOp fAddS (dOp fAddS (dVar 6) (dC (.str " "))) (dCB fStr (dCons (dVar 7) dNil))))
theorem ix3 {E : En} {da : En → Option Rs} {a b c : PyData} (h : da E = some (.val (.dat (.tuple [a, b, c])))) : dIxT da (dC (.int 2)) E = some (.val (.dat c)) := by
  unfold dIxT; rw [h]; rfl
theorem txFP (hv : ∀ i, Fr (v i)) (ok : EdOk e) (h5 : v 5 = O e.d) (h6 : v 6 = O (.str (tk e 0))) : ∃ x, Fr x ∧ txF (EL L Pt ns st v) = some (.nx (EL L Pt ns st (up (up v 7 x) 6 (O (.str (txt e)))))) := by
  let E := EL L Pt ns st v
  have hs : iTupS (dIxT (dVar 5) (dC (.int 2))) E = some ⟨E, [], rdD (e.own.map .int), (e.own.map PyData.int).length⟩ := by
    unfold iTupS; rw [ix3 (vd (x := v 5) rfl h5)]; rfl
  have hb : ∀ i o x, e.own[i]? = some o → Fr x → dAlias 6 (dOp fAddS (dOp fAddS (dVar 6) (dC (.str " "))) (dCB fStr (dCons (dVar 7) dNil))) (EL L Pt ns st (up (up v 7 (I o)) 6 (O (.str (tk e i))))) = some (.nx (EL L Pt ns st (up (up v 7 (I o)) 6 (O (.str (tk e (i + 1))))))) := fun i o x ho hx => by
    have hm := ok.ok o (List.mem_of_getElem? ho)
    have hk := tk_len ok (i + 1)
    rw [tk_step ok ho] at hk
    have hk2 : (tk e i ++ Str.ofString " ").length ≤ 112 := by rw [Str.length_append] at hk; omega
    have a2 : dOp fAddS (dVar 6) (dC (.str " ")) (EL L Pt ns st (up (up v 7 (I o)) 6 (O (.str (tk e i))))) = some (.val (.dat (.str (tk e i ++ Str.ofString " ")))) := dOp_go (x := .str (tk e i)) rfl rfl rfl rfl (addS hk2)
    have a3 : dCB fStr (dCons (dVar 7) dNil) (EL L Pt ns st (up (up v 7 (I o)) 6 (O (.str (tk e i))))) = some (.val (.dat (.str (wI o)))) := dCB_go (rs := [.val (.dat (.int o))]) rfl rfl (fstr_go hm.1 (by omega))
    have a4 := dOp_go (f := fAddS) a2 a3 rfl rfl (addS hk)
    refine (alias_own (i := 6) (nbL (up_fr (up_fr hv (fr_own _)) (fr_own _))) a4).trans ?_
    rw [tk_step ok ho]; rfl
  have hloop := loop_inv (rd := rdD (e.own.map .int)) (bd := bName 7) (db := dAlias 6 (dOp fAddS (dOp fAddS (dVar 6) (dC (.str " "))) (dCB fStr (dCons (dVar 7) dNil))))
    (fun k E => ∃ x, Fr x ∧ E = EL L Pt ns st (up (up v 7 x) 6 (O (.str (tk e k))))) 12
    (fun i E hi hJ => by
      obtain ⟨x, hx, rfl⟩ := hJ
      obtain ⟨o, ho⟩ : ∃ o, e.own[i]? = some o := ⟨_, List.getElem?_eq_getElem (by rw [ok.own]; exact hi)⟩
      refine ⟨_, EL L Pt ns st (up (up v 7 (I o)) 6 (O (.str (tk e i)))), _, rdD_I ho, ?_, hb i o x ho hx, _, fr_own _, rfl⟩
      show some (slotSet _ 7 _) = _
      rw [(nbL (up_fr (up_fr hv hx) (fr_own _))).slot]; rfl)
    (fun E _ => rdD_end (by rw [ok.own]; exact Nat.le_refl _)) 12 0 (e.own.map PyData.int).length E (by omega) (by rw [List.length_map, ok.own]; exact Nat.le_refl _) ⟨v 7, hv 7, by
      show EL L Pt ns st v = _
      unfold EL
      rw [← h6]; rfl⟩
  obtain ⟨E', hE, x, hx, rfl⟩ := hloop
  refine ⟨x, hx, ?_⟩
  rw [← tk_end ok]
  exact dFor_go hs (by rw [List.append_nil]; exact hE)
end
end DT
set_option maxHeartbeats 1000000
namespace DT
open PySem PySem.Spec PyProof.Rows L2 Mv TL NB
open Gn hiding g__law_take g__law_begun d__law_take d__law_begun v_take v_begun eBg
section
variable {L : List Int} {Pt : Addr} {ns : List Int} {st : Int} {v : Nat → Sl} {e : Ed}
theorem al_oI {j : Nat} (m : Option Int) : K17.g__law_alike (j + 1) [.dat (DQ.oI m), .dat (DQ.oI m)] = some (.dat (.bool true), [.dat (DQ.oI m), .dat (DQ.oI m)]) := by
  cases m with
  | none => exact DQ17.al_none
  | some k => exact DQ17.al_int k
theorem al_own {j : Nat} (os : List Int) (h : os.length = 12) : K17.g__law_alike (j + 2) [.dat (DQ.tD os), .dat (DQ.tD os)] = some (.dat (.bool true), [.dat (DQ.tD os), .dat (DQ.tD os)]) := by
  refine DQ17.al_tup (ds := os.map .int) (j := j + 1) (by rw [List.length_map]; omega) fun i d hd => ?_
  obtain ⟨o, _, rfl⟩ := List.mem_map.mp (List.mem_of_getElem? hd)
  exact DQ17.al_int o
theorem al_ed {j : Nat} (ok : EdOk e) : K17.g__law_alike (j + 3) [.dat e.d, .dat e.d] = some (.dat (.bool true), [.dat e.d, .dat e.d]) := by
  refine DQ17.al_tup (ds := [.int e.num, DQ.oI e.make, DQ.tD e.own]) (j := j + 2) (show 3 < 900 by decide) fun i d hd => ?_
  match i, hd with
  | 0, hd => cases hd; exact DQ17.al_int _
  | 1, hd => cases hd; exact al_oI _
  | 2, hd => cases hd; exact al_own _ ok.own
  | _ + 3, hd => cases hd
def alD (g : List S → Option (S × List S)) (i j : Nat) : En → Option (S × En) := eEff (lConsE (eCall g (dCons (dVar i) dNil)) (lConsP (dVar j) lNil)) fun k => dWhen k 2 (eCall (K19.g__law_alike 9) (dGhs k))
theorem alP {g : List S → Option (S × List S)} {a b : PyData} {i j : Nat} {x y : Sl} (hv : ∀ i, Fr (v i)) (hj : j < 14) (hi : (EL L Pt ns st v)[i]? = some x) (hx : x = O a) (hy0 : (EL L Pt ns st v)[j]? = some y) (hy : y = O b) (hg : g [.dat a] = some (.dat b, [.dat a]))
    (ha : K17.g__law_alike 9 [.dat b, .dat b] = some (.dat (.bool true), [.dat b, .dat b])) : alD g i j (EL L Pt ns st v) = some (.dat (.bool true), EL L Pt ns st v) := by
  have c1 : lConsE (eCall g (dCons (dVar i) dNil)) (lConsP (dVar j) lNil) (EL L Pt ns st v) = some (2, EL L Pt ns st v ++ [S.dat b, .dat b].map Sl.own) :=
    lE_go (k := 1) (eCall_go (rs := [.val (.dat a)]) (dcons_go (vd hi hx) rfl) rfl rfl hg) (lP_own (k := 0) (s := .dat b) (vd (x := y) (by rw [List.getElem?_append_left (by exact hj)]; exact hy0) hy) (by rw [List.append_assoc]; rfl))
  exact eff_own (dc := fun k => dWhen k 2 (eCall (K19.g__law_alike 9) (dGhs k))) (nbL hv) c1 (when_go (eCall_go (rs := [.val (.dat b), .val (.dat b)]) rfl rfl rfl ha)) rfl
def cmD : En → Option Out := dIf (eOr (eNot (eTest (alD K19.g_written 5 6))) (eNot (eTest (alD K19.g_read 6 5)))) (dRet (ePure (dC (.bool false)))) dNext
theorem cmP (hv : ∀ i, Fr (v i)) (ok : EdOk e) (h5 : v 5 = O e.d) (h6 : v 6 = O (.str (txt e))) : cmD (EL L Pt ns st v) = some (.nx (EL L Pt ns st v)) := by
  have c1 := alP (L := L) (Pt := Pt) (ns := ns) (st := st) (i := 5) (j := 6) hv (by decide) rfl h5 rfl h6 (v_written ok) (al_str (sok_txt e))
  have c2 := alP (L := L) (Pt := Pt) (ns := ns) (st := st) (i := 6) (j := 5) hv (by decide) rfl h6 rfl h5 (v_read ok) (al_ed ok)
  exact dIf_f (eOr_f (eNot_go (eTest_go c1)) (eNot_go (eTest_go c2))) rfl
def neD : En → Option Out := dIf (eTest (eOp fNeS (eEff (lConsE (eCall K19.g_read (dCons (dVar 6) dNil)) lNil) fun k => dWhen k 1 (eCall K19.g_written (dGhs k))) (ePure (dVar 6)))) (dRet (ePure (dC (.bool false)))) dNext
theorem neP (hv : ∀ i, Fr (v i)) (ok : EdOk e) (h6 : v 6 = O (.str (txt e))) : neD (EL L Pt ns st v) = some (.nx (EL L Pt ns st v)) := by
  have c1 : lConsE (eCall K19.g_read (dCons (dVar 6) dNil)) lNil (EL L Pt ns st v) = some (1, EL L Pt ns st v ++ [S.dat e.d].map Sl.own) :=
    lE_go (k := 0) (eCall_go (rs := [.val (.dat (.str (txt e)))]) (dcons_go (vd (x := v 6) rfl h6) rfl) rfl rfl (v_read ok)) rfl
  have c2 := eff_own (dc := fun k => dWhen k 1 (eCall K19.g_written (dGhs k))) (s := .dat (.str (txt e))) (nbL hv) c1 (when_go (eCall_go (rs := [.val (.dat e.d)]) rfl rfl rfl (v_written ok))) rfl
  have c3 : fNeS (.str (txt e)) (.str (txt e)) = some (.bool false) := by
    show some (PyData.bool (!decide (txt e = txt e))) = _
    rw [decide_eq_true rfl]; rfl
  exact dIf_f (eTest_go (eOp_go c2 (ePure_go (vd (x := v 6) rfl h6)) c3)) rfl
def farD : En → Option Out := dSet 8 (tkD (dOp fPow (dC (.int 10)) (dC (.int 18))))
theorem farP (hv : ∀ i, Fr (v i)) (hl : ns.length < 1000) : ∃ (far : Int) (ns' : List Int) (st' : Int), 0 ≤ far ∧ ns'.length < 1000 ∧ farD (EL L Pt ns st v) = some (.nx (EL L Pt ns' st' (up v 8 (I far)))) := by
  obtain ⟨r, n1, b1, p1, q1, l1, c⟩ := tkL (L := L) (Pt := Pt) (ns := ns) (st := st) hv (m := 1000000000000000000) (by decide) (by decide) hl [] (pow18 _)
  refine ⟨r, n1, b1, p1, l1, (dSet_go c).trans ?_⟩
  rw [show EL L Pt n1 b1 v ++ ([] : List S).map Sl.own = EL L Pt n1 b1 v from rfl, (nbL hv).slot]; rfl
def oddA (e : Ed) : List PyData := [.tuple [.int 0, DQ.oI e.make, DQ.tD e.own], .tuple [.int e.num, .int (-1), DQ.tD e.own], .tuple [.int e.num, DQ.oI e.make, DQ.tD (e.own.drop 1)], .tuple [.int e.num], .tuple []]
def oddB (e : Ed) (far : Int) : List PyData := [.tuple [.int (1000000 + 1 + far), DQ.oI e.make, DQ.tD e.own], .tuple [.int e.num, DQ.oI e.make, DQ.tD (e.own.drop 1 ++ [20 + far])]]
theorem odd_no (ok : EdOk e) {far : Int} (hf : 0 ≤ far) {D : PyData} (h : D ∈ oddA e ++ oddB e far) : K19x.g_written [.dat D] = some (.ex 17, [.dat D]) := by
  refine odd_wr ?_
  have l1 : (e.own.drop 1).length = 11 := by rw [List.length_drop, ok.own]
  simp only [oddA, oddB, List.cons_append, List.nil_append, List.mem_cons, List.not_mem_nil, or_false] at h
  rcases h with rfl | rfl | rfl | rfl | rfl | rfl | rfl
  · exact ie_num ok.make (by omega)
  · exact ie_neg
  · exact ie_own ok.make ok.num (own_few (by omega))
  · exact ie_few (of_decide_eq_true rfl)
  · exact ie_few (of_decide_eq_true rfl)
  · exact ie_num ok.make (by omega)
  · refine ie_own ok.make ok.num (own_far (by rw [List.length_append, l1]; rfl) ⟨20 + far, by simp, ?_⟩)
    show (decide (0 ≤ 20 + far) && decide (20 + far ≤ 19)) = false
    rw [decide_eq_false (show ¬ 20 + far ≤ 19 by omega), Bool.and_false]
theorem slT1 {E : En} {da : En → Option Rs} {os : List Int} (h : da E = some (.val (.dat (DQ.tD os)))) (hl : os.length = 12) : dSl fSlT da (dPart (dC (.int 1))) dNoPart E = some (.val (.dat (DQ.tD (os.drop 1)))) :=
  slT_from (k := 1) (da := da) (ns := os) h rfl (by omega)
theorem lst_go {E : En} {dr : En → Option (List Rs)} {ds : List PyData} (h : dr E = some (ds.map fun d => Rs.val (.dat d))) (hl : ds.length < 1000) : dLst dr E = some (.val (dL idD ds)) := by
  have ls : ∀ ds : List PyData, lstS (ds.map fun d => Rs.val (.dat d)) = some (ds.map S.dat) := by
    intro ds
    induction ds with
    | nil => rfl
    | cons d ds ih =>
      show (lstS (ds.map fun d => Rs.val (.dat d))).map (S.dat d :: ·) = _
      rw [ih]; rfl
  unfold dLst
  rw [h]
  simp only [List.length_map, if_pos hl, ls, Option.map_some]
  rfl
theorem tup_d {E : En} {dr : En → Option (List Rs)} {ds : List PyData} (h : dr E = some (ds.map fun d => Rs.val (.dat d))) (hl : ds.length < 1000) : dTupL dr E = some (.val (.dat (.tuple ds))) := by
  refine tupL_go h (by rw [List.length_map]; exact hl) ?_
  have : ∀ ds : List PyData, tupD E (ds.map fun d => Rs.val (.dat d)) = some ds := by
    intro ds
    induction ds with
    | nil => rfl
    | cons d ds ih =>
      rw [List.map_cons]
      unfold tupD
      rw [ih]; rfl
  exact this ds
def odD : En → Option Out := dAlias 9 (dLst (dCons (dTupL (dCons (dC (.int 0)) (dCons (dVar 4) (dCons (dIxT (dVar 5) (dC (.int 2))) dNil)))) (dCons (dTupL (dCons (dVar 3) (dCons (dNeg (dC (.int 1))) (dCons (dIxT (dVar 5) (dC (.int 2))) dNil)))) (dCons (dTupL (dCons (dVar 3) (dCons (dVar 4) (dCons (dSl fSlT (dIxT (dVar 5) (dC (.int 2))) (dPart (dC (.int 1))) dNoPart) dNil)))) (dCons (dTupL (dCons (dVar 3) dNil)) (dCons (dTupL dNil) dNil))))))
theorem odP (hv : ∀ i, Fr (v i)) (ok : EdOk e) (h3 : v 3 = I e.num) (h4 : v 4 = O (DQ.oI e.make)) (h5 : v 5 = O e.d) : odD (EL L Pt ns st v) = some (.nx (EL L Pt ns st (up v 9 (.own (dL idD (oddA e)))))) := by
  let E := EL L Pt ns st v
  have a3 : dVar 3 E = some (.val (.dat (.int e.num))) := vd (x := v 3) rfl h3
  have a4 : dVar 4 E = some (.val (.dat (DQ.oI e.make))) := vd (x := v 4) rfl h4
  have a5 : dIxT (dVar 5) (dC (.int 2)) E = some (.val (.dat (DQ.tD e.own))) := ix3 (vd (x := v 5) rfl h5)
  have t1 := tup_d (E := E) (ds := [.int 0, DQ.oI e.make, DQ.tD e.own]) (dcons_go (da := dC (.int 0)) rfl (dcons_go a4 (dcons_go a5 (dr := dNil) rfl))) (of_decide_eq_true rfl)
  have t2 := tup_d (E := E) (ds := [.int e.num, .int (-1), DQ.tD e.own]) (dcons_go a3 (dcons_go (da := dNeg (dC (.int 1))) rfl (dcons_go a5 (dr := dNil) rfl))) (of_decide_eq_true rfl)
  have t3 := tup_d (E := E) (ds := [.int e.num, DQ.oI e.make, DQ.tD (e.own.drop 1)]) (dcons_go a3 (dcons_go a4 (dcons_go (slT1 a5 ok.own) (dr := dNil) rfl))) (of_decide_eq_true rfl)
  have t4 := tup_d (E := E) (ds := [.int e.num]) (dcons_go a3 (dr := dNil) rfl) (of_decide_eq_true rfl)
  have t5 := tup_d (E := E) (ds := []) (dr := dNil) rfl (of_decide_eq_true rfl)
  have t6 := lst_go (ds := oddA e) (dcons_go t1 (dcons_go t2 (dcons_go t3 (dcons_go t4 (dcons_go t5 (dr := dNil) rfl))))) (of_decide_eq_true rfl)
  unfold odD dAlias
  rw [t6]
  simp only [(nbL hv).slot]; rfl
def odE : En → Option Out := dAlias 9 (dOpS fCatL (dVar 9) (dLst (dCons (dTupL (dCons (dOp fAdd (dOp fAdd (dOp fPow (dC (.int 10)) (dC (.int 6))) (dC (.int 1))) (dVar 8)) (dCons (dVar 4) (dCons (dIxT (dVar 5) (dC (.int 2))) dNil)))) (dCons (dTupL (dCons (dVar 3) (dCons (dVar 4) (dCons (dOpS fCatT (dSl fSlT (dIxT (dVar 5) (dC (.int 2))) (dPart (dC (.int 1))) dNoPart) (dTupL (dCons (dOp fAdd (dC (.int 20)) (dVar 8)) dNil))) dNil)))) dNil))))
theorem odQ (hv : ∀ i, Fr (v i)) (ok : EdOk e) {far : Int} (h3 : v 3 = I e.num) (h4 : v 4 = O (DQ.oI e.make)) (h5 : v 5 = O e.d) (h8 : v 8 = I far) (h9 : v 9 = .own (dL idD (oddA e))) : odE (EL L Pt ns st v) = some (.nx (EL L Pt ns st (up v 9 (.own (dL idD (oddA e ++ oddB e far)))))) := by
  let E := EL L Pt ns st v
  have a3 : dVar 3 E = some (.val (.dat (.int e.num))) := vd (x := v 3) rfl h3
  have a4 : dVar 4 E = some (.val (.dat (DQ.oI e.make))) := vd (x := v 4) rfl h4
  have a5 : dIxT (dVar 5) (dC (.int 2)) E = some (.val (.dat (DQ.tD e.own))) := ix3 (vd (x := v 5) rfl h5)
  have a8 : dVar 8 E = some (.val (.dat (.int far))) := vd (x := v 8) rfl h8
  have b1 : dOp fAdd (dOp fAdd (dOp fPow (dC (.int 10)) (dC (.int 6))) (dC (.int 1))) (dVar 8) E = some (.val (.dat (.int (1000000 + 1 + far)))) := dOp_go (x := .int (1000000 + 1)) (dOp_go (x := .int 1000000) (y := .int 1) (pow6 E) rfl rfl rfl rfl) a8 rfl rfl rfl
  have t1 := tup_d (E := E) (ds := [.int (1000000 + 1 + far), DQ.oI e.make, DQ.tD e.own]) (dcons_go b1 (dcons_go a4 (dcons_go a5 (dr := dNil) rfl))) (of_decide_eq_true rfl)
  have b2 : dOp fAdd (dC (.int 20)) (dVar 8) E = some (.val (.dat (.int (20 + far)))) := dOp_go (x := .int 20) rfl a8 rfl rfl rfl
  have b3 := tup_d (E := E) (ds := [.int (20 + far)]) (dcons_go b2 (dr := dNil) rfl) (of_decide_eq_true rfl)
  have b4 : dOpS fCatT (dSl fSlT (dIxT (dVar 5) (dC (.int 2))) (dPart (dC (.int 1))) dNoPart) (dTupL (dCons (dOp fAdd (dC (.int 20)) (dVar 8)) dNil)) E = some (.val (.dat (DQ.tD (e.own.drop 1 ++ [20 + far])))) := by
    refine dOpS_go (slT1 a5 ok.own) b3 rfl rfl ?_
    show (if ((e.own.drop 1).map PyData.int).length + ([PyData.int (20 + far)]).length < 100000 then some (S.dat (.tuple ((e.own.drop 1).map PyData.int ++ [PyData.int (20 + far)]))) else none) = _
    rw [if_pos (by rw [List.length_map, List.length_drop, ok.own]; exact of_decide_eq_true rfl)]
    unfold DQ.tD
    rw [List.map_append]; rfl
  have t2 := tup_d (E := E) (ds := [.int e.num, DQ.oI e.make, DQ.tD (e.own.drop 1 ++ [20 + far])]) (dcons_go a3 (dcons_go a4 (dcons_go b4 (dr := dNil) rfl))) (of_decide_eq_true rfl)
  have t6 := lst_go (ds := oddB e far) (dcons_go t1 (dcons_go t2 (dr := dNil) rfl)) (by show 2 < 1000; decide)
  have h9' : E[9]? = some (.own (dL idD (oddA e))) := congrArg some h9
  have g9 : dVar 9 E = some (.pl [9]) := by unfold dVar; rw [h9']; rfl
  have t7 := catL_go g9 (show (Rs.pl [9]).at E = some (dL idD (oddA e)) from get_own h9') t6 rfl (show (oddA e).length + (oddB e far).length < 100000 by show 5 + 2 < 100000; decide)
  unfold odE dAlias
  rw [t7]
  simp only [(nbL hv).slot]; rfl
end
end DT
set_option maxHeartbeats 1000000
namespace DT
open PySem PySem.Spec PyProof.Rows L2 Mv TL NB
open Gn hiding g__law_take g__law_begun d__law_take d__law_begun v_take v_begun eBg
theorem fnGG_rt {n : Nat} {d : En → Option Out} {ss tts l : List S} {s : S} {E : En} (h : d (entry n ss ++ tts.map Sl.own) = some (.rt s E)) (h2 : ownSs (E.drop n) = some l) : fnGG n d ss tts = some (s, l.take ss.length, l.drop ss.length) := by
  unfold fnGG; rw [h]; simp only [h2, Option.map_some]
section
variable {L : List Int} {Pt : Addr} {ns : List Int} {st : Int} {v : Nat → Sl} {e : Ed}
def badD : En → Option Out := dSet 10 (eEff (lConsP (dVar 9) (lConsE (tkD (dC (.int 7))) lNil)) fun k => dWhen k 2 (ePure (dIxL (dGh k 0) (dGh k 1))))
theorem badP (hv : ∀ i, Fr (v i)) (hl : ns.length < 1000) {xs : List PyData} (h7 : xs.length = 7) (h9 : v 9 = .own (dL idD xs)) :
    ∃ D ∈ xs, ∃ (ns' : List Int) (st' : Int), ns'.length < 1000 ∧ badD (EL L Pt ns st v) = some (.nx (EL L Pt ns' st' (up v 10 (O D)))) := by
  let E := EL L Pt ns st v
  have h9' : ∀ {ns st}, (EL L Pt ns st v)[9]? = some (.own (dL idD xs)) := congrArg some h9
  have g9 : dVar 9 E = some (.pl [9]) := by unfold dVar; rw [show E[9]? = _ from h9']; rfl
  obtain ⟨r, n1, b1, p1, q1, l1, e1⟩ := v_take (ns := ns) (st := st) (many := 7) (by decide) (by decide) hl
  have c1 : tkD (dC (.int 7)) (E ++ [.bor [9]]) = some (.dat (.int r), EL L Pt n1 b1 v ++ [.bor [9]]) := by
    refine (eCall_go (rs := [.pl [1], .val (.dat (.int 7))]) (ss := [bx ns st, .dat (.int 7)]) (dcons_go (r := .pl [1]) rfl (dcons_go (r := .val (.dat (.int 7))) rfl rfl)) rfl rfl e1).trans ?_
    show some (S.dat (.int r), ekill (eput (E ++ [.bor [9]]) [1] (bx n1 b1)) [1]) = _
    have : eput (E ++ [.bor [9]]) [1] (bx n1 b1) = EL L Pt n1 b1 v ++ [.bor [9]] := put_own (E := E ++ [.bor [9]]) (s := bx ns st) rfl
    rw [this]
    unfold ekill
    rw [List.map_append, show List.map (kill1 [1]) (EL L Pt n1 b1 v) = ekill (EL L Pt n1 b1 v) [1] from rfl, (nbL hv).kill]
    rfl
  have c2 : lConsP (dVar 9) (lConsE (tkD (dC (.int 7))) lNil) E = some (2, EL L Pt n1 b1 v ++ [.bor [9], I r]) :=
    lP_bor (k := 1) g9 (lE_go (k := 0) c1 (by rw [List.append_assoc]; rfl))
  have hr : (Rs.pl [9]).at (EL L Pt n1 b1 v ++ [.bor [9], I r]) = some (dL idD xs) := get_own (by
    rw [List.getElem?_append_left (show 9 < 14 by decide)]; exact h9')
  obtain ⟨x, hx, c3⟩ := ix_of (E := EL L Pt n1 b1 v ++ [.bor [9], I r]) (da := dGh 2 0) (db := dGh 2 1) (r := .pl [9]) (xs := xs) (z := r) rfl hr rfl p1 (by omega)
  have c4 := eff_go (A := EL L Pt n1 b1 v) (B := EL L Pt n1 b1 v) (G := [.bor [9], I r]) (G2 := [.bor [9], I r]) (dc := fun k => dWhen k 2 (ePure (dIxL (dGh k 0) (dGh k 1)))) c2 (when_go (ePure_go c3)) (nbL hv).frs rfl
  refine ⟨x, hx, n1, b1, by omega, (dSet_go c4).trans ?_⟩
  rw [(nbL hv).slot]; rfl
noncomputable def lastD (Pt : Addr) : En → Option Out := dIf (eNot (eTest (K19c.eAll1 13 10 Pt K19c.lamQ))) (dRet (ePure (dC (.bool false)))) dNext
theorem lastP (hv : ∀ i, Fr (v i)) {D : PyData} (h10 : v 10 = O D) (hD : K19x.g_written [.dat D] = some (.ex 17, [.dat D])) : lastD Pt (EL L Pt ns st v) = some (.nx (EL L Pt ns st v)) := by
  have c : K19c.eAll1 13 10 Pt K19c.lamQ (EL L Pt ns st v) = some (.dat (.bool true), EL L Pt ns st v) := by
    unfold K19c.eAll1
    rw [show (EL L Pt ns st v)[13]? = some (.own (.ext (tabX Pt K19c.lamQ))) from rfl]
    simp only [if_true]
    rw [(nbL hv).kill, show (EL L Pt ns st v)[10]? = some (O D) from congrArg some h10]
    simp only [hD, if_true]
  exact dIf_f (eNot_go (eTest_go c)) rfl
noncomputable def body (Pt : Addr) : En → Option Out := dSeq numD (dSeq mkD (dSeq edD (dSeq txD (dSeq txF (dSeq cmD (dSeq neD (dSeq farD (dSeq odD (dSeq odE (dSeq badD (lastD Pt)))))))))))
theorem turn (hv : ∀ i, Fr (v i)) (hl : ns.length < 1000) : ∃ (v' : Nat → Sl) (ns' : List Int) (st' : Int), (∀ i, Fr (v' i)) ∧ ns'.length < 1000 ∧ body Pt (EL L Pt ns st v) = some (.nx (EL L Pt ns' st' v')) := by
  obtain ⟨num, n1, b1, p1, p2, l1, s1⟩ := numP (L := L) (Pt := Pt) (ns := ns) (st := st) hv hl
  have v1 : ∀ i, Fr (up v 3 (I num) i) := up_fr hv (fr_own _)
  obtain ⟨m, n2, b2, pm, l2, s2⟩ := mkP (L := L) (Pt := Pt) (ns := n1) (st := b1) v1 l1
  have v2 : ∀ i, Fr (up (up v 3 (I num)) 4 (O (DQ.oI m)) i) := up_fr v1 (fr_own _)
  obtain ⟨os, n3, b3, o1, o2, l3, s3⟩ := edP (L := L) (Pt := Pt) (ns := n2) (st := b2) v2 l2 (num := num) (m := m) rfl rfl
  let e : Ed := ⟨num, m, os⟩
  have ok : EdOk e := ⟨⟨p1, p2⟩, pm, o1, o2⟩
  let w3 := up (up (up (up v 3 (I num)) 4 (O (DQ.oI m))) 11 .no) 5 (O e.d)
  have v3 : ∀ i, Fr (w3 i) := up_fr (up_fr v2 fr_no) (fr_own _)
  have s4 := txP (L := L) (Pt := Pt) (ns := n3) (st := b3) (e := e) v3 ok rfl rfl
  have v4 : ∀ i, Fr (up w3 6 (O (.str (tk e 0))) i) := up_fr v3 (fr_own _)
  obtain ⟨x, hx, s5⟩ := txFP (L := L) (Pt := Pt) (ns := n3) (st := b3) (e := e) v4 ok rfl rfl
  let w5 := up (up (up w3 6 (O (.str (tk e 0)))) 7 x) 6 (O (.str (txt e)))
  have v5 : ∀ i, Fr (w5 i) := up_fr (up_fr v4 hx) (fr_own _)
  have s6 := cmP (L := L) (Pt := Pt) (ns := n3) (st := b3) (e := e) v5 ok rfl rfl
  have s7 := neP (L := L) (Pt := Pt) (ns := n3) (st := b3) (e := e) v5 ok rfl
  obtain ⟨far, n8, b8, pf, l8, s8⟩ := farP (L := L) (Pt := Pt) (ns := n3) (st := b3) v5 l3
  have v8 : ∀ i, Fr (up w5 8 (I far) i) := up_fr v5 (fr_own _)
  have s9 := odP (L := L) (Pt := Pt) (ns := n8) (st := b8) (e := e) v8 ok rfl rfl rfl
  have v9 : ∀ i, Fr (up (up w5 8 (I far)) 9 (.own (dL idD (oddA e))) i) := up_fr v8 (fr_own _)
  have s10 := odQ (L := L) (Pt := Pt) (ns := n8) (st := b8) (e := e) (far := far) v9 ok rfl rfl rfl rfl rfl
  have v10 : ∀ i, Fr (up (up (up w5 8 (I far)) 9 (.own (dL idD (oddA e)))) 9 (.own (dL idD (oddA e ++ oddB e far))) i) := up_fr v9 (fr_own _)
  obtain ⟨D, hD, n11, b11, l11, s11⟩ := badP (L := L) (Pt := Pt) (ns := n8) (st := b8) v10 l8 (xs := oddA e ++ oddB e far) rfl rfl
  have v11 : ∀ i, Fr (up (up (up (up w5 8 (I far)) 9 (.own (dL idD (oddA e)))) 9 (.own (dL idD (oddA e ++ oddB e far)))) 10 (O D) i) := up_fr v10 (fr_own _)
  have s12 := lastP (L := L) (Pt := Pt) (ns := n11) (st := b11) v11 rfl (odd_no ok pf hD)
  exact ⟨_, n11, b11, v11, l11, dSeq_go s1 (dSeq_go s2 (dSeq_go s3 (dSeq_go s4 (dSeq_go s5 (dSeq_go s6 (dSeq_go s7 (dSeq_go s8 (dSeq_go s9 (dSeq_go s10 (dSeq_go s11 s12))))))))))⟩
end
theorem d_is (Pt : Addr) : K19c.d_law Pt = dSeq (dSet 1 (eCall K19.g__law_begun (dCons (dVar 0) dNil))) (dSeq (dFor (iRange (dC (.int 4))) (bName 2) (body Pt)) (dRet (ePure (dC (.bool true))))) := rfl
theorem law19 {ns : List Int} {Pt : Addr} (hl : ns.length < 1000) : K19c.g_law Pt [.dat (.list (ns.map .int))] [.ext (tabX Pt K19c.lamQ)] = some (.dat (.bool true), [.dat (.list (ns.map .int))], [.ext (tabX Pt K19c.lamQ)]) := by
  obtain ⟨st, c0⟩ := v_begun hl
  let E0 : En := [.own (sc ns), .no, .no, .no, .no, .no, .no, .no, .no, .no, .no, .no, .own (sc ns), .own (.ext (tabX Pt K19c.lamQ))]
  have hv0 : ∀ i, Fr ((fun _ => Sl.no : Nat → Sl) i) := fun _ => fr_no
  have s1 : dSet 1 (eCall K19.g__law_begun (dCons (dVar 0) dNil)) E0 = some (.nx (EL ns Pt ns st fun _ => .no)) := (dSet_go (eCall_go (rs := [.val (sc ns)]) rfl rfl rfl c0)).trans rfl
  have hsrc := iRange_go (E := EL ns Pt ns st fun _ => .no) (d := dC (.int 4)) (j := 4) rfl (by omega) (by omega)
  have hloop := loop_inv (rd := fun _ i => some (if i < 4 then some (.val (.dat (.int (i : Nat)))) else none)) (bd := bName 2) (db := body Pt)
    (fun _ E => ∃ (v : Nat → Sl) (ns' : List Int) (st' : Int), (∀ i, Fr (v i)) ∧ ns'.length < 1000 ∧ E = EL ns Pt ns' st' v) 4
    (fun i E hi hJ => by
      obtain ⟨v, n1, b1, hv, l1, rfl⟩ := hJ
      obtain ⟨v', n2, b2, hv2, l2, h⟩ := turn (L := ns) (Pt := Pt) (ns := n1) (st := b1) (v := up v 2 (I (i : Nat))) (up_fr hv (fr_own _)) l1
      refine ⟨_, EL ns Pt n1 b1 (up v 2 (I (i : Nat))), _, by show some (if i < 4 then _ else none) = _; rw [if_pos hi], ?_, h, v', n2, b2, hv2, l2, rfl⟩
      show some (slotSet _ 2 _) = _
      rw [(nbL hv).slot]; rfl)
    (fun E _ => rfl) 4 0 4 _ (by omega) (Nat.le_refl _) ⟨fun _ => .no, ns, st, hv0, hl, rfl⟩
  obtain ⟨E', hE, v, n1, b1, hv, l1, rfl⟩ := hloop
  have s2 := dFor_go hsrc (by rw [List.append_nil]; exact hE)
  unfold K19c.g_law
  rw [d_is]
  exact fnGG_rt (E := EL ns Pt n1 b1 v) (l := [sc ns, .ext (tabX Pt K19c.lamQ)]) (dSeq_go (E1 := EL ns Pt ns st fun _ => .no) s1 (dSeq_go s2 (dRet_go rfl))) rfl
end DT
set_option maxHeartbeats 4000000
namespace K19c
open PySem PySem.Spec PyProof.Rows L2 Mv NX CLX LamX
theorem all_mk {l : PySem.W.OpenLaw} {w : World} {K : PySem.W.Frag} {h : Heap} {mg : Str → Option Value} {fa fL cA Pt : Addr} {f0 : Addr} {od0 an0 : Option Addr} {sl0 : Array (Option Value)} {oc0 kV0 dc0 pm0 cd0 ct0 : Value} {f1 : Addr} {od1 an1 : Option Addr} {sl1 : Array (Option Value)} {oc1 kV1 dc1 pm1 cd1 ct1 : Value} {f2 : Addr} {od2 an2 : Option Addr} {sl2 : Array (Option Value)} {oc2 kV2 dc2 pm2 cd2 ct2 : Value} {f3 : Addr} {od3 an3 : Option Addr} {sl3 : Array (Option Value)} {oc3 kV3 dc3 pm3 cd3 ct3 : Value} {f4 : Addr} {od4 an4 : Option Addr} {sl4 : Array (Option Value)} {oc4 kV4 dc4 pm4 cd4 ct4 : Value} {f5 : Addr} {od5 an5 : Option Addr} {sl5 : Array (Option Value)} {oc5 kV5 dc5 pm5 cd5 ct5 : Value} {f6 : Addr} {od6 an6 : Option Addr} {sl6 : Array (Option Value)} {oc6 kV6 dc6 pm6 cd6 ct6 : Value} {f7 : Addr} {od7 an7 : Option Addr} {sl7 : Array (Option Value)} {oc7 kV7 dc7 pm7 cd7 ct7 : Value} {f8 : Addr} {od8 an8 : Option Addr} {sl8 : Array (Option Value)} {oc8 kV8 dc8 pm8 cd8 ct8 : Value} {f9 : Addr} {od9 an9 : Option Addr} {sl9 : Array (Option Value)} {oc9 kV9 dc9 pm9 cd9 ct9 : Value} {f10 : Addr} {od10 an10 : Option Addr} {sl10 : Array (Option Value)} {oc10 kV10 dc10 pm10 cd10 ct10 : Value} {f11 : Addr} {od11 an11 : Option Addr} {sl11 : Array (Option Value)} {oc11 kV11 dc11 pm11 cd11 ct11 : Value} {f12 : Addr} {od12 an12 : Option Addr} {sl12 : Array (Option Value)} {oc12 kV12 dc12 pm12 cd12 ct12 : Value} {f13 : Addr} {od13 an13 : Option Addr} {sl13 : Array (Option Value)} {oc13 kV13 dc13 pm13 cd13 ct13 : Value} {f14 : Addr} {od14 an14 : Option Addr} {sl14 : Array (Option Value)} {oc14 kV14 dc14 pm14 cd14 ct14 : Value} {odL anL : Option Addr} {slL slC : Array (Option Value)} {ocL kVL dcL pmL ctL eC : Value} {dC : Option Addr} {vsC : Array Value} {CBadHouse : Addr} {CKnown : Addr} {CNoHouse : Addr} {CTooMany : Addr} {CLastHouse : Addr} {CBadAsker : Addr} {CBadEdition : Addr} {CBadAsk : Addr} {CBusy : Addr} {CNoLetter : Addr} {CBadCount : Addr} {CBadText : Addr} {CDrainError : Addr} {tkSLOTS : Tok} {tkLAST_NAME : Tok} {tkLAST_NUMBER : Tok} {tkMOST_FIGURES : Tok} {tkNO_MAKE : Tok} {tkMAKE_PLACE : Tok} {tkFIRST_OWNER : Tok} {tkWORDS : Tok} (X : K.In h) (G : h.Ns mainGlobals mg) (hfa : mg "law" = some (.ref fa)) (hTE : ∀ f, mg "law" = some (.ref f) → EndL.TabE K f h)
    (a0 : PySem.W.nsIn K mainGlobals "is_within" = some (some (.ref f0)))
    (l0 : K.lookup f0 = some ⟨oc0, od0, .func (PySem.W.fnOf "is_within" "is_within" (defArgs K19.s_is_within) (defBody K19.s_is_within) (defScope K19.s_is_within) .none kV0 dc0 pm0 an0 cd0 ct0), sl0⟩)
    (c0 : PySem.W.codeIn K cd0 "is_within" = true)
    (k0 : PySem.W.keepIn K (.ref f0) = true)
    (a1 : PySem.W.nsIn K mainGlobals "is_house" = some (some (.ref f1)))
    (l1 : K.lookup f1 = some ⟨oc1, od1, .func (PySem.W.fnOf "is_house" "is_house" (defArgs K19.s_is_house) (defBody K19.s_is_house) (defScope K19.s_is_house) .none kV1 dc1 pm1 an1 cd1 ct1), sl1⟩)
    (c1 : PySem.W.codeIn K cd1 "is_house" = true)
    (k1 : PySem.W.keepIn K (.ref f1) = true)
    (a2 : PySem.W.nsIn K mainGlobals "is_owners" = some (some (.ref f2)))
    (l2 : K.lookup f2 = some ⟨oc2, od2, .func (PySem.W.fnOf "is_owners" "is_owners" (defArgs K19.s_is_owners) (defBody K19.s_is_owners) (defScope K19.s_is_owners) .none kV2 dc2 pm2 an2 cd2 ct2), sl2⟩)
    (c2 : PySem.W.codeIn K cd2 "is_owners" = true)
    (k2 : PySem.W.keepIn K (.ref f2) = true)
    (a3 : PySem.W.nsIn K mainGlobals "is_edition" = some (some (.ref f3)))
    (l3 : K.lookup f3 = some ⟨oc3, od3, .func (PySem.W.fnOf "is_edition" "is_edition" (defArgs K19.s_is_edition) (defBody K19.s_is_edition) (defScope K19.s_is_edition) .none kV3 dc3 pm3 an3 cd3 ct3), sl3⟩)
    (c3 : PySem.W.codeIn K cd3 "is_edition" = true)
    (k3 : PySem.W.keepIn K (.ref f3) = true)
    (a4 : PySem.W.nsIn K mainGlobals "check_edition" = some (some (.ref f4)))
    (l4 : K.lookup f4 = some ⟨oc4, od4, .func (PySem.W.fnOf "check_edition" "check_edition" (defArgs K19.s_check_edition) (defBody K19.s_check_edition) (defScope K19.s_check_edition) .none kV4 dc4 pm4 an4 cd4 ct4), sl4⟩)
    (c4 : PySem.W.codeIn K cd4 "check_edition" = true)
    (k4 : PySem.W.keepIn K (.ref f4) = true)
    (a5 : PySem.W.nsIn K mainGlobals "is_plain" = some (some (.ref f5)))
    (l5 : K.lookup f5 = some ⟨oc5, od5, .func (PySem.W.fnOf "is_plain" "is_plain" (defArgs K19.s_is_plain) (defBody K19.s_is_plain) (defScope K19.s_is_plain) .none kV5 dc5 pm5 an5 cd5 ct5), sl5⟩)
    (c5 : PySem.W.codeIn K cd5 "is_plain" = true)
    (k5 : PySem.W.keepIn K (.ref f5) = true)
    (a6 : PySem.W.nsIn K mainGlobals "written" = some (some (.ref f6)))
    (l6 : K.lookup f6 = some ⟨oc6, od6, .func (PySem.W.fnOf "written" "written" (defArgs K19.s_written) (defBody K19.s_written) (defScope K19.s_written) .none kV6 dc6 pm6 an6 cd6 ct6), sl6⟩)
    (c6 : PySem.W.codeIn K cd6 "written" = true)
    (k6 : PySem.W.keepIn K (.ref f6) = true)
    (a7 : PySem.W.nsIn K mainGlobals "read" = some (some (.ref f7)))
    (l7 : K.lookup f7 = some ⟨oc7, od7, .func (PySem.W.fnOf "read" "read" (defArgs K19.s_read) (defBody K19.s_read) (defScope K19.s_read) .none kV7 dc7 pm7 an7 cd7 ct7), sl7⟩)
    (c7 : PySem.W.codeIn K cd7 "read" = true)
    (k7 : PySem.W.keepIn K (.ref f7) = true)
    (a8 : PySem.W.nsIn K mainGlobals "can_stand" = some (some (.ref f8)))
    (l8 : K.lookup f8 = some ⟨oc8, od8, .func (PySem.W.fnOf "can_stand" "can_stand" (defArgs K19.s_can_stand) (defBody K19.s_can_stand) (defScope K19.s_can_stand) .none kV8 dc8 pm8 an8 cd8 ct8), sl8⟩)
    (c8 : PySem.W.codeIn K cd8 "can_stand" = true)
    (k8 : PySem.W.keepIn K (.ref f8) = true)
    (a9 : PySem.W.nsIn K mainGlobals "_law_begun" = some (some (.ref f9)))
    (l9 : K.lookup f9 = some ⟨oc9, od9, .func (PySem.W.fnOf "_law_begun" "_law_begun" (defArgs K19.s__law_begun) (defBody K19.s__law_begun) (defScope K19.s__law_begun) .none kV9 dc9 pm9 an9 cd9 ct9), sl9⟩)
    (c9 : PySem.W.codeIn K cd9 "_law_begun" = true)
    (k9 : PySem.W.keepIn K (.ref f9) = true)
    (a10 : PySem.W.nsIn K mainGlobals "_law_take" = some (some (.ref f10)))
    (l10 : K.lookup f10 = some ⟨oc10, od10, .func (PySem.W.fnOf "_law_take" "_law_take" (defArgs K19.s__law_take) (defBody K19.s__law_take) (defScope K19.s__law_take) .none kV10 dc10 pm10 an10 cd10 ct10), sl10⟩)
    (c10 : PySem.W.codeIn K cd10 "_law_take" = true)
    (k10 : PySem.W.keepIn K (.ref f10) = true)
    (a11 : PySem.W.nsIn K mainGlobals "_law_alike" = some (some (.ref f11)))
    (l11 : K.lookup f11 = some ⟨oc11, od11, .func (PySem.W.fnOf "_law_alike" "_law_alike" (defArgs K19.s__law_alike) (defBody K19.s__law_alike) (defScope K19.s__law_alike) .none kV11 dc11 pm11 an11 cd11 ct11), sl11⟩)
    (c11 : PySem.W.codeIn K cd11 "_law_alike" = true)
    (k11 : PySem.W.keepIn K (.ref f11) = true)
    (a12 : PySem.W.nsIn K mainGlobals "_law_class" = some (some (.ref f12)))
    (l12 : K.lookup f12 = some ⟨oc12, od12, .func (PySem.W.fnOf "_law_class" "_law_class" (defArgs K19c.s__law_class) (defBody K19c.s__law_class) (defScope K19c.s__law_class) .none kV12 dc12 pm12 an12 cd12 ct12), sl12⟩)
    (c12 : PySem.W.codeIn K cd12 "_law_class" = true)
    (k12 : PySem.W.keepIn K (.ref f12) = true)
    (a13 : PySem.W.nsIn K mainGlobals "_law_told" = some (some (.ref f13)))
    (l13 : K.lookup f13 = some ⟨oc13, od13, .func (PySem.W.fnOf "_law_told" "_law_told" (defArgs K19c.s__law_told) (defBody K19c.s__law_told) (defScope K19c.s__law_told) .none kV13 dc13 pm13 an13 cd13 ct13), sl13⟩)
    (c13 : PySem.W.codeIn K cd13 "_law_told" = true)
    (k13 : PySem.W.keepIn K (.ref f13) = true)
    (a14 : PySem.W.nsIn K mainGlobals "_law_all" = some (some (.ref f14)))
    (l14 : K.lookup f14 = some ⟨oc14, od14, .func (PySem.W.fnOf "_law_all" "_law_all" (defArgs K19c.s__law_all) (defBody K19c.s__law_all) (defScope K19c.s__law_all) .none kV14 dc14 pm14 an14 cd14 ct14), sl14⟩)
    (c14 : PySem.W.codeIn K cd14 "_law_all" = true)
    (k14 : PySem.W.keepIn K (.ref f14) = true)
    (aL : PySem.W.nsIn K mainGlobals "law" = some (some (.ref fL)))
    (lL : K.lookup fL = some ⟨ocL, odL, .func (PySem.W.fnOf "law" "law" (defArgs s_law) (defBody s_law) (defScope s_law) .none kVL dcL pmL anL (.ref cA) ctL), slL⟩)
    (cL : PySem.W.codeIn K (.ref cA) "law" = true)
    (kC : K.lookup cA = some ⟨eC, dC, .fields vsC, slC⟩)
    (vC : vsC[11]? = some (.ref Pt))
    (hC : PySem.W.codeHdIn K cA Pt = true)
    (nC : K.lookup Pt = none)
    (aCBadHouse : PySem.W.nsIn K mainGlobals "BadHouse" = some (some (.ref CBadHouse)))
    (aCKnown : PySem.W.nsIn K mainGlobals "Known" = some (some (.ref CKnown)))
    (aCNoHouse : PySem.W.nsIn K mainGlobals "NoHouse" = some (some (.ref CNoHouse)))
    (aCTooMany : PySem.W.nsIn K mainGlobals "TooMany" = some (some (.ref CTooMany)))
    (aCLastHouse : PySem.W.nsIn K mainGlobals "LastHouse" = some (some (.ref CLastHouse)))
    (aCBadAsker : PySem.W.nsIn K mainGlobals "BadAsker" = some (some (.ref CBadAsker)))
    (aCBadEdition : PySem.W.nsIn K mainGlobals "BadEdition" = some (some (.ref CBadEdition)))
    (aCBadAsk : PySem.W.nsIn K mainGlobals "BadAsk" = some (some (.ref CBadAsk)))
    (aCBusy : PySem.W.nsIn K mainGlobals "Busy" = some (some (.ref CBusy)))
    (aCNoLetter : PySem.W.nsIn K mainGlobals "NoLetter" = some (some (.ref CNoLetter)))
    (aCBadCount : PySem.W.nsIn K mainGlobals "BadCount" = some (some (.ref CBadCount)))
    (aCBadText : PySem.W.nsIn K mainGlobals "BadText" = some (some (.ref CBadText)))
    (aCDrainError : PySem.W.nsIn K mainGlobals "DrainError" = some (some (.ref CDrainError)))
    (ktBadHouse : PySem.W.kitOne K (.ref CBadEdition) (.ref CBadHouse) = some false)
    (ktKnown : PySem.W.kitOne K (.ref CBadEdition) (.ref CKnown) = some false)
    (ktNoHouse : PySem.W.kitOne K (.ref CBadEdition) (.ref CNoHouse) = some false)
    (ktTooMany : PySem.W.kitOne K (.ref CBadEdition) (.ref CTooMany) = some false)
    (ktLastHouse : PySem.W.kitOne K (.ref CBadEdition) (.ref CLastHouse) = some false)
    (ktBadAsker : PySem.W.kitOne K (.ref CBadEdition) (.ref CBadAsker) = some false)
    (ktBadEdition : PySem.W.kitOne K (.ref CBadEdition) (.ref CBadEdition) = some true)
    (ktBadAsk : PySem.W.kitOne K (.ref CBadEdition) (.ref CBadAsk) = some false)
    (ktBusy : PySem.W.kitOne K (.ref CBadEdition) (.ref CBusy) = some false)
    (ktNoLetter : PySem.W.kitOne K (.ref CBadEdition) (.ref CNoLetter) = some false)
    (ktBadCount : PySem.W.kitOne K (.ref CBadEdition) (.ref CBadCount) = some false)
    (ktBadText : PySem.W.kitOne K (.ref CBadEdition) (.ref CBadText) = some false)
    (ktV : PySem.W.kitOne K (.ref CBadEdition) (.type "ValueError") = some true)
    (echg : PySem.W.findIn K (.ref CBadEdition) "__getattribute__" = some (some (.builtin "BaseException.__getattribute__")))
    (echk : PySem.W.findIn K (.ref CBadEdition) "__getattr__" = some none)
    (echs : PySem.W.subIn K (.ref CBadEdition) (.type "BaseException") = some true)
    (echd : PySem.W.hasDictIn K CBadEdition = true)
    (echa : PySem.W.findIn K (.ref CBadEdition) "__class__" = some (some (.builtin "object.__class__")))
    (echn : PySem.W.specialIn K (.builtin "object.__class__") "__get__" = some (some (.builtin "getset_descriptor.__get__")))
    (echt : PySem.W.takesIn K (.builtin "object.__class__") = some true)
    (echm : PySem.W.mroIn K CBadEdition (.type "object") = some true)
    (hex : PySem.W.exmOne K (.ref CBadEdition) (.ref CDrainError) = some true)
    (xB : PySem.W.excIn K CBadEdition [.type "ValueError", .type "Exception", .type "BaseException", .type "object"] "ValueError.__new__" = true)
    (kpB : PySem.W.keepIn K (.ref CBadEdition) = true)
    (etB : PySem.W.typeIn K (.ref CBadEdition) = some (.type "type"))
    (vSLOTS : PySem.W.nsIn K mainGlobals "SLOTS" = some (some (.int (12) tkSLOTS)))
    (vLAST_NAME : PySem.W.nsIn K mainGlobals "LAST_NAME" = some (some (.int (19) tkLAST_NAME)))
    (vLAST_NUMBER : PySem.W.nsIn K mainGlobals "LAST_NUMBER" = some (some (.int (1000000) tkLAST_NUMBER)))
    (vMOST_FIGURES : PySem.W.nsIn K mainGlobals "MOST_FIGURES" = some (some (.int (7) tkMOST_FIGURES)))
    (vNO_MAKE : PySem.W.nsIn K mainGlobals "NO_MAKE" = some (some (.str ("-") tkNO_MAKE)))
    (vMAKE_PLACE : PySem.W.nsIn K mainGlobals "MAKE_PLACE" = some (some (.int (1) tkMAKE_PLACE)))
    (vFIRST_OWNER : PySem.W.nsIn K mainGlobals "FIRST_OWNER" = some (some (.int (2) tkFIRST_OWNER)))
    (vWORDS : PySem.W.nsIn K mainGlobals "WORDS" = some (some (.int (14) tkWORDS)))
    (zValueError : PySem.W.nsIn K mainGlobals "ValueError" = some none)
    (zall : PySem.W.nsIn K mainGlobals "all" = some none)
    (zbool : PySem.W.nsIn K mainGlobals "bool" = some none)
    (zint : PySem.W.nsIn K mainGlobals "int" = some none)
    (zisinstance : PySem.W.nsIn K mainGlobals "isinstance" = some none)
    (zlen : PySem.W.nsIn K mainGlobals "len" = some none)
    (zlist : PySem.W.nsIn K mainGlobals "list" = some none)
    (zrange : PySem.W.nsIn K mainGlobals "range" = some none)
    (zstr : PySem.W.nsIn K mainGlobals "str" = some none)
    (ztuple : PySem.W.nsIn K mainGlobals "tuple" = some none)
    : LawAtS l w K CX0 11 63 "_law_script" mg fa h := by
  have e := hfa.symm.trans (PySem.W.mg_of X G aL)
  cases e
  have F0 := fun_mk (st := K19.s_is_within) l0 c0 k0
  have F1 := fun_mk (st := K19.s_is_house) l1 c1 k1
  have F2 := fun_mk (st := K19.s_is_owners) l2 c2 k2
  have F3 := fun_mk (st := K19.s_is_edition) l3 c3 k3
  have F4 := fun_mk (st := K19.s_check_edition) l4 c4 k4
  have F5 := fun_mk (st := K19.s_is_plain) l5 c5 k5
  have F6 := fun_mk (st := K19.s_written) l6 c6 k6
  have F7 := fun_mk (st := K19.s_read) l7 c7 k7
  have F8 := fun_mk (st := K19.s_can_stand) l8 c8 k8
  have F9 := fun_mk (st := K19.s__law_begun) l9 c9 k9
  have F10 := fun_mk (st := K19.s__law_take) l10 c10 k10
  have F11 := fun_mk (st := K19.s__law_alike) l11 c11 k11
  have F12 := fun_mk (st := K19c.s__law_class) l12 c12 k12
  have F13 := fun_mk (st := K19c.s__law_told) l13 c13 k13
  have F14 := fun_mk (st := K19c.s__law_all) l14 c14 k14
  let TB : K19.Txt K mg := {
    n_all := PySem.W.mg_none_of X G zall
    n_bool := PySem.W.mg_none_of X G zbool
    n_int := PySem.W.mg_none_of X G zint
    n_isinstance := PySem.W.mg_none_of X G zisinstance
    n_len := PySem.W.mg_none_of X G zlen
    n_list := PySem.W.mg_none_of X G zlist
    n_range := PySem.W.mg_none_of X G zrange
    n_str := PySem.W.mg_none_of X G zstr
    n_tuple := PySem.W.mg_none_of X G ztuple
    t_SLOTS := tkSLOTS
    c_SLOTS := PySem.W.mg_of X G vSLOTS
    t_LAST_NAME := tkLAST_NAME
    c_LAST_NAME := PySem.W.mg_of X G vLAST_NAME
    t_LAST_NUMBER := tkLAST_NUMBER
    c_LAST_NUMBER := PySem.W.mg_of X G vLAST_NUMBER
    t_MOST_FIGURES := tkMOST_FIGURES
    c_MOST_FIGURES := PySem.W.mg_of X G vMOST_FIGURES
    t_NO_MAKE := tkNO_MAKE
    c_NO_MAKE := PySem.W.mg_of X G vNO_MAKE
    t_MAKE_PLACE := tkMAKE_PLACE
    c_MAKE_PLACE := PySem.W.mg_of X G vMAKE_PLACE
    t_FIRST_OWNER := tkFIRST_OWNER
    c_FIRST_OWNER := PySem.W.mg_of X G vFIRST_OWNER
    t_WORDS := tkWORDS
    c_WORDS := PySem.W.mg_of X G vWORDS
    a_is_within := f0
    d_is_within := _
    F_is_within := F0
    b_is_within := F0.binds (ps := ["value", "least", "most"]) fun _ _ _ _ _ _ us hl => match us, hl with | [_, _, _], _ => rfl
    m_is_within := PySem.W.mg_of X G a0
    a_is_house := f1
    d_is_house := _
    F_is_house := F1
    b_is_house := F1.binds (ps := ["value"]) fun _ _ _ _ _ _ us hl => match us, hl with | [_], _ => rfl
    m_is_house := PySem.W.mg_of X G a1
    a_is_owners := f2
    d_is_owners := _
    F_is_owners := F2
    b_is_owners := F2.binds (ps := ["value"]) fun _ _ _ _ _ _ us hl => match us, hl with | [_], _ => rfl
    m_is_owners := PySem.W.mg_of X G a2
    a_is_edition := f3
    d_is_edition := _
    F_is_edition := F3
    b_is_edition := F3.binds (ps := ["value"]) fun _ _ _ _ _ _ us hl => match us, hl with | [_], _ => rfl
    m_is_edition := PySem.W.mg_of X G a3
    a_check_edition := f4
    d_check_edition := _
    F_check_edition := F4
    b_check_edition := F4.binds (ps := ["edition"]) fun _ _ _ _ _ _ us hl => match us, hl with | [_], _ => rfl
    m_check_edition := PySem.W.mg_of X G a4
    a_is_plain := f5
    d_is_plain := _
    F_is_plain := F5
    b_is_plain := F5.binds (ps := ["word"]) fun _ _ _ _ _ _ us hl => match us, hl with | [_], _ => rfl
    m_is_plain := PySem.W.mg_of X G a5
    a_written := f6
    d_written := _
    F_written := F6
    b_written := F6.binds (ps := ["edition"]) fun _ _ _ _ _ _ us hl => match us, hl with | [_], _ => rfl
    m_written := PySem.W.mg_of X G a6
    a_read := f7
    d_read := _
    F_read := F7
    b_read := F7.binds (ps := ["text"]) fun _ _ _ _ _ _ us hl => match us, hl with | [_], _ => rfl
    m_read := PySem.W.mg_of X G a7
    a_can_stand := f8
    d_can_stand := _
    F_can_stand := F8
    b_can_stand := F8.binds (ps := ["word", "place"]) fun _ _ _ _ _ _ us hl => match us, hl with | [_, _], _ => rfl
    m_can_stand := PySem.W.mg_of X G a8
    a__law_begun := f9
    d__law_begun := _
    F__law_begun := F9
    b__law_begun := F9.binds (ps := ["_law_script"]) fun _ _ _ _ _ _ us hl => match us, hl with | [_], _ => rfl
    m__law_begun := PySem.W.mg_of X G a9
    a__law_take := f10
    d__law_take := _
    F__law_take := F10
    b__law_take := F10.binds (ps := ["_law_box", "_law_many"]) fun _ _ _ _ _ _ us hl => match us, hl with | [_, _], _ => rfl
    m__law_take := PySem.W.mg_of X G a10
    a__law_alike := f11
    d__law_alike := _
    F__law_alike := F11
    b__law_alike := F11.binds (ps := ["_law_found", "_law_due"]) fun _ _ _ _ _ _ us hl => match us, hl with | [_, _], _ => rfl
    m__law_alike := PySem.W.mg_of X G a11
  }
  let TX : K19x.Txt K mg := {
    n_all := PySem.W.mg_none_of X G zall
    n_bool := PySem.W.mg_none_of X G zbool
    n_int := PySem.W.mg_none_of X G zint
    n_isinstance := PySem.W.mg_none_of X G zisinstance
    n_len := PySem.W.mg_none_of X G zlen
    n_str := PySem.W.mg_none_of X G zstr
    n_tuple := PySem.W.mg_none_of X G ztuple
    t_SLOTS := tkSLOTS
    c_SLOTS := PySem.W.mg_of X G vSLOTS
    t_LAST_NAME := tkLAST_NAME
    c_LAST_NAME := PySem.W.mg_of X G vLAST_NAME
    t_LAST_NUMBER := tkLAST_NUMBER
    c_LAST_NUMBER := PySem.W.mg_of X G vLAST_NUMBER
    t_MOST_FIGURES := tkMOST_FIGURES
    c_MOST_FIGURES := PySem.W.mg_of X G vMOST_FIGURES
    t_NO_MAKE := tkNO_MAKE
    c_NO_MAKE := PySem.W.mg_of X G vNO_MAKE
    t_MAKE_PLACE := tkMAKE_PLACE
    c_MAKE_PLACE := PySem.W.mg_of X G vMAKE_PLACE
    t_FIRST_OWNER := tkFIRST_OWNER
    c_FIRST_OWNER := PySem.W.mg_of X G vFIRST_OWNER
    t_WORDS := tkWORDS
    c_WORDS := PySem.W.mg_of X G vWORDS
    C_BadEdition := CBadEdition
    k_BadEdition := aCBadEdition
    g_BadEdition := PySem.W.mg_of X G aCBadEdition
    x_BadEdition := xB
    kp_BadEdition := kpB
    eb_BadEdition := echs
    et_BadEdition := etB
    a_is_within := f0
    d_is_within := _
    F_is_within := fun_mk (st := K19x.s_is_within) l0 c0 k0
    b_is_within := F0.binds (ps := ["value", "least", "most"]) fun _ _ _ _ _ _ us hl => match us, hl with | [_, _, _], _ => rfl
    m_is_within := PySem.W.mg_of X G a0
    a_is_house := f1
    d_is_house := _
    F_is_house := fun_mk (st := K19x.s_is_house) l1 c1 k1
    b_is_house := F1.binds (ps := ["value"]) fun _ _ _ _ _ _ us hl => match us, hl with | [_], _ => rfl
    m_is_house := PySem.W.mg_of X G a1
    a_is_owners := f2
    d_is_owners := _
    F_is_owners := fun_mk (st := K19x.s_is_owners) l2 c2 k2
    b_is_owners := F2.binds (ps := ["value"]) fun _ _ _ _ _ _ us hl => match us, hl with | [_], _ => rfl
    m_is_owners := PySem.W.mg_of X G a2
    a_is_edition := f3
    d_is_edition := _
    F_is_edition := fun_mk (st := K19x.s_is_edition) l3 c3 k3
    b_is_edition := F3.binds (ps := ["value"]) fun _ _ _ _ _ _ us hl => match us, hl with | [_], _ => rfl
    m_is_edition := PySem.W.mg_of X G a3
    a_check_edition := f4
    d_check_edition := _
    F_check_edition := fun_mk (st := K19x.s_check_edition) l4 c4 k4
    b_check_edition := F4.binds (ps := ["edition"]) fun _ _ _ _ _ _ us hl => match us, hl with | [_], _ => rfl
    m_check_edition := PySem.W.mg_of X G a4
    a_written := f6
    d_written := _
    F_written := fun_mk (st := K19x.s_written) l6 c6 k6
    b_written := F6.binds (ps := ["edition"]) fun _ _ _ _ _ _ us hl => match us, hl with | [_], _ => rfl
    m_written := PySem.W.mg_of X G a6
  }
  let TE : TxtE K mg := {
    n_isinstance := PySem.W.mg_none_of X G zisinstance
    n_ValueError := PySem.W.mg_none_of X G zValueError
    C_BadHouse := CBadHouse
    g_BadHouse := PySem.W.mg_of X G aCBadHouse
    C_Known := CKnown
    g_Known := PySem.W.mg_of X G aCKnown
    C_NoHouse := CNoHouse
    g_NoHouse := PySem.W.mg_of X G aCNoHouse
    C_TooMany := CTooMany
    g_TooMany := PySem.W.mg_of X G aCTooMany
    C_LastHouse := CLastHouse
    g_LastHouse := PySem.W.mg_of X G aCLastHouse
    C_BadAsker := CBadAsker
    g_BadAsker := PySem.W.mg_of X G aCBadAsker
    C_BadEdition := CBadEdition
    g_BadEdition := PySem.W.mg_of X G aCBadEdition
    C_BadAsk := CBadAsk
    g_BadAsk := PySem.W.mg_of X G aCBadAsk
    C_Busy := CBusy
    g_Busy := PySem.W.mg_of X G aCBusy
    C_NoLetter := CNoLetter
    g_NoLetter := PySem.W.mg_of X G aCNoLetter
    C_BadCount := CBadCount
    g_BadCount := PySem.W.mg_of X G aCBadCount
    C_BadText := CBadText
    g_BadText := PySem.W.mg_of X G aCBadText
    kt_BadHouse := ktBadHouse
    kt_Known := ktKnown
    kt_NoHouse := ktNoHouse
    kt_TooMany := ktTooMany
    kt_LastHouse := ktLastHouse
    kt_BadAsker := ktBadAsker
    kt_BadEdition := ktBadEdition
    kt_BadAsk := ktBadAsk
    kt_Busy := ktBusy
    kt_NoLetter := ktNoLetter
    kt_BadCount := ktBadCount
    kt_BadText := ktBadText
    kt_ValueError := ktV
    ec := ⟨echg, echk, echs, echd, echa, echn, echt, echm⟩
    C_DrainError := CDrainError
    g_DrainError := PySem.W.mg_of X G aCDrainError
    hex := hex
    a__law_class := f12
    d__law_class := _
    F__law_class := F12
    b__law_class := F12.binds (ps := ["_law_e"]) fun _ _ _ _ _ _ us hl => match us, hl with | [_], _ => rfl
    m__law_class := PySem.W.mg_of X G a12
    a__law_told := f13
    d__law_told := _
    F__law_told := F13
    b__law_told := F13.binds (ps := ["_law_work"]) fun _ _ _ _ _ _ us hl => match us, hl with | [_], _ => rfl
    m__law_told := PySem.W.mg_of X G a13
    a__law_all := f14
    d__law_all := _
    F__law_all := F14
    b__law_all := F14.binds (ps := ["_law_works", "_law_due"]) fun _ _ _ _ _ _ us hl => match us, hl with | [_, _], _ => rfl
    m__law_all := PySem.W.mg_of X G a14
  }
  have FL : FunC K "law" "law" s_law fa _ cA := ⟨_, _, _, _, _, _, _, _, rfl, lL, cL⟩
  have hTP := hTE fa hfa cA Pt _ _ _ _ _ _ lL rfl rfl kC vC
  refine ⟨_, [(cA, Pt)], spG [.ref Pt] K 1 (g_law Pt), fun p hp => ?_, fun p hp => ?_, fun p hp => ?_, fun s v => .of_eq rfl, fun H a ns hl _ hT hS => law_spG (tabs := [(Pt, lamQ)]) hS (by simp) (fun p hp => ?_) (DT.law19 (by omega)), fun base _ _ hTB => ok_law TB TE TX aCBadEdition FL (hTB (cA, Pt) (by simp))⟩
  · rw [List.mem_singleton.mp hp]; exact hTP
  · rw [List.mem_singleton.mp hp]; exact nC
  · rw [List.mem_singleton.mp hp]; exact PySem.W.codeHd_of_K X hC
  · rw [List.mem_singleton.mp hp]; exact hT (cA, Pt) (by simp)
end K19c
open PySem PySem.W PyProof.Rows
set_option maxHeartbeats 0 in
theorem PySem.Challenge.cw_drainhouse_k19_editions_written_holds : PySem.Challenge.rw_drainhouse_k19_editions_written.Holds := by
  w_on; o_law; k_head; (case hw => w_witness2)
  k_fill
  refine EndL.walk_ofTab (l := PySem.Challenge.rw_drainhouse_k19_editions_written) (n := 63) (k := 11) (x := "_law_script") (CX := fun _ => L2.CX0) rfl (by decide) rfl ⟨rfl, by decide, by decide⟩ (fun w h Y => PySem.W.km_in_of Y) ?F (fun _ _ _ _ _ h => h)
  case F =>
    intro w mg fa h KX G hmg hTE
    refine' K19c.all_mk KX G hmg (hTE _ (by kernel_rfl)) ?a0 ?l0 ?c0 ?k0 ?a1 ?l1 ?c1 ?k1 ?a2 ?l2 ?c2 ?k2 ?a3 ?l3 ?c3 ?k3 ?a4 ?l4 ?c4 ?k4 ?a5 ?l5 ?c5 ?k5 ?a6 ?l6 ?c6 ?k6 ?a7 ?l7 ?c7 ?k7 ?a8 ?l8 ?c8 ?k8 ?a9 ?l9 ?c9 ?k9 ?a10 ?l10 ?c10 ?k10 ?a11 ?l11 ?c11 ?k11 ?a12 ?l12 ?c12 ?k12 ?a13 ?l13 ?c13 ?k13 ?a14 ?l14 ?c14 ?k14 ?aL ?lL ?cL ?kC ?vC ?hC ?nC ?aCBadHouse ?aCKnown ?aCNoHouse ?aCTooMany ?aCLastHouse ?aCBadAsker ?aCBadEdition ?aCBadAsk ?aCBusy ?aCNoLetter ?aCBadCount ?aCBadText ?aCDrainError ?ktBadHouse ?ktKnown ?ktNoHouse ?ktTooMany ?ktLastHouse ?ktBadAsker ?ktBadEdition ?ktBadAsk ?ktBusy ?ktNoLetter ?ktBadCount ?ktBadText ?ktV ?echg ?echk ?echs ?echd ?echa ?echn ?echt ?echm ?hex ?xB ?kpB ?etB ?vSLOTS ?vLAST_NAME ?vLAST_NUMBER ?vMOST_FIGURES ?vNO_MAKE ?vMAKE_PLACE ?vFIRST_OWNER ?vWORDS ?zValueError ?zall ?zbool ?zint ?zisinstance ?zlen ?zlist ?zrange ?zstr ?ztuple
    (case a0 => k_is)
    (case l0 => k_is)
    (case c0 => k_is)
    (case k0 => k_is)
    (case a1 => k_is)
    (case l1 => k_is)
    (case c1 => k_is)
    (case k1 => k_is)
    (case a2 => k_is)
    (case l2 => k_is)
    (case c2 => k_is)
    (case k2 => k_is)
    (case a3 => k_is)
    (case l3 => k_is)
    (case c3 => k_is)
    (case k3 => k_is)
    (case a4 => k_is)
    (case l4 => k_is)
    (case c4 => k_is)
    (case k4 => k_is)
    (case a5 => k_is)
    (case l5 => k_is)
    (case c5 => k_is)
    (case k5 => k_is)
    (case a6 => k_is)
    (case l6 => k_is)
    (case c6 => k_is)
    (case k6 => k_is)
    (case a7 => k_is)
    (case l7 => k_is)
    (case c7 => k_is)
    (case k7 => k_is)
    (case a8 => k_is)
    (case l8 => k_is)
    (case c8 => k_is)
    (case k8 => k_is)
    (case a9 => k_is)
    (case l9 => k_is)
    (case c9 => k_is)
    (case k9 => k_is)
    (case a10 => k_is)
    (case l10 => k_is)
    (case c10 => k_is)
    (case k10 => k_is)
    (case a11 => k_is)
    (case l11 => k_is)
    (case c11 => k_is)
    (case k11 => k_is)
    (case a12 => k_is)
    (case l12 => k_is)
    (case c12 => k_is)
    (case k12 => k_is)
    (case a13 => k_is)
    (case l13 => k_is)
    (case c13 => k_is)
    (case k13 => k_is)
    (case a14 => k_is)
    (case l14 => k_is)
    (case c14 => k_is)
    (case k14 => k_is)
    (case aL => k_is)
    (case lL => k_is)
    (case cL => k_is)
    (case kC => k_is)
    (case vC => rfl)
    (case hC => kernel_rfl)
    (case nC => kernel_rfl)
    (case aCBadHouse => k_is)
    (case aCKnown => k_is)
    (case aCNoHouse => k_is)
    (case aCTooMany => k_is)
    (case aCLastHouse => k_is)
    (case aCBadAsker => k_is)
    (case aCBadEdition => k_is)
    (case aCBadAsk => k_is)
    (case aCBusy => k_is)
    (case aCNoLetter => k_is)
    (case aCBadCount => k_is)
    (case aCBadText => k_is)
    (case aCDrainError => k_is)
    (case ktBadHouse => kernel_rfl)
    (case ktKnown => kernel_rfl)
    (case ktNoHouse => kernel_rfl)
    (case ktTooMany => kernel_rfl)
    (case ktLastHouse => kernel_rfl)
    (case ktBadAsker => kernel_rfl)
    (case ktBadEdition => kernel_rfl)
    (case ktBadAsk => kernel_rfl)
    (case ktBusy => kernel_rfl)
    (case ktNoLetter => kernel_rfl)
    (case ktBadCount => kernel_rfl)
    (case ktBadText => kernel_rfl)
    (case ktV => kernel_rfl)
    (case echg => k_is)
    (case echk => k_is)
    (case echs => k_is)
    (case echd => k_is)
    (case echa => k_is)
    (case echn => k_is)
    (case echt => k_is)
    (case echm => k_is)
    (case hex => kernel_rfl)
    (case xB => k_exc)
    (case kpB => k_is)
    (case etB => k_is)
    (case vSLOTS => k_is)
    (case vLAST_NAME => k_is)
    (case vLAST_NUMBER => k_is)
    (case vMOST_FIGURES => k_is)
    (case vNO_MAKE => k_is)
    (case vMAKE_PLACE => k_is)
    (case vFIRST_OWNER => k_is)
    (case vWORDS => k_is)
    (case zValueError => k_is)
    (case zall => k_is)
    (case zbool => k_is)
    (case zint => k_is)
    (case zisinstance => k_is)
    (case zlen => k_is)
    (case zlist => k_is)
    (case zrange => k_is)
    (case zstr => k_is)
    (case ztuple => k_is)
