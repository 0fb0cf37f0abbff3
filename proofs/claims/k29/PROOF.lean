import PyProof.Rows.All
import Wide.All
import OpenK.AllK
import Wide.FinOn
import Lean
import PyProof.EqAt
import PyProof.EqKinds
import PyProof.TupleCall
import PySem.Challenge.RW_putsigns_k29_forms_of_short_rows
open PySem.W renaming Frag → aaa, findIn → aac, keepIn → aad, Looks → aae
open List renaming range → aab
set_option Elab.async false
set_option linter.all false
set_option maxRecDepth 100000
namespace L2
open PySem PySem.Spec PyProof.Rows
abbrev Key:=Sum Int Str
def ax:Key→Value→Bool
  | .inl k,v=>Value.isInt k v
  | .inr x,v=>Value.isStrOf x v
def aI (w:World):Key→Int
  | .inl k=>hashInt k
  | .inr x=>hashStr w x
def aa (prog:Program) (w:World):PySem.KeyKind prog w Key where
  is:=ax
  hash:=aI w
  inj:=fun v a b ha hb=>by
    rcases keyIs_shape ha with ⟨i,t,rfl,rfl⟩|⟨x,t,rfl,rfl⟩
    · rcases keyIs_shape hb with ⟨j,u,rfl,e⟩|⟨y,u,rfl,e⟩
      · injection e with e1 _;rw [e1]
      · exact nomatch e
    · rcases keyIs_shape hb with ⟨j,u,rfl,e⟩|⟨y,u,rfl,e⟩
      · exact nomatch e
      · injection e with e1 _;rw [e1]
  byValue:=fun k v h=>by
    rcases keyIs_shape h with ⟨i,t,rfl,rfl⟩|⟨x,t,rfl,rfl⟩ <;> rfl
  pyHash:=fun hv h=>by
    rcases keyIs_shape hv with ⟨i,t,rfl,rfl⟩|⟨x,t,rfl,rfl⟩
    · exact wpAny_pyHash_int h
    · exact wpAny_pyHash_str h
  eqBool:=fun hu hv h=>by
    rcases keyIs_shape hu with ⟨i,t,rfl,rfl⟩|⟨x,t,rfl,rfl⟩
    · rcases keyIs_shape hv with ⟨j,u,rfl,rfl⟩|⟨y,u,rfl,rfl⟩
      · rw [key_ll] at h;exact wpAny_eqBool_int h
      · rw [key_lr] at h;exact SeqAt.EqAt.int_str i t y u _ _ _ _ h
    · rcases keyIs_shape hv with ⟨j,u,rfl,rfl⟩|⟨y,u,rfl,rfl⟩
      · rw [key_rl] at h;exact SeqAt.EqAt.str_int x t j u _ _ _ _ h
      · rw [key_rr] at h;exact wpAny_eqBool_str h
  «strs»:=fun k x t v h=>by
    rcases keyIs_shape h with ⟨i,u,rfl,e⟩|⟨y,u,rfl,e⟩
    · exact nomatch e
    · injection e with e1 _
      subst e1;cases v <;> rfl
open PySem PySem.Spec PyProof.Rows
inductive V where
  | non|bl (b:Bool)|int (i:Int)|str (x:Str)|byt (b:Array UInt8)|flt (b:UInt64)|ref (a:Addr)|ty (n:String)
  deriving DecidableEq
def ad:V→Value→Prop
  | .non,u=>u=Value.none
  | .bl b,u=>u=Value.bool b
  | .int i,u=>∃ t,u=Value.int i t
  | .str x,u=>∃ t,u=Value.str x t
  | .byt b,u=>∃ t,u=Value.bytes b t
  | .flt b,u=>∃ t,u=Value.float b t
  | .ref a,u=>u=Value.ref a
  | .ty n,u=>u=Value.type n
abbrev ag:List V→List Value→Prop:=Paired ad
def aD:Option V→Option Value→Prop
  | some v,some u=>ad v u
  | none,none=>True
  | _,_=>False
def KV {κ:Type}:List (κ × V)→List (κ × Value)→Prop:=Paired fun (p:κ × V) (q:κ × Value)=>p.1=q.1∧ad p.2 q.2
def kV:Key→V
  | .inl i=>.int i
  | .inr x=>.str x
inductive HO where
  | lst (xs:List V)
  | tup (xs:List V)
  | dK (kvs:List (Key × V))|dT (kvs:List (List Key × V))
  | set (S:Int→Bool) (n:Nat)
  | ins (C dx:Addr) (fs:List (Str × V))
  | own (x:Addr)
  | xd (fs:List (Str × V))
  | met (f x:Addr)
  | rng (lo hi:Int)
  | frz (o:Obj) (u:HO)
  | tbl (ps:Array Value)
  | ext (φ:Heap→Prop)
abbrev Hp:=Addr→Option HO
def upd (H:Hp) (a:Addr) (o:HO):Hp:=fun b=>if b=a then some o else H b
section
variable (P:Program) (w:World)
def ao (H:Hp) (h:Heap) (a:Addr):HO→Prop
  | .lst xs=>xs.length≤sizeLine∧∃ (its:List Value) (n:Nat),ag xs its∧h.get? a=some { cls:=.type "list",data:=.seq its.toArray n }
  | .tup xs=>xs.length≤sizeLine∧∃ its:List Value,ag xs its∧IsTup h a its.toArray
  | .dK kvs=>kvs.length≤sizeLine∧(a == sysModules)=false∧∃ vs,KV kvs vs∧h.DictOf (aa P w) a vs
  | .dT kvs=>kvs.length≤sizeLine∧(a == sysModules)=false∧∃ xs:List (List Key × Addr × Value),
      Paired (fun (p:List Key × V) (q:List Key × Addr × Value)=>p.1=q.1∧H q.2.1=some (.tup (p.1.map kV))∧ad p.2 q.2.2) kvs xs ∧
      ∃ o es ep,h.get? a=some o∧o.ExactDict∧o.data=.dict es ep∧es.toList=xs.map (entryOfKey (tupleKind (aa P w)))∧(xs.map (·.1)).Nodup
  | .set S n=>h.SetOf (intKind P w) a S n
  | .ins C dx fs=>H dx=some (.own a)∧fs.length≤1000∧dx≠a∧h.get? a=some (PySem.W.instObj C dx) ∧
      ∃ mA,h.Ns1 dx mA∧(∀ f,aD (fs.lookup f) (mA f))∧PySem.Within mA (fs.map (·.1))
  | .own _=>∃ o,h.get? a=some o
  | .xd fs=>∃ mA,h.Ns1 a mA∧∀ f,aD (fs.lookup f) (mA f)
  | .rng lo hi=>∃ t u v,h.get? a=some { cls:=.type "range",data:=.fields #[.int lo t,.int hi u,.int 1 v] }
  | .frz o u=>h.get? a=some o∧ao H h a u
  | .tbl ps=>h.get? a=some { cls:=.none,data:=.fields ps }
  | .met f x=>h.get? a=some (PySem.W.methodObj (.ref f) (.ref x))
  | .ext φ=>φ h∧(∃ o,h.get? a=some o)∧∀ h1 h2:Heap,φ h1→(∀ o,h1.get? a=some o→h2.get? a=some o)→φ h2
def HOk (H:Hp) (h:Heap):Prop:=∀ a o,H a=some o→ao P w H h a o
end
section
variable {P:Program} {w:World} {H H':Hp} {h h':Heap} {a:Addr} {o:HO}
end
def Rd (H:Hp) (a:Addr) (u:HO):Prop:=H a=some u∨∃ o,H a=some (.frz o u)
section
variable {P:Program} {w:World} {H:Hp} {h h':Heap} {x e:Addr} {o':HO}
end
structure Un (fs ex:List Addr) (H H':Hp) (h h':Heap):Prop where
  keep:∀ b o,h.get? b=some o→H b=none→b∉fs→b∉ex→h'.get? b=some o
  slot:∀ b o,h.get? b=some o→H b=none→b∈fs→b∉ex→∃ sl,h'.get? b=some { o with slots:=sl }
  free:∀ b o,h.get? b=some o→H b=none→b∉ex→H' b=none
  there:∀ b o,h.get? b=some o→b∉ex→∃ o',h'.get? b=some o'
  tups:∀ b xs,H b=some (.tup xs)→H' b=some (.tup xs)
  frzs:∀ b o u,H b=some (.frz o u)→H' b=some (.frz o u)
  tbls:∀ b ps,H b=some (.tbl ps)→∃ more,H' b=some (.tbl (ps++more))
section
variable {fs fs' ex ex':List Addr} {H H1 H2:Hp} {h h1 h2 h':Heap} {a x e:Addr} {o:HO}
end
def aj (g h:Heap) (L:Addr):List (Addr × Obj):=(aab h.objs.size).filterMap fun a=>if a=L∨(g.get? a).isSome=true then none else (h.get? a).map fun o=>(a,o)
def aw (g h:Heap) (L d:Addr):List (Addr × Obj):=(aj g h L).filter fun p=>decide (p.1≠d)
open PySem PySem.Spec PyProof.Rows
structure Mod (K:aaa) (mg:Str→Option Value) (base:Heap):Prop where
  kin:K.In base
  glob:base.Ns mainGlobals mg
  blt:∃ mb,base.Ns builtinsNs mb∧∀ x:Str,x ≠ "__name__"→mb x=bootBuiltins x
  nolimit:base.NoLimit
  sysm:∃ mm,base.Ns sysModules mm
structure Cx where
  prog:Program
  w:World
  K:aaa
  mg:Str→Option Value
  base:Heap
  A:Around
  N:List Str
  s₀:Shared
  H₀:Hp
  env:Env
  outer:List Env
  stack:List Env
  ex:List Addr
  fn:Str→Bool
  calm:Bool
  pn:List (Addr × Obj)
  xe:Value→Shared→Prop
def frs (l:List Env):List Addr:=l.filterMap (·.frame)
abbrev Cx.fs (X:Cx):List Addr:=frs X.outer
def Vis (sc:Scope) (x:Str):Prop:=sc.names.lookup x=some .local∨sc.names.lookup x=some .cell∨sc.names.lookup x=some .free
def aO (env:Env) (h:Heap) (m:Str→Option Value) (x:Str) (u:Value):Prop :=
  (env.kindOf x=some .local∧m x=some u)∨((env.kindOf x=some .cell∨env.kindOf x=some .free)∧∃ c,env.cells.lookup x=some c∧h.IsCell c (some u))
structure Cx.Ok (X:Cx):Prop where
  mod:Mod X.K X.mg X.base
  kind:X.env.scope.kind=.function
  glob:X.env.globals=mainGlobals
  blt:X.env.builtins=builtinsNs
  above:X.s₀.heap.objs.size≤X.env.locals
  inj:∀ x y c,X.env.cells.lookup x=some c→X.env.cells.lookup y=some c→x=y
  has:∀ x,(X.env.kindOf x=some .cell∨X.env.kindOf x=some .free)→∃ c,X.env.cells.lookup x=some c
  cab:∀ x c,X.fn x=true→X.env.cells.lookup x=some c→X.s₀.heap.objs.size≤c
  hd:X.calm=true→X.A.handled=none
  frames:X.A.frames=some X.stack
  stk:X.stack=X.outer∨(X.stack=X.env :: X.outer∧X.env.frame=some X.env.locals)
  exf:∀ b∈X.ex,b≠X.env.locals∧∀ x c,X.env.cells.lookup x=some c→c≠b
  bs:∀ b o,X.base.get? b=some o→X.s₀.heap.get? b=some o∧X.H₀ b=none
  bsz:X.base.objs.size≤X.s₀.heap.objs.size
  noex:∀ b o,X.base.get? b=some o→b∉X.ex
  exfs:∀ b∈X.ex,b∉X.fs
  funs:X.s₀.heap.FunFrames X.base X.outer
  frf:∀ b∈X.fs,X.H₀ b=none
structure Inv (X:Cx) (pins:List (Addr × Obj)) (σ:List (Option V)) (H:Hp) (s:Shared):Prop where
  ok:X.Ok
  os:s.os=X.s₀.os
  bare:AllBare s.gens
  base:Un X.fs X.ex X.H₀ H X.s₀.heap s.heap
  loc:∃ m,s.heap.Ns X.env.locals m∧∀ (i:Nat) (x:Str) (v:V),X.N[i]?=some x→σ[i]?=some (some v)→Vis X.env.scope x→∃ u,ad v u∧aO X.env s.heap m x u
  cell:∀ x c,X.env.cells.lookup x=some c→∃ v,s.heap.IsCell c v
  free:H X.env.locals=none
  freeC:∀ x c,X.env.cells.lookup x=some c→H c=none
  pin:∀ p∈X.pn++pins,s.heap.get? p.1=some p.2∧H p.1=none∧p.1≠X.env.locals∧p.1∉X.fs∧∀ v,p.2.data≠.cell v
  hok:HOk X.prog X.w H s.heap
  len:σ.length=X.N.length
section
variable {X:Cx} {pins:List (Addr × Obj)} {σ:List (Option V)} {H H':Hp} {s:Shared} {h':Heap}
end
abbrev XK:=Value→Option Addr→Hp→Prop
abbrev St:=List (Option V)
abbrev VK:=V→Hp→Prop
abbrev TE:=St→Hp→VK→Prop
abbrev TT:=St→Hp→(Bool→Hp→Prop)→Prop
abbrev TA:=St→Hp→(List V→Hp→Prop)→Prop
structure Ends where
  nx:St→Hp→Prop
  rt:VK
  bk:St→Hp→Prop:=fun _ _=>False
  ct:St→Hp→Prop:=fun _ _=>False
abbrev TS:=Ends→St→Hp→Prop
def TP (X:Cx) (pins:List (Addr × Obj)) (σ:St) (Q:Bool→Hp→Prop) (b:Bool) (s':Shared):Prop:=∃ H',Inv X pins σ H' s'∧Q b H'
open PySem PySem.Spec PyProof.Rows
section
variable {X:Cx}
variable {a b:Expr} {ta tb:TE} {pos:Pos}
variable {tA tB':TT} {aw:List Expr}
end
open PySem PySem.Spec PyProof.Rows
def SqL (K:aaa) (H:Hp) (a:Addr) (xs:List V):Prop :=
  Rd H a (.lst xs) ∨
    ∃ (o:Obj) (its:Array Value) (n:Nat),K.lookup a=some o∧o.cls=.type "list"∧o.dict=none∧o.data=.seq its n∧its.size≤sizeLine∧ag xs its.toList
def SqT (K:aaa) (H:Hp) (a:Addr) (xs:List V):Prop :=
  Rd H a (.tup xs) ∨
    ∃ (o:Obj) (its:Array Value) (n:Nat),K.lookup a=some o∧o.cls=.type "tuple"∧o.data=.seq its n∧its.size≤sizeLine∧ag xs its.toList
section
variable {X:Cx} {pins:List (Addr × Obj)} {σ:St} {H:Hp} {s:Shared} {a:Addr} {xs ys:List V}
end
section
variable {X:Cx} {pins:List (Addr × Obj)} {σ:St} {H:Hp} {s:Shared} {E:Value→Shared→Prop}
end
section
variable {X:Cx} {st:Stmt} {aw:List Stmt} {t u:TS} {e:Expr} {te:TE} {pos:Pos}
end
abbrev TG:=V→St→Hp→(St→Hp→Prop)→Prop
def PG (X:Cx) (target:Expr) (t:TG):Prop :=
  ∀ (pins:List (Addr × Obj)) (s:Shared) (σ:St) (H:Hp) (v:V) (u:Value) (Q:St→Hp→Prop),Inv X pins σ H s→ad v u→t v σ H Q →
    wpAny (model X.prog X.w) X.A (assign target X.env u) (fun _ s'=>∃ σ' H',Inv X pins σ' H' s'∧Q σ' H') X.xe s
section
variable {X:Cx} {pos:Pos}
end
section
variable {X:Cx} {pos:Pos}
end
structure It where
  go:Nat→Hp→Prop
  yld:Nat→Hp→V→Hp→Prop
  stop:Nat→Hp→Prop
def au (X:Cx) (pins:List (Addr × Obj)) (H:Hp) (b:Addr):Prop :=
  H b=none∧b≠X.env.locals∧b∉X.fs∧(b∈X.ex∨X.s₀.heap.objs.size≤b)∧(∀ x c,X.env.cells.lookup x=some c→c≠b)∧∀ p∈X.pn++pins,p.1≠b
structure Turn (P:Program) (w:World) (K:aaa) (tg:Expr) (J:It) (fp:List Addr) (it:Addr) (tn:Nat→Heap→Prop):Prop where
  mem:it∈fp
  obj:∀ i h,tn i h→∀ b∈fp,∃ o,h.get? b=some o∧∀ v,o.data≠.cell v
  keep:∀ i h h',tn i h→(∀ b∈fp,∀ o,h.get? b=some o→h'.get? b=some o)→tn i h'
  item:∀ (X:Cx),X.prog=P→X.w=w→X.K=K→X.calm=true→∀ (i:Nat) (pins:List (Addr × Obj)) (s:Shared) (σ:St) (H:Hp) (E:Value→Shared→Prop),Inv X pins σ H s→(∀ b∈fp,au X pins H b)→tn i s.heap→J.go i H →
    wpAny (model P w) X.A (pyNext (.ref it)) (fun r s1=>∃ u,r=some u ∧
      wpAny (model P w) X.A (letOwnedTupleGo tg (.ref it) u) (fun _ s2=>∃ x H',Inv X pins σ H' s2∧ad x u∧J.yld i H x H'∧tn (i+1) s2.heap∧∀ b∈fp,H' b=none) E s1) E s
  done:∀ (X:Cx),X.prog=P→X.w=w→X.K=K→X.calm=true→∀ (i:Nat) (pins:List (Addr × Obj)) (s:Shared) (σ:St) (H:Hp) (E:Value→Shared→Prop),Inv X pins σ H s→(∀ b∈fp,au X pins H b)→tn i s.heap→J.stop i H →
    wpAny (model P w) X.A (pyNext (.ref it)) (fun r s1=>r=none∧Inv X pins σ H s1) E s
  self:∀ (A:Around) (i:Nat) (s:Shared) (Q:Value→Shared→Prop) (E:Value→Shared→Prop),tn i s.heap→Q (.ref it) s→wpAny (model P w) A (pyIter (.ref it)) Q E s
abbrev TI:=St→Hp→(It→Hp→Prop)→Prop
def PIE (X:Cx) (pins:List (Addr × Obj)) (σ:St) (tg:Expr) (R:It→Hp→Prop) (itv:Value) (s2:Shared):Prop :=
  ∃ (it:Addr) (fp:List Addr) (tn:Nat→Heap→Prop) (J:It) (H':Hp),itv=.ref it∧Inv X pins σ H' s2∧Turn X.prog X.w X.K tg J fp it tn∧tn 0 s2.heap∧(∀ b∈fp,au X pins H' b)∧R J H'
def PI (X:Cx) (tg iter:Expr) (wi:TI):Prop :=
  ∀ (pins:List (Addr × Obj)) (s:Shared) (σ:St) (H:Hp) (R:It→Hp→Prop),Inv X pins σ H s→wi σ H R →
    wpAny (model X.prog X.w) X.A (eval iter X.env) (fun v s1=>wpAny (model X.prog X.w) X.A (pyIter v) (PIE X pins σ tg R) X.xe s1) X.xe s
open PySem PySem.Spec PyProof.Rows
section
variable {X:Cx} {tg:Expr}
end
open PySem PySem.Spec PyProof.Rows
section
variable {X:Cx} {a b c:Expr} {ta tb tc:TE} {pos:Pos}
end
section
variable {X:Cx} {a b c:Expr} {ta tb tc:TE} {pos:Pos}
end
open PySem PySem.Spec PyProof.Rows
structure ObjM (h:Heap) (x dx C:Addr) (mA:Str→Option Value):Prop where
  obj:h.get? x=some (PySem.W.instObj C dx)
  ns:h.Ns1 dx mA
  ne:dx≠x
section
variable {prog:Program} {w:World} {A:Around} {E:Value→Shared→Prop} {s:Shared} {K:aaa} {x dx C f:Addr} {mA:Str→Option Value} {name:Str} {v:Value}
end
section
variable {P:Program} {w:World} {H H':Hp} {h h':Heap} {a C dx:Addr} {fs fs':List (Str × V)}
end
structure Cls (K:aaa) (C:Addr):Prop where
  pg:PySem.W.plainGet K C Str.empty=true
  hd:PySem.W.hasDictIn K C=true
  po:PySem.W.plainOver K C=true
  sa:aac K (.ref C) "__setattr__" = some (some (.builtin "object.__setattr__"))
structure Con (K:aaa) (C:Addr) (f:Str) (v:V) (u:Value):Prop where
  at_:aac K (.ref C) f=some (some u)
  rel:ad v u
  get:PySem.W.specialIn K u "__get__" = some none
  cp:PySem.W.copiedNames.contains f=false
structure Meth (K:aaa) (C:Addr) (m:Str) (f:Addr):Prop where
  at_:aac K (.ref C) m=some (some (.ref f))
  fn:PySem.W.isFn K (.ref f)=true
  kp:aad K (.ref f)=true
section
variable {X:Cx} {pins:List (Addr × Obj)} {σ:St} {H:Hp} {s:Shared} {a C dx:Addr} {fs:List (Str × V)} {f:Str} {v:V} {A:Around} {E:Value→Shared→Prop}
end
section
variable {X:Cx} {o e value:Expr} {f:Str} {pos pos' tpos:Pos} {ta tv:TE}
end
section
variable {X:Cx} {pins:List (Addr × Obj)} {σ:St} {H:Hp} {s:Shared} {A:Around} {E:Value→Shared→Prop} {Q:Value→Shared→Prop} {c:Value} {b:Bool}
inductive TyOf (K:aaa) (H:Hp):V→Value→Prop where
  | non:TyOf K H .non (.type "NoneType")
  | bl (x:Bool):TyOf K H (.bl x) (.type "bool")
  | int (i:Int):TyOf K H (.int i) (.type "int")
  | str (x:Str):TyOf K H (.str x) (.type "str")
  | flt (x:UInt64):TyOf K H (.flt x) (.type "float")
  | lst {a:Addr} {xs:List V} (e:H a=some (.lst xs)):TyOf K H (.ref a) (.type "list")
  | frz {a:Addr} {o:Obj} {xs:List V} (e:H a=some (.frz o (.lst xs))):TyOf K H (.ref a) (.type "list")
  | tup {a:Addr} {xs:List V} (e:H a=some (.tup xs)):TyOf K H (.ref a) (.type "tuple")
  | dK {a:Addr} {kvs:List (Key × V)} (e:H a=some (.dK kvs)):TyOf K H (.ref a) (.type "dict")
  | dT {a:Addr} {kvs:List (List Key × V)} (e:H a=some (.dT kvs)):TyOf K H (.ref a) (.type "dict")
  | ins {a C dx:Addr} {fs:List (Str × V)} (e:H a=some (.ins C dx fs)) (cl:Cls K C) (ha:aac K (.ref C) "__class__" = some (some (.builtin "object.__class__")))
      (hn:PySem.W.specialIn K (.builtin "object.__class__") "__get__" = some (some (.builtin "getset_descriptor.__get__"))) (htk:PySem.W.takesIn K (.builtin "object.__class__")=some true)
      (hm:PySem.W.mroIn K C (.type "object")=some true):TyOf K H (.ref a) (.ref C)
end
open PySem PySem.Spec PyProof.Rows
structure Room (k:Nat) (A:Around):Prop where
  hd:A.handled=none
  dp:A.depth+3 * k+5 < recursionLimit
  un:A.units+16 * k+200 < cLine
  gd:A.guards=some []
section
variable {X:Cx} {e:Expr} {es:List Expr} {te:TE} {t:TA} {pos:Pos}
end
abbrev Sp:=List V→Hp→VK→XK→Prop
abbrev CXT:=List Env→Hp→Shared→XK→Value→Shared→Prop
structure Env0 (P:Program) (w:World) (K:aaa) (mg:Str→Option Value) (base:Heap) (A:Around) (outer:List Env) (s:Shared) (H:Hp):Prop where
  frames:A.frames=some outer
  mod:Mod K mg base
  bs:∀ b o,base.get? b=some o→s.heap.get? b=some o∧H b=none
  bsz:base.objs.size≤s.heap.objs.size
  funs:s.heap.FunFrames base outer
  frf:∀ b∈frs outer,H b=none
  hok:HOk P w H s.heap
  bare:AllBare s.gens
def CE (outer:List Env) (P:Program) (w:World) (H:Hp) (s:Shared) (Q:VK) (u:Value) (s':Shared):Prop :=
  ∃ v H',s'.os=s.os∧AllBare s'.gens∧Un (frs outer) [] H H' s.heap s'.heap∧HOk P w H' s'.heap∧ad v u∧Q v H'
def CR (CX:CXT) (outer:List Env) (P:Program) (w:World) (H:Hp) (s:Shared) (Q:VK) (E:XK) (r:Result) (s':Shared):Prop :=
  match r with
  | .ok (.ret u)=>CE outer P w H s Q u s'
  | .ok _=>False
  | .error e=>CX outer H s E e s'
structure FnOk (P:Program) (w:World) (K:aaa) (mg:Str→Option Value) (base:Heap) (CX:CXT) (k:Nat) (f:Addr) (fd:FuncData) (ps:List Str) (sp:Sp):Prop where
  len:∀ vs H Q E,sp vs H Q E→vs.length=ps.length
  run:∀ (A:Around) (outer:List Env) (s:Shared) (H:Hp) (args:Args) (us:List Value) (vs:List V) (Q:VK) (E:XK),Room k A→Env0 P w K mg base A outer s H→BindsTo s fd args (ps.zip us)→ag vs us→sp vs H Q E →
    codeAny (model P w) A (.call (.ref f) args) (CR CX outer P w H s Q E) s
section
variable {X:Cx} {pins:List (Addr × Obj)} {σ:St} {H:Hp} {s s':Shared}
end
section
variable {X:Cx} {CX:CXT} {k:Nat} {f C:Addr} {fd:FuncData} {ps:List Str} {sp:Sp} {dvs:List V} {ds:List Value} {E:XK} {x m:Str} {p pos apos:Pos} {e o:Expr} {es:List Expr} {ta:TE} {t:TA}
structure Mk (K:aaa) (C f:Addr):Prop where
  makes:PySem.W.makesIn K C=true
  init:aac K (.ref C) "__init__" = some (some (.ref f))
  fn:PySem.W.isFn K (.ref f)=true
  kp:aad K (.ref C)=true
end
section
variable {X:Cx} {CX:CXT} {k:Nat} {f C:Addr} {fd:FuncData} {ps ks:List Str} {sp:Sp} {E:XK} {x m:Str} {p pos apos kpos:Pos} {e o:Expr} {es:List Expr} {kws:List Keyword} {te ta:TE} {t tk:TA} {nm:Option Str}
structure KBinds (K:aaa) (fd:FuncData) (ps ks:List Str) (g:List Value→List Value→List Value) (gV:List V→List V→List V):Prop where
  to:∀ (s:Shared) (us ws:List Value),K.In s.heap→(g us ws).length=ps.length→BindsTo s fd ⟨us,ks.zip ws⟩ (ps.zip (g us ws))
  rel:∀ {vs:List V} {us:List Value} {zs:List V} {ws:List Value},ag vs us→ag zs ws→ag (gV vs zs) (g us ws)
variable {g:List Value→List Value→List Value} {gV:List V→List V→List V}
end
structure FnScope (N P:List Str) (sc:Scope):Prop where
  kind:sc.kind=.function
  co:sc.isCoroutine=false
  gen:sc.isGenerator=false
  nd:N.Nodup
  pre:N.take P.length=P
  par:∀ x∈P,sc.names.lookup x=some .local∨sc.names.lookup x=some .cell
  nofree:∀ y∈sc.names,y.2≠.free
open PySem PySem.Spec PyProof.Rows
section
variable {X:Cx} {x:Str} {p pos:Pos} {e:Expr} {es:List Expr} {t:TA} {id T:String} {r:List V→Hp→VK→Prop}
end
end L2
namespace HT
open PySem PyProof.Rows
section
open PySem.SeqAt
open PySem.AutoSeq1 (wpAny_loadPart')
open PySem.MeetsSeq PySem.MeetsSeq2 PySem.MeetsSeq3
end
section
variable {prog:Program} {w:World} {A:Around} {E:Value→Shared→Prop} {s:Shared}
end
end HT
namespace L2
open PySem PySem.Spec PyProof.Rows
abbrev TO:=St→Hp→(Option Int→Hp→Prop)→Prop
section
variable {X:Cx} {e:Expr} {te:TE} {lo hi:Option Expr} {tl th:TO} {pos p2:Pos}
end
open PySem PySem.Spec PyProof.Rows
section
variable {X:Cx} {a b:Expr} {ta tb:TE} {pos:Pos}
def am:V→Bool
  | .non=>true
  | .bl _=>true
  | .int _=>true
  | .str _=>true
  | _=>false
def eqV:V→V→Bool
  | .non,.non=>true
  | .bl a,.bl b=>a == b
  | .bl a,.int b=>(if a then 1 else 0) == b
  | .int a,.bl b=>a == (if b then 1 else 0)
  | .int a,.int b=>a == b
  | .str a,.str b=>a == b
  | _,_=>false
variable {o e:Expr} {es:List Expr} {to:TE} {t:TA} {name:Str} {apos cpos:Pos} {T id:String} {r:V→List V→Hp→VK→Prop}
end
open PySem PySem.Spec PyProof.Rows
section
variable {X:Cx} {pins:List (Addr × Obj)} {σ:St} {H:Hp} {s:Shared} {l b:Addr} {xs ys zs:List V}
end
section
variable {X:Cx}
end
section
variable {prog:Program} {w:World} {A:Around} {E:Value→Shared→Prop} {s:Shared}
end
section
variable {X:Cx}
end
end L2
namespace Att
open PySem PySem.W PySem.Calls PyProof.Rows
section
variable {prog:Program} {w:World} {A:Around} {E:Value→Shared→Prop} {s:Shared} {K:Frag}
end
end Att
namespace L2
open PySem PySem.Spec PyProof.Rows
open PySem PySem.Spec PyProof.Rows
open PySem PySem.Spec PyProof.Rows
def af (s:Stmt):Arguments:=match s with
  | .FunctionDef _ a _ _ _ _ _ _ _ _=>a
  | _=>{ posonlyargs:=[],args:=[],vararg:=none,kwonlyargs:=[],kw_defaults:=[],kwarg:=none,defaults:=[] }
def ae (s:Stmt):List Stmt:=match s with
  | .FunctionDef _ _ b _ _ _ _ _ _ _=>b
  | _=>[]
def ac (s:Stmt):Scope:=match s with
  | .FunctionDef _ _ _ _ _ _ sc _ _ _=>sc
  | _=>{ kind:=.function,names:=[],isGenerator:=false,isCoroutine:=false }
structure Fun (K:aaa) (x qual:Str) (st:Stmt) (f:Addr) (fd:FuncData):Prop where
  ex:∃ (oc:Value) (od:Option Addr) (kV doc pm:Value) (an:Option Addr) (cdv ct:Value) (osl:Array (Option Value)),
    fd=PySem.W.fnOf x qual (af st) (ae st) (ac st) .none kV doc pm an cdv ct∧K.lookup f=some ⟨oc,od,.func fd,osl⟩∧PySem.W.codeIn K cdv qual=true
  kp:aad K (.ref f)=true
section
variable {P:Program} {w:World} {K:aaa} {mg:Str→Option Value} {base:Heap}
end
section
variable {X:Cx}
end
open PySem PySem.Spec PyProof.Rows
section
variable {κ:Type} [DecidableEq κ]
def av (kvs:List (κ × V)) (k:κ):Option V:=(kvs.find? fun kv=>decide (kv.1=k)).map (·.2)
end
section
variable {P:Program} {w:World} {H:Hp} {h:Heap} {a:Addr}
end
section
variable {X:Cx} {pins:List (Addr × Obj)} {σ:St} {H:Hp} {s:Shared} {a:Addr} {y v:V} {u r:Value} {o:Option V} {A:Around} {E:Value→Shared→Prop}
end
section
variable {X:Cx} {pins:List (Addr × Obj)} {σ:St} {H:Hp} {s:Shared} {a:Addr} {kvs:List (Key × V)} {k:Key} {u:Value} {A:Around} {E:Value→Shared→Prop}
end
section
variable {X:Cx} {o i e value:Expr} {pos pos' tpos:Pos} {td ty tv:TE}
end
section
variable {X:Cx} {pos:Pos}
end
structure M1 (X:Cx) (o:Expr) (m:Str) (apos:Pos) (e:Expr) (cpos:Pos):Prop where
  base:attributeBase o m X.env (eval o X.env)=eval o X.env
  few:((backTo cpos (starEach [e] X.env)).all (fun x=>!x.1) && (backToKw cpos (keywordEach [] X.env)).all (fun x=>x.1.isSome)
    && decide (([e]:List Expr).length+([]:List Keyword).length+(if ([]:List Keyword).isEmpty then 0 else 1) < 30))=true
  line:(apos.endLine == cpos.line)=true
  trees:backTo cpos (starEach [e] X.env)=[(false,eval e X.env)]
structure M2 (X:Cx) (o:Expr) (m:Str) (apos:Pos) (e f:Expr) (cpos:Pos):Prop where
  base:attributeBase o m X.env (eval o X.env)=eval o X.env
  few:((backTo cpos (starEach [e,f] X.env)).all (fun x=>!x.1) && (backToKw cpos (keywordEach [] X.env)).all (fun x=>x.1.isSome)
    && decide (([e,f]:List Expr).length+([]:List Keyword).length+(if ([]:List Keyword).isEmpty then 0 else 1) < 30))=true
  line:(apos.endLine == cpos.line)=true
  trees:backTo cpos (starEach [e,f] X.env)=[(false,eval e X.env),(false,eval f X.env)]
section
variable {X:Cx} {pins:List (Addr × Obj)} {σ:St} {H:Hp} {s:Shared} {a:Addr} {y d:V} {u r:Value} {o:Option V} {A:Around} {E:Value→Shared→Prop}
end
section
variable {X:Cx} {o e f:Expr} {apos cpos:Pos} {td ty tx:TE}
end
section
variable {X:Cx} {pins:List (Addr × Obj)} {σ:St} {H:Hp} {s:Shared} {a:Addr} {kvs:List (Key × V)} {A:Around} {E:Value→Shared→Prop}
end
section
variable {X:Cx} {pins:List (Addr × Obj)} {σ:St} {H:Hp} {s:Shared} {a:Addr} {y:V} {u:Value} {A:Around} {E:Value→Shared→Prop}
end
open PySem PySem.Spec PyProof.Rows
section
variable {X:Cx}
end
section
variable {κ:Type} [DecidableEq κ]
end
end L2
set_option maxHeartbeats 4000000
namespace L2
open PySem PySem.Spec PyProof.Rows
def aN (X:Cx) (ifs:List Expr) (t:TT):Prop :=
  ∀ (pins:List (Addr × Obj)) (s:Shared) (σ:St) (H:Hp) (Q:Bool→Hp→Prop),Inv X pins σ H s→t σ H Q →
    wpAny (model X.prog X.w) X.A (forIn ifs true fun c r=>if r=true then do let ok ← isTrue c X.env (eval c X.env);pure (ForInStep.yield ok) else pure (ForInStep.yield r)) (TP X pins σ Q) X.xe s
section
variable {X:Cx} {pins:List (Addr × Obj)} {σ:St} {H2:Hp} {s2:Shared}
variable {E:Env} {fn:Str→Bool} {NY:List Str} {fp:List Addr}
structure BlkC (X:Cx) (s2:Shared) (h₁:Heap) (E:Env) (fn:Str→Bool):Prop where
  kind:E.scope.kind=.function
  glob:E.globals=X.env.globals
  blt:E.builtins=X.env.builtins
  loc:s2.heap.objs.size≤E.locals
  old:∀ b o,s2.heap.get? b=some o→h₁.get? b=some o
  ns:∃ m,h₁.Ns E.locals m
  cell:∀ x c,E.cells.lookup x=some c→(fn x=false∧X.env.cells.lookup x=some c)∨(fn x=true∧s2.heap.objs.size≤c∧c≠E.locals∧h₁.get? c=some { cls:=.type "cell",data:=.cell none }∧∀ y,E.cells.lookup y=some c→y=x)
  has:∀ x,E.kindOf x=some .cell∨E.kindOf x=some .free→∃ c,E.cells.lookup x=some c
variable {h₁:Heap}
end
section
variable {X:Cx}
end
open PySem PySem.Spec PyProof.Rows
section
variable {X:Cx}
end
end L2
namespace Srt
open PySem PySem.W PyProof.Rows
def run {α:Type} (lt:Nat→Nat→Bool):KasT α→α
  | .ret a=>a
  | .ask i j k=>run lt (k (lt i j))
section
variable (key:Nat→Int)
abbrev lt:Nat→Nat→Bool:=fun i j=>decide (key i < key j)
def kp (p:Array Nat) (x:Nat):Int:=key (p.getD x 0)
def Up (p:Array Nat) (m:Nat):Prop:=∀ i j,i < j→j < m→kp key p i < kp key p j
variable {key}
end
end Srt
namespace Srt
open PySem PySem.W PyProof.Rows
def Ent (n:Nat) (p:Array Nat):Prop:=∀ x,p.getD x 0 < n
section
variable {prog:Program} {w:World} {A:Around} {E:Value→Shared→Prop} {s:Shared}
end
end Srt
set_option maxHeartbeats 2000000
namespace L2
open PySem PySem.Spec PyProof.Rows
inductive EqR (K:aaa) (H:Hp):Nat→V→V→Bool→Prop
  | flat {n:Nat} {x y:V} (fx:am x=true) (fy:am y=true):EqR K H n x y (eqV x y)
  | lens {n:Nat} {a b:Addr} {xs ys:List V} (ha:SqL K H a xs) (hb:SqL K H b ys) (hl:xs.length≠ys.length):EqR K H (n+1) (.ref a) (.ref b) false
  | lst {n:Nat} {a b:Addr} {xs ys:List V} {e:Nat→Bool} (ha:SqL K H a xs) (hb:SqL K H b ys) (hl:xs.length=ys.length) (h:∀ (j:Nat) x y,xs[j]?=some x→ys[j]?=some y→EqR K H n x y (e j)):EqR K H (n+1) (.ref a) (.ref b) ((aab xs.length).all e)
  | tup {n:Nat} {a b:Addr} {xs ys:List V} {e:Nat→Bool} (ha:SqT K H a xs) (hb:SqT K H b ys) (h:∀ (j:Nat) x y,xs[j]?=some x→ys[j]?=some y→EqR K H n x y (e j)) :
      EqR K H (n+1) (.ref a) (.ref b) ((aab (min xs.length ys.length)).all e && xs.length == ys.length)
section
variable {X:Cx} {pins:List (Addr × Obj)} {σ:St} {H:Hp} {s:Shared}
end
open PySem PySem.Spec PyProof.Rows
section
variable {X:Cx}
end
open PySem PySem.Spec PyProof.Rows
section
variable {X:Cx} {K:aaa}
end
open PySem PySem.Spec PyProof.Rows
def aJ:Key→PyData
  | .inl i=>.int i
  | .inr x=>.str x
mutual
def Dat (H:Hp):PyData→V→Prop
  | .none,v=>v=.non
  | .bool b,v=>v=.bl b
  | .int i,v=>v=.int i
  | .str x,v=>v=.str x
  | .list ds,v=>∃ a xs,v=.ref a∧H a=some (.lst xs)∧DatAll H ds xs
  | .tuple ds,v=>∃ a xs,v=.ref a∧H a=some (.tup xs)∧DatAll H ds xs
  | .dict kvs,v=>∃ a ks,v=.ref a∧H a=some (.dK ks)∧DatKv H kvs ks
def DatAll (H:Hp):List PyData→List V→Prop
  | [],vs=>vs=[]
  | d :: ds,vs=>∃ v r,vs=v :: r∧Dat H d v∧DatAll H ds r
def DatKv (H:Hp):List (PyData × PyData)→List (Key × V)→Prop
  | [],ks=>ks=[]
  | (k,d) :: r,ks=>∃ q v t,ks=(q,v) :: t∧k=aJ q∧Dat H d v∧DatKv H r t
end
section
variable {X:Cx} {pins:List (Addr × Obj)} {σ:St} {H:Hp} {s:Shared}
end
open PySem PySem.Spec PyProof.Rows
section
variable {X:Cx}
end
open PySem PySem.Spec PyProof.Rows
open PySem PySem.Spec PyProof.Rows
section
variable {prog:Program} {w:World} {κ:Type} [DecidableEq κ] {knd:HeapKind prog w κ} {A:Around} {E:Value→Shared→Prop} {s:Shared}
end
open PySem PySem.Spec PyProof.Rows
section
variable {prog:Program} {w:World} {κ:Type} [DecidableEq κ] {knd:HeapKind prog w κ} {A:Around} {E:Value→Shared→Prop} {s:Shared}
inductive HitsH (A:Around) (s:Shared) (kb:List (κ × Addr × Value)):List (κ × Addr × Value)→Bool→Prop
  | nil:HitsH A s kb [] true
  | miss {k:κ} {a:Addr} {v:Value} {r:List (κ × Addr × Value)}:atKey kb k=none→HitsH A s kb ((k,a,v) :: r) false
  | hit {k:κ} {a c:Addr} {v y:Value} {r:List (κ × Addr × Value)} {e b:Bool}:atKey kb k=some (c,y)→SeqAt.EqAt A s v y e→HitsH A s kb r b→HitsH A s kb ((k,a,v) :: r) (e && b)
end
open PySem PySem.Spec PyProof.Rows
inductive HitsV (K:aaa) (H:Hp) (n:Nat) (kb:List (List Key × V)):List (List Key × V)→Bool→Prop
  | nil:HitsV K H n kb [] true
  | miss {k:List Key} {v:V} {r:List (List Key × V)}:av kb k=none→HitsV K H n kb ((k,v) :: r) false
  | hit {k:List Key} {v y:V} {r:List (List Key × V)} {e b:Bool}:av kb k=some y→EqR K H n v y e→HitsV K H n kb r b→HitsV K H n kb ((k,v) :: r) (e && b)
open PySem PySem.Spec PyProof.Rows
section
variable {prog:Program} {w:World} {κ:Type} [DecidableEq κ] {knd:HeapKind prog w κ} {A:Around} {E:Value→Shared→Prop}
variable {s:Shared}
end
open PySem PySem.Spec PyProof.Rows
section
variable {prog:Program} {w:World} {A:Around} {E:Value→Shared→Prop} {s:Shared}
end
end L2
namespace L2
open PySem PySem.Spec PyProof.Rows PySem.W
section
variable {prog:Program} {w:World} {A:Around} {E:Value→Shared→Prop} {s:Shared}
end
end L2
namespace L2
open PySem PySem.Spec PyProof.Rows
section
variable {prog:Program} {w:World} {A:Around} {E:Value→Shared→Prop} {s:Shared}
end
open PySem PySem.Spec PyProof.Rows
def KD (P:Program) (w:World) (K:aaa) (a:Addr) (kvs:List (Key × V)):Prop :=
  ∃ o es ep vs,K.lookup a=some o∧o.ExactDict∧o.data=.dict es ep∧KeysOf (aa P w) es∧Pairs (aa P w) es.toList vs∧(vs.map (·.1)).Nodup∧KV kvs vs
open PySem PySem.Spec PyProof.Rows
end L2
namespace PySem
open Sem (wp)
namespace F
end F
section
variable {prog:Program} {w:World} {A:Around} {E:Value→Shared→Prop} {h:Heap} {g:Array GenState} {d:Drawn} {t:Nat} {os:OsState} {a:Addr} {vs:Array Value}
end
end PySem
namespace L2
open PySem PySem.Spec PyProof.Rows
section
variable {prog:Program} {w:World} {A:Around} {E:Value→Shared→Prop} {s:Shared}
end
open PySem PySem.Spec PyProof.Rows
open PySem PySem.Spec PyProof.Rows
open PySem PySem.Spec PyProof.Rows
structure PCl (Y:Cx) (c:Comprehension) (r:TI × TG × TT):Prop where
  as:c.is_async=0
  it:PI Y c.target c.iter r.1
  tg:PG Y c.target r.2.1
  fs:aN Y c.ifs r.2.2
  st:∀ E x,foldedSetIterable c.iter E x=pure x
section
variable {X:Cx}
end
section
variable {X:Cx}
end
open PySem PySem.Spec PyProof.Rows
section
variable {M:Model} {A:Around} {E:Value→Shared→Prop} {s:Shared}
structure Lft (l:List Env) (e:Addr) (x:List Addr) (h h':Heap):Prop where
  keep:∀ b o,b∉l.filterMap (·.frame)→b≠e→b∉x→h.get? b=some o→h'.get? b=some o
  slot:∀ b o,b∈l.filterMap (·.frame)→h.get? b=some o→∃ sl,h'.get? b=some { o with slots:=sl }
end
section
variable {P:Program} {w:World} {K:aaa} {mg:Str→Option Value} {base:Heap} {N:List Str} {qual:Str} {scope:Scope} {f:Addr} {cd:Value} {A:Around} {outer:List Env} {s0:Shared} {H0:Hp} {E:XK}
end
structure EC (K:aaa) (C:Addr):Prop where
  ex:∃ nm q N bs bm hdct sn sub ab col dd k0 k1 k2 k3 k5 B newId initId bmB mN,ExcBaseFacts B newId initId bmB∧bm.contains (.type "BaseException")=true∧mN ("__init__":Str)=none ∧
    ∀ h,K.In h→h.get? C=some (excClassObj nm q C N bs bm hdct sn sub ab col dd k0 k1 k2 k3 k5 newId)∧h.Ns N mN∧OwnTail h bmB bm
section
variable {X:Cx} {pins0 pins:List (Addr × Obj)} {Cat:St→Addr→Hp→Prop} {σ:St} {H:Hp} {s:Shared}
end
section
variable {M:Model} {A:Around} {E:Value→Shared→Prop} {s:Shared}
end
structure Und (K:aaa) (C P:Addr):Prop where
  ex:∃ nm q N bs bm hdct sn sub ab col dd k0 k1 k2 k3 k5 newId nm' q' N' bs' bm' hdct' sn' sub' ab' col' dd' k0' k1' k2' k3' k5' newId',(Value.ref C :: bm).contains (.ref P)=true∧bm'.contains (.type "BaseException")=true ∧
    ∀ h,K.In h→h.get? C=some (excClassObj nm q C N bs bm hdct sn sub ab col dd k0 k1 k2 k3 k5 newId)∧h.get? P=some (excClassObj nm' q' P N' bs' bm' hdct' sn' sub' ab' col' dd' k0' k1' k2' k3' k5' newId')
section
variable {X:Cx} {pins:List (Addr × Obj)} {σ:St} {H:Hp} {s:Shared}
end
section
variable {M:Model} {A:Around} {E:Value→Shared→Prop} {s:Shared}
end
section
variable {X:Cx} {pins:List (Addr × Obj)} {σ:St} {H:Hp} {s:Shared}
end
open PySem PySem.Spec PyProof.Rows
structure Lkp (M:Model) (h:Heap) (C:Addr):Prop where
  ga:aae M h (typeLookup (.ref C) "__getattribute__") (some (.builtin "BaseException.__getattribute__"))
  no:aae M h (typeLookup (.ref C) "__getattr__") none
  cls:aae M h (typeLookup (.ref C) "__class__") (some (.builtin "object.__class__"))
  be:aae M h (isSubtype (.ref C) (.type "BaseException")) true
  obj:aae M h (isSubtype (.ref C) (.type (".".intercalate ("object.__class__".cutAt '.').dropLast))) true
section
variable {prog:Program} {w:World} {A:Around} {E:Value→Shared→Prop} {h:Heap} {g:Array GenState} {d:Drawn} {t:Nat} {os:OsState} {a C:Addr} {o:Obj}
end
structure ExC (K:aaa) (C:Addr):Prop where
  lk:∀ (M:Model) (h:Heap),K.In h→Lkp M h C
  cl:(PySem.W.clsIn K C).isSome=true
  sl:∃ B,Slot B "__getattribute__" "BaseException.__getattribute__"
open PySem PySem.Spec PyProof.Rows
open PySem PySem.Spec PyProof.Rows
open PySem PySem.Spec PyProof.Rows
section
variable {K:aaa} {C Pa N N':Addr} {nm nm' q q':Str} {bs bs' sub sub':List Value} {hdct hdct':Bool} {sn sn':List Str} {ab ab':Bool} {col col':Option Bool} {dd dd':Option Addr} {k0 k1 k2 k3 k5 k0' k1' k2' k3' k5' oc oc':Option Value}
  {c1 c2:Value} {od od':Option Addr} {es es':Array DictEntry} {n n':Nat} {sl sl':Array (Option Value)}
end
end L2
namespace L2
open PySem
open PySem PySem.Spec PyProof.Rows
open PySem PySem.Spec PyProof.Rows
section
variable {X:Cx}
end
open PySem PySem.Spec PyProof.Rows
section
variable {X:Cx}
end
open PySem PySem.Spec PyProof.Rows
section
variable {prog:Program} {w:World} {A:Around} {E:Value→Shared→Prop} {s:Shared} {I:Addr} {fp wr:List Addr} {G:Array GenState→Array GenState→Prop} {n:Nat} {P:Nat→Value→Prop} {St:Nat→Shared→Prop}
end
end L2
set_option maxHeartbeats 1000000
namespace L2
open PySem PySem.Spec PyProof.Rows
section
variable {X:Cx} {pos:Pos} {t u:TS}
end
open PySem PySem.Spec PyProof.Rows
section
variable {X:Cx}
end
open PySem PySem.Spec PyProof.Rows
section
variable {X:Cx}
end
end L2
namespace PySem
open Builtin Builtin.Str Builtin.Int
section
variable {prog:Program} {w:World} {A:Around} {E:Value→Shared→Prop} {s:Shared} {x:Str} {t:Tok} {Q:Value→Shared→Prop}
  {I:Addr} {fp wr:List Addr} {G:Array GenState→Array GenState→Prop} {n:Nat} {P:Nat→Value→Prop} {St:Nat→Shared→Prop}
end
end PySem
namespace L2
open PySem PySem.Spec PyProof.Rows
section
variable {X:Cx}
end
open PySem PySem.Spec PyProof.Rows
section
variable {X:Cx}
end
open PySem PySem.Spec PyProof.Rows
section
variable {X:Cx} {pins:List (Addr × Obj)} {σ:St} {H:Hp} {s:Shared} {A:Around} {Q:Value→Shared→Prop} {E:Value→Shared→Prop} {b:Bool}
end
section
variable {X:Cx} {a b c d:Expr} {ta tb tc td:TE} {pos:Pos}
end
section
variable {X:Cx}
end
open PySem PySem.Spec PyProof.Rows
section
variable {X:Cx} {o e:Expr} {es:List Expr} {to:TE} {t:TA} {name:Str} {apos cpos:Pos} {T id:String} {r:V→List V→Hp→VK→Prop} {K:aaa}
end
open PySem PySem.Spec PyProof.Rows
structure Trn (J:It) (n:Nat) (Kp:Hp→Prop) (item:Nat→V→Hp→Hp→Prop):Prop where
  go:∀ i H,i < n→Kp H→J.go i H
  stop:∀ H,Kp H→J.stop n H
  yld:∀ i H x H',i < n→Kp H→J.yld i H x H'→item i x H H'
open PySem PySem.Spec PyProof.Rows
open PySem PySem.Spec PyProof.Rows
section
variable {X:Cx}
end
open PySem PySem.Spec PyProof.Rows
section
variable {X:Cx} {a b c d e:Expr} {ta tb tc td te:TE} {pos:Pos}
end
end L2
namespace L2
open PySem PySem.Spec PyProof.Rows PySem.W
def cdO (c:Addr) (qual:Str):HO:=.ext fun h=>h.CodeRec (.ref c) qual
structure LTab (P:Addr) (qual:Str) (H:Hp) (ps:Array Value):Prop where
  tab:H P=some (.tbl ps)
  tri:TriplesOk ps.toList
  cds:∀ pos cv,codeAmong pos ps.toList=some cv→∃ c',cv=.ref c'∧H c'=some (cdO c' qual)
section
variable {X:Cx} {pins:List (Addr × Obj)} {σ:St} {H:Hp} {s:Shared}
end
section
variable {CX:CXT} {P:Program} {w:World} {K:aaa} {mg:Str→Option Value} {base:Heap} {k:Nat}
end
section
variable {X:Cx} {pins pl:List (Addr × Obj)} {σ:St} {H:Hp} {s:Shared}
end
section
variable {X:Cx}
end
end L2
namespace L2
open PySem PySem.Spec PyProof.Rows PySem.W
section
variable {X:Cx} {pins pl:List (Addr × Obj)} {σ:St} {H:Hp} {s:Shared}
end
section
variable {X:Cx}
end
end L2
namespace L2
open PySem PySem.Spec PyProof.Rows PySem.W
structure FunC (K:aaa) (x qual:Str) (st:Stmt) (f:Addr) (fd:FuncData) (c:Addr):Prop where
  ex:∃ (oc:Value) (od:Option Addr) (kV doc pm:Value) (an:Option Addr) (ct:Value) (osl:Array (Option Value)),
    fd=PySem.W.fnOf x qual (af st) (ae st) (ac st) .none kV doc pm an (.ref c) ct∧K.lookup f=some ⟨oc,od,.func fd,osl⟩∧PySem.W.codeIn K (.ref c) qual=true
  kp:aad K (.ref f)=true
section
variable {P:Program} {w:World} {K:aaa} {mg:Str→Option Value} {base:Heap}
end
open PySem PySem.Spec PyProof.Rows
open PySem PySem.Spec PyProof.Rows
open PySem PySem.Spec PyProof.Rows
open PySem PySem.Spec PyProof.Rows
section
variable {prog:Program} {w:World} {A:Around} {E:Value→Shared→Prop} {s:Shared}
end
def Ent (P:Program) (w:World) (d:Addr) (o:Obj) (u:HO) (n:Nat) (rw:Nat→V→V→Hp→Prop) (es:Array DictEntry) (ep:Nat):Prop :=
  o.data=.dict es ep∧es.size=n∧∀ H h,HOk P w H h→H d=some (.frz o u)→h.get? d=some o∧∀ i e,es[i]?=some e→∃ k y,ad k e.key∧ad y e.val∧rw i k y H
def ar (H:Hp) (d:Addr):Prop:=∀ o v,H d≠some (.frz o v)
end L2
namespace PySem
open Sem (wp)
namespace F
end F
section
variable {prog:Program} {w:World} {A:Around} {E:Value→Shared→Prop} {h:Heap} {g:Array GenState} {d:Drawn} {t:Nat} {os:OsState} {a:Addr} {xs:Array Value} {k:Nat}
end
end PySem
namespace L2
open PySem PySem.Spec PyProof.Rows
section
variable {prog:Program} {w:World} {A:Around} {E:Value→Shared→Prop} {s:Shared}
end
open PySem PySem.Spec PyProof.Rows
section
variable {X:Cx}
end
structure FunD (K:aaa) (x qual:Str) (st:Stmt) (f:Addr) (fd:FuncData) (tD:Addr):Prop where
  ex:∃ (oc:Value) (od:Option Addr) (kV doc pm:Value) (an:Option Addr) (cdv ct:Value) (osl:Array (Option Value)),
    fd=PySem.W.fnOf x qual (af st) (ae st) (ac st) (.ref tD) kV doc pm an cdv ct∧K.lookup f=some ⟨oc,od,.func fd,osl⟩∧PySem.W.codeIn K cdv qual=true
  kp:aad K (.ref f)=true
section
variable {P:Program} {w:World} {K:aaa} {mg:Str→Option Value} {base:Heap}
end
open PySem PySem.Spec PyProof.Rows
section
variable {X:Cx} {tg:Expr}
end
open PySem PySem.Spec PyProof.Rows
end L2
namespace L2
open PySem PySem.Spec PyProof.Rows PySem.W
section
variable {prog:Program} {w:World} {A:Around} {E:Value→Shared→Prop} {s:Shared}
end
open PySem PySem.Spec PyProof.Rows
def aq (e l:Nat→Bool) (n m:Nat):Nat→Nat→Bool
  | _,0=>decide (n < m)
  | j,k+1=>if e j=true then aq e l n m (j+1) k else l j
section
open PySem.SeqAt
open PySem.AutoSeq1 (wpAny_loadPart')
open PySem.MeetsSeq PySem.MeetsSeq2 PySem.MeetsSeq3
end
inductive LtR (K:aaa) (H:Hp):Nat→V→V→Bool→Prop
  | int {n:Nat} {a b:Int}:LtR K H n (.int a) (.int b) (decide (a < b))
  | tup {n:Nat} {a b:Addr} {xs ys:List V} {e l:Nat→Bool} (ha:SqT K H a xs) (hb:SqT K H b ys) (h:∀ (j:Nat) x y,xs[j]?=some x→ys[j]?=some y→EqR K H n x y (e j)) (hl:∀ (j:Nat) x y,xs[j]?=some x→ys[j]?=some y→e j=false→LtR K H n x y (l j)) :
      LtR K H (n+1) (.ref a) (.ref b) (aq e l xs.length ys.length 0 (min xs.length ys.length))
section
variable {X:Cx} {pins:List (Addr × Obj)} {σ:St} {H:Hp} {s:Shared}
end
section
variable {X:Cx}
end
open PySem PySem.Spec PyProof.Rows
def Fq (K:aaa) (x:Str) (s:Stmt) (f:Addr):Prop:=PySem.W.nsIn K mainGlobals x=some (some (.ref f))∧∃ fd,Fun K x x s f fd
open PySem PySem.Spec PyProof.Rows
end L2
namespace Tim
open PySem PyProof.Rows
structure Ord (M:Model) (A:Around) (E:Value→Shared→Prop) (s:Shared) (κ:SortKind) (P:Keyed→Prop) (lt:Keyed→Keyed→Bool):Prop where
  ask:∀ {x y:Keyed} {st:SortSt} {Q:Option Bool→SortSt→Prop},P x→P y→kindOf st=κ→Q (some (lt x y)) st→wpS M A E s (lt' x y) Q st
  asym:∀ {x y:Keyed},P x→P y→lt x y=true→lt y x=false
  trans:∀ {x y z:Keyed},P x→P y→P z→lt y x=false→lt z y=false→lt z x=false
section
variable {M:Model} {A:Around} {E:Value→Shared→Prop} {s:Shared} {κ:SortKind} {P:Keyed→Prop} {lt:Keyed→Keyed→Bool}
structure Bnd (B:Nat→Bool) (n k:Nat):Prop where
  le:k≤n
  lo:∀ i,i < k→B i=true
  hi:∀ i,k≤i→i < n→B i=false
end
end Tim
namespace Tim
open PySem PyProof.Rows
def Le (lt:Keyed→Keyed→Bool) (x y:Keyed):Prop:=lt y x=false
structure Mg (lt:Keyed→Keyed→Bool) (a b out:List Keyed) (ia ib:Nat):Prop where
  ha:ia≤a.length
  hb:ib≤b.length
  perm:out.Perm (a.take ia++b.take ib)
  srt:out.Pairwise (Le lt)
  le:∀ x∈out,∀ y,(y∈a.drop ia∨y∈b.drop ib)→Le lt x y
section
variable {lt:Keyed→Keyed→Bool} {a b out:List Keyed} {ia ib:Nat}
end
structure SameS (st st':SortSt):Prop where
  arr:arrOf st'=arrOf st
  pend:pendingOf st'=pendingOf st
  kind:kindOf st'=kindOf st
  fail:failedOf st'=failedOf st
section
variable {M:Model} {A:Around} {E:Value→Shared→Prop} {s:Shared} {κ:SortKind} {P:Keyed→Prop} {lt:Keyed→Keyed→Bool}
end
end Tim
namespace Tim
open PySem PyProof.Rows
structure Mh (lt:Keyed→Keyed→Bool) (a b out:List Keyed) (na nb:Nat):Prop where
  ha:na≤a.length
  hb:nb≤b.length
  perm:out.Perm (a.drop na++b.drop nb)
  srt:out.Pairwise fun x y=>Le lt y x
  le:∀ x∈out,∀ y,(y∈a.take na∨y∈b.take nb)→Le lt y x
section
variable {lt:Keyed→Keyed→Bool} {a b out:List Keyed} {na nb:Nat}
end
section
variable {M:Model} {A:Around} {E:Value→Shared→Prop} {s:Shared} {κ:SortKind} {P:Keyed→Prop} {lt:Keyed→Keyed→Bool}
end
end Tim
namespace Tim
open PySem PyProof.Rows
def seg (L:List Keyed) (s n:Nat):List Keyed:=(L.drop s).take n
structure Mrgd (lt:Keyed→Keyed→Bool) (L L':List Keyed) (s n:Nat):Prop where
  ex:∃ R,R.Perm (seg L s n)∧R.Pairwise (Le lt)∧L'=L.take s++R++L.drop (s+n)
section
variable {M:Model} {A:Around} {E:Value→Shared→Prop} {s:Shared} {κ:SortKind} {P:Keyed→Prop} {lt:Keyed→Keyed→Bool}
end
end Tim
namespace Tim
open PySem PyProof.Rows
def vx (a:Array Keyed) (i:Nat):Keyed:=(a[i]?).getD (Value.none,Value.none)
section
variable (lt:Keyed→Keyed→Bool)
def Up (a:Array Keyed) (lo n:Nat):Prop:=∀ i j,i < j→j < n→Le lt (vx a (lo+i)) (vx a (lo+j))
end
structure Kp (a a':Array Keyed) (lo:Nat):Prop where
  perm:a'.Perm a
  low:∀ k,k < lo→a'[k]?=a[k]?
structure SameA (st st':SortSt):Prop where
  pend:pendingOf st'=pendingOf st
  kind:kindOf st'=kindOf st
  fail:failedOf st'=failedOf st
section
variable {M:Model} {A:Around} {E:Value→Shared→Prop} {s:Shared} {κ:SortKind} {P:Keyed→Prop} {lt:Keyed→Keyed→Bool}
end
end Tim
namespace Tim
open PySem PyProof.Rows
section
variable {M:Model} {A:Around} {E:Value→Shared→Prop} {s:Shared} {κ:SortKind} {P:Keyed→Prop} {lt:Keyed→Keyed→Bool}
end
def aB (lt:Keyed→Keyed→Bool) (a:Array Keyed):List (Nat × Nat × Nat)→Nat→Nat→Prop
  | [],f,t=>f=t
  | (s,n,_) :: r,f,t=>s=f∧1≤n∧Up lt a s n∧aB lt a r (s+n) t
section
variable {lt:Keyed→Keyed→Bool} {a a':Array Keyed}
end
end Tim
namespace Tim
open PySem PyProof.Rows
structure SI (κ:SortKind) (lt:Keyed→Keyed→Bool) (a₀:Array Keyed) (st:SortSt) (lo:Nat):Prop where
  kind:kindOf st=κ
  fail:failedOf st=none
  perm:(arrOf st).Perm a₀
  runs:aB lt (arrOf st) (pendingOf st).toList 0 lo
  le:lo≤a₀.size
section
variable {M:Model} {A:Around} {E:Value→Shared→Prop} {s:Shared} {κ:SortKind} {P:Keyed→Prop} {lt:Keyed→Keyed→Bool} {a₀:Array Keyed}
end
end Tim
namespace Tim
open PySem PyProof.Rows
section
variable {prog:Program} {w:World} {A:Around} {E:Value→Shared→Prop} {s:Shared}
end
end Tim
namespace L2
open PySem PySem.Spec PyProof.Rows
open PySem PySem.Spec PyProof.Rows
open PySem PySem.Spec PyProof.Rows
section
variable {prog:Program} {w:World} {A:Around} {E:Value→Shared→Prop} {s:Shared}
end
end L2
namespace L2
open PySem
def aC (xs:Array Nat):Prop:=xs.toList.Pairwise (· < ·)
def Okm (m:Nat):Prop:=m=7∨m=15∨m=31∨m=63∨m=127∨m=255∨m=511∨m=1023
end L2
namespace L2
open PySem
end L2
namespace L2
open PySem
structure GT (n:Nat) (b:Bool) (t:SetTable):Prop where
  okm:Okm t.mask
  dum:t.dummies=#[]
  pl:t.plain=true
  rise:aC t.place
  size:t.place.size=n
  led:t.led=b
  room:n * 5 < t.mask * 3
structure GT1 (n:Nat) (b:Bool) (t:SetTable):Prop where
  okm:Okm t.mask
  dum:t.dummies=#[]
  pl:t.plain=true
  rise:aC t.place
  size:t.place.size=n
  led:t.led=b
  room:(n - 1) * 5 < t.mask * 3
open PySem PySem.Spec PyProof.Rows
def kOf:Value→Int
  | .int i _=>i
  | _=>0
section
variable {prog:Program} {w:World} {A:Around} {E:Value→Shared→Prop} {s:Shared}
end
end L2
set_option maxHeartbeats 3200000
namespace L2
open PySem PySem.Spec PyProof.Rows
section
variable {prog:Program} {w:World} {A:Around} {E:Value→Shared→Prop} {s:Shared}
variable {R:Result→Shared→Prop} {I:Addr} {fp wr:List Addr} {G:Array GenState→Array GenState→Prop} {n:Nat} {P:Nat→Value→Prop} {St:Nat→Shared→Prop}
end
section
variable {prog:Program} {w:World} {A:Around} {E:Value→Shared→Prop} {s:Shared}
end
open PySem PySem.Spec PyProof.Rows
section
variable {prog:Program} {w:World} {A:Around} {E:Value→Shared→Prop} {s:Shared}
end
end L2
namespace PySem.F
end PySem.F
namespace L2
open PySem PySem.Spec PyProof.Rows
section
variable {prog:Program} {w:World} {A:Around} {E:Value→Shared→Prop} {s:Shared}
end
open PySem PySem.Spec PyProof.Rows
section
variable {prog:Program} {w:World} {A:Around} {E:Value→Shared→Prop} {s:Shared}
end
open PySem PySem.Spec PyProof.Rows
end L2
namespace PySem.F
end PySem.F
namespace L2
open PySem PySem.Spec PyProof.Rows
structure SI (prog:Program) (w:World) (h:Heap) (a:Addr) (o:Obj) (es:Array (Int × Value)) (ep:Nat) (t:SetTable):Prop where
  at':h.get? a=some o
  ex:o.ExactSet
  dat:o.data=.set es ep t
  fit:t.fits es.size=true
  els:ElemsOf (intKind prog w) es.toList
  few:es.size < scanBound
section
variable {prog:Program} {w:World} {A:Around} {E:Value→Shared→Prop} {s:Shared}
end
open PySem PySem.Spec PyProof.Rows
section
variable {prog:Program} {w:World} {A:Around} {E:Value→Shared→Prop} {s:Shared}
end
open PySem PySem.Spec PyProof.Rows
section
variable {prog:Program} {w:World} {A:Around} {E:Value→Shared→Prop} {s:Shared}
end
open PySem PySem.Spec PyProof.Rows
section
variable {prog:Program} {w:World} {A:Around} {E:Value→Shared→Prop} {s:Shared}
end
open PySem PySem.Spec PyProof.Rows
section
variable {prog:Program} {w:World} {A:Around} {E:Value→Shared→Prop} {s:Shared}
end
open PySem PySem.Spec PyProof.Rows
section
variable {prog:Program} {w:World} {A:Around} {E:Value→Shared→Prop} {s:Shared}
end
open PySem PySem.Spec PyProof.Rows
open PySem PySem.Spec PyProof.Rows
open PySem PySem.Spec PyProof.Rows
open PySem PySem.Spec PyProof.Rows
open PySem PySem.Spec PyProof.Rows
section
variable {X:Cx}
end
open PySem PySem.Spec PyProof.Rows
open PySem PySem.Spec PyProof.Rows
section
open PySem.SeqAt
open PySem.AutoSeq1 (wpAny_loadPart')
open PySem.MeetsSeq PySem.MeetsSeq2 PySem.MeetsSeq3
end
inductive LtQ (K:aaa) (H:Hp):Nat→V→V→Bool→Prop
  | int {n:Nat} {a b:Int}:LtQ K H n (.int a) (.int b) (decide (a < b))
  | lst {n:Nat} {a b:Addr} {xs ys:List V} {e l:Nat→Bool} (ha:SqL K H a xs) (hb:SqL K H b ys) (h:∀ (j:Nat) x y,xs[j]?=some x→ys[j]?=some y→EqR K H n x y (e j)) (hl:∀ (j:Nat) x y,xs[j]?=some x→ys[j]?=some y→e j=false→LtQ K H n x y (l j)) :
      LtQ K H (n+1) (.ref a) (.ref b) (aq e l xs.length ys.length 0 (min xs.length ys.length))
section
variable {X:Cx} {pins:List (Addr × Obj)} {σ:St} {H:Hp} {s:Shared}
end
end L2
namespace Tim
open PySem PyProof.Rows
section
variable {prog:Program} {w:World} {A:Around} {E:Value→Shared→Prop} {s:Shared}
end
end Tim
namespace L2
open PySem PySem.Spec PyProof.Rows
section
variable {prog:Program} {w:World} {A:Around} {E:Value→Shared→Prop} {s:Shared}
end
structure Rnk (K:aaa) (H:Hp) (n:Nat) (us:List V) (kf:V→Int):Prop where
  two:∀ x∈us,∃ t k wv ks,x=.ref t∧H t=some (.tup [.ref k,wv])∧H k=some (.lst ks)
  cmp:∀ t t' k k' wv wv',V.ref t∈us→V.ref t'∈us→H t=some (.tup [.ref k,wv])→H t'=some (.tup [.ref k',wv']) →
    EqR K H n (.ref k) (.ref k') (decide (kf (.ref t)=kf (.ref t')))∧(kf (.ref t)≠kf (.ref t')→LtQ K H n (.ref k) (.ref k') (decide (kf (.ref t) < kf (.ref t'))))∧(kf (.ref t)=kf (.ref t')→EqR K H n wv wv' true)
open PySem PySem.Spec PyProof.Rows
section
variable {X:Cx} {tg:Expr}
end
section
variable {X:Cx}
end
open PySem PySem.Spec PyProof.Rows
open PySem PySem.Spec PyProof.Rows
section
variable {X:Cx} {pos:Pos}
end
end L2
namespace L2
open PySem PySem.Spec PyProof.Rows PySem.W
section
variable {X:Cx} {pins pl:List (Addr × Obj)} {σ:St} {H:Hp} {s:Shared}
end
section
variable {X:Cx}
end
end L2
namespace L2
open PySem PySem.Spec PyProof.Rows PySem.W
section
variable {X:Cx} {pins pl:List (Addr × Obj)} {σ:St} {H:Hp} {s:Shared}
end
section
variable {X:Cx}
end
open PySem PySem.Spec PyProof.Rows
inductive Thw (H:Hp):Hp→Hp→Prop
  | refl (H1:Hp):Thw H H1 H1
  | step {H1 H2:Hp} {d:Addr} {o:Obj} {u:HO} (h:Thw H H1 H2) (nf:ar H d) (e:H2 d=some (.frz o u)):Thw H H1 (upd H2 d u)
open PySem PySem.Spec PyProof.Rows
open PySem PySem.Spec PyProof.Rows
section
variable {X:Cx} {tg:Expr}
end
open PySem PySem.Spec PyProof.Rows
section
variable {prog:Program} {w:World} {A:Around} {E:Value→Shared→Prop} {R:Result→Shared→Prop} {s:Shared}
end
section
variable {prog:Program} {w:World}
end
section
variable {X:Cx}
end
open PySem PySem.Spec PyProof.Rows
section
variable {M:Model} {A:Around} {E:Value→Shared→Prop} {s:Shared}
end
section
variable {X:Cx}
end
open PySem PySem.Spec PyProof.Rows
open PySem PySem.Spec PyProof.Rows
section
variable {X:Cx} {pins:List (Addr × Obj)} {σ:St} {H:Hp} {s:Shared}
end
end L2
namespace L2
open PySem
variable {X:Cx}
end L2
namespace L2
open PySem PyProof.Rows PySem.W
open PySem PySem.Spec PyProof.Rows
end L2
namespace Put
open PySem L2
inductive Sg where
  | plus|minus|times
  deriving DecidableEq
def Sg.str:Sg→Str
  | .plus=>"+"
  | .minus=>"-"
  | .times=>"*"
inductive Wy where
  | num (i:Int)
  | node (g:Sg) (l r:Wy)
  deriving DecidableEq
def Wy.size:Wy→Nat
  | .num _=>1
  | .node _ l r=>l.size+r.size
structure Bu (K:aaa) (mg:Str→Option Value):Prop where
  ilen:mg "len" = none
  iisinstance : mg "isinstance" = none
  iint:mg "int" = none
  ibool:mg "bool" = none
  istr:mg "str" = none
  ituple:mg "tuple" = none
  ilist:mg "list" = none
  isorted:mg "sorted" = none
  irange:mg "range" = none
  irepr:mg "repr" = none
  ienumerate:mg "enumerate" = none
  isum:mg "sum" = none
  iall:mg "all" = none
  imin:mg "min" = none
  imax:mg "max" = none
  iabs:mg "abs" = none
  idivmod:mg "divmod" = none
  idict:mg "dict" = none
  iset:mg "set" = none
  ireversed:mg "reversed" = none
  iany:mg "any" = none
  izip:mg "zip" = none
structure Co (K:aaa) (mg:Str→Option Value) (tk:Tok) (aS:Addr):Prop where
  gMOST_NUMBERS:mg "MOST_NUMBERS" = some (.int 9 tk)
  gSIGNS:mg "SIGNS" = some (.ref aS)
  sSIGNS:∀ H,SqT K H aS [.str "+",.str "-",.str "*"]
section
variable {P:Program} {w:World} {K:aaa} {mg:Str→Option Value} {base:Heap} {f:Addr} {fd:FuncData}
open PySem L2
def Wy.deep:Wy→Nat
  | .num _=>1
  | .node _ l r=>max l.deep r.deep+1
open PySem L2
open PySem L2
def ap:List V:=[.str "+",.str "-",.str "*",.str "+-",.str "+*",.str "-*",.str "+-*"]
def Wy.within (gs:List Sg):Wy→Prop
  | .num _=>True
  | .node g l r=>g∈gs∧l.within gs∧r.within gs
end
open PySem L2
inductive Fm where
  | num (i:Int)
  | sum (ts:List (Bool × PyData))
  | times (fs:List PyData)
def sgB:Bool→Str
  | true=>"+"
  | false=>"-"
def tmD (t:Bool × PyData):PyData:=.tuple [.str (sgB t.1),t.2]
def Fm.data:Fm→PyData
  | .num i=>.int i
  | .sum ts=>.tuple [.str "sum",.tuple (ts.map tmD)]
  | .times fs=>.tuple [.str "times",.tuple fs]
def Fm.terms:Fm→List (Bool × PyData)
  | .sum ts=>ts
  | .num i=>[(true,.int i)]
  | .times fs=>[(true,.tuple [.str "times",.tuple fs])]
def Fm.factors:Fm→List PyData
  | .times fs=>fs
  | .num i=>[.int i]
  | .sum ts=>[.tuple [.str "sum",.tuple (ts.map tmD)]]
def aE (ts:List (Bool × PyData)):List (Bool × PyData):=ts.map fun t=>(!t.1,t.2)
def Wy.fm:Wy→Fm
  | .num i=>.num i
  | .node .times l r=>.times (l.fm.factors++r.fm.factors)
  | .node .plus l r=>.sum (l.fm.terms++r.fm.terms)
  | .node .minus l r=>.sum (l.fm.terms++aE r.fm.terms)
structure Ct (P:Program) (w:World) (K:aaa) (mg:Str→Option Value) (aT:Addr):Prop where
  gTURNED:mg "TURNED" = some (.ref aT)
  dTURNED:KD P w K aT [(.inr "+",.str "-"),(.inr "-",.str "+")]
section
variable {P:Program} {w:World} {K:aaa} {mg:Str→Option Value} {base:Heap} {f:Addr} {fd:FuncData}
end
open PySem L2
mutual
def szD:PyData→Nat
  | .tuple ds=>szAll ds+1
  | .list _=>1
  | .none=>1
  | .bool _=>1
  | .int _=>1
  | .str _=>1
  | .dict _=>1
def szAll:List PyData→Nat
  | []=>0
  | d :: ds=>szD d+szAll ds
end
mutual
def TOk:PyData→Prop
  | .int i=>i.natAbs < 2 ^ 131
  | .str x=>(reprText x).length≤20
  | .tuple ds=>TOkA ds
  | .none=>False
  | .bool _=>False
  | .list _=>False
  | .dict _=>False
def TOkA:List PyData→Prop
  | []=>True
  | d :: ds=>TOk d∧TOkA ds
end
def szT (ts:List (Bool × PyData)):Nat:=szAll (ts.map tmD)
structure FmOk (w:Wy):Prop where
  t:∀ t∈w.fm.terms,TOk t.2∧t.2.depth+3≤3 * w.deep
  f:∀ d∈w.fm.factors,TOk d∧d.depth+3≤3 * w.deep
  d:TOk w.fm.data
  dd:w.fm.data.depth+3≤3 * w.deep
  st:szT w.fm.terms+5≤8 * w.size
  sf:szAll w.fm.factors+5≤8 * w.size
  sd:szD w.fm.data+2≤8 * w.size
open PySem L2
section
variable {P:Program} {w:World} {K:aaa} {mg:Str→Option Value} {base:Heap} {f:Addr} {fd:FuncData}
end
open PySem L2
structure Cp (K:aaa) (mg:Str→Option Value) (tk:Tok) (aP:Addr):Prop where
  gMOST_NUMBERS:mg "MOST_NUMBERS" = some (.int 9 tk)
  gSIGNS_TO_PUT:mg "SIGNS_TO_PUT" = some (.ref aP)
  sSIGNS_TO_PUT:∀ H,SqT K H aP ap
section
variable {P:Program} {w:World} {K:aaa} {mg:Str→Option Value} {base:Heap} {f:Addr} {fd:FuncData}
end
open PySem L2
def wl (s:Nat) (L:List Int) (n l:Nat):Int:=(s:Int) * L.getD l 0 * L.getD (n - l) 0
def cl (s:Nat):Nat→List Int
  | 0=>[0,1]
  | k+1=>cl s k++[((aab (k+1)).map fun j=>wl s (cl s k) (k+2) (1+j)).sum]
def cn (s n:Nat):Int:=(cl s 8).getD n 0
section
variable {P:Program} {w:World} {K:aaa} {mg:Str→Option Value} {base:Heap} {f:Addr} {fd:FuncData}
open PySem L2
end
def prs (s n:Nat):Nat→Int
  | 0=>0
  | j+1=>prs s n j+(s:Int) * cn s (1+j) * cn s (n - (1+j))
def Wy.nr (gs:List Sg):Wy→Int
  | .num _=>0
  | .node g l r=>prs gs.length (l.size+r.size) (l.size - 1)+((((gs.idxOf g:Nat):Int) * cn gs.length l.size+l.nr gs) * cn gs.length r.size+r.nr gs)
def az (z:Str) (y:Str):Bool:=!(Builtin.Str.occurrences z y 0 z.length 1).isEmpty
section
variable {P:Program} {w:World} {K:aaa} {mg:Str→Option Value} {base:Heap} {f:Addr} {fd:FuncData}
end
open PySem L2
def Sg.k (g:Sg):Bool:=decide (g=.times)
def lv (k:Bool):Bool→Wy→List (Bool × Wy)
  | b,.num i=>[(b,.num i)]
  | b,.node g l r=>if g.k=k then lv k b l++lv k (if g=.minus then !b else b) r else [(b,.node g l r)]
def Wy.no (k:Bool):Wy→Prop
  | .num _=>True
  | .node g _ _=>g.k≠k
def jsg (k x y:Bool):Sg:=if k=true then .times else if x=y then .plus else .minus
def hd (ps:List (Bool × Wy)) (i:Nat):Bool:=(ps.map Prod.fst).getD i true
def ay (gs:List Sg) (k:Bool) (F:List (Bool × Wy)→Option Wy) (ps:List (Bool × Wy)) (j:Nat):Option Wy :=
  if jsg k (hd ps 0) (hd ps (j+1))∈gs then (F (ps.take (j+1))).bind fun l=>(F (ps.drop (j+1))).map fun r=>.node (jsg k (hd ps 0) (hd ps (j+1))) l r else none
def ft (gs:List Sg) (k:Bool):Nat→List (Bool × Wy)→Option Wy
  | 0,_=>none
  | n+1,ps=>if ps.length≤1 then (ps.head?).map Prod.snd else (aab (ps.length - 1)).findSome? (ay gs k (ft gs k n) ps)
def tc (gs:List Sg) (k:Bool):Nat→List Bool→Nat
  | 0,_=>0
  | n+1,hs=>if hs.length≤1 then 1 else ((aab (hs.length - 1)).map fun j=>if jsg k (hs.getD 0 true) (hs.getD (j+1) true)∈gs then tc gs k n (hs.take (j+1)) * tc gs k n (hs.drop (j+1)) else 0).sum
def al (ps:List (Bool × Wy)):List Bool:=ps.map Prod.fst
open PySem L2
def fw (gs:List Sg):Nat→Wy→Wy
  | 0,w=>w
  | _+1,.num i=>.num i
  | n+1,.node g l r=>(ft gs g.k (lv g.k true (.node g l r)).length ((lv g.k true (.node g l r)).map fun p=>(p.1,fw gs n p.2))).getD (.node g l r)
def ct (gs:List Sg):Nat→Wy→Nat
  | 0,_=>1
  | _+1,.num _=>1
  | n+1,.node g l r=>tc gs g.k (lv g.k true (.node g l r)).length (al (lv g.k true (.node g l r))) * ((lv g.k true (.node g l r)).map fun p=>ct gs n p.2).prod
structure FwOk (gs:List Sg) (n:Nat) (w:Wy):Prop where
  win:(fw gs n w).within gs
  size:(fw gs n w).size=w.size
  nr:(fw gs n w).nr gs≤w.nr gs
  data:(fw gs n w).fm.data=w.fm.data
open PySem L2
section
variable {P:Program} {w:World} {K:aaa} {mg:Str→Option Value} {base:Heap} {f:Addr} {fd:FuncData}
open PySem L2
end
open PySem L2
def seg (ps:List (Bool × Wy)) (q:Int × Int):List (Bool × Wy):=(ps.drop q.1.toNat).take (q.2 - q.1+1).toNat
def tv (gs:List Sg) (k:Bool) (n:Nat) (ps:List (Bool × Wy)) (q:Int × Int):Int:=((tc gs k (seg ps q).length (al (seg ps q)) * ((seg ps q).map fun p=>ct gs n p.2).prod:Nat):Int)
open PySem L2
section
variable {P:Program} {w:World} {K:aaa} {mg:Str→Option Value} {base:Heap} {f:Addr} {fd:FuncData}
end
open PySem L2
open PySem L2
section
variable {P:Program} {w:World} {K:aaa} {mg:Str→Option Value} {base:Heap} {f:Addr} {fd:FuncData}
end
open PySem L2
def kS:Bool→Str
  | true=>"times"
  | false=>"sum"
def aL (k:Bool) (place:Nat) (signs:Str):Str :=
  match k with
  | true=>if az signs "*" = true then "*" else ""
  | false=>if place=0 then "+" else if place=1∨az signs "-" = false then Txt.replace signs "*" "" else "+-"
section
variable {P:Program} {w:World} {K:aaa} {mg:Str→Option Value} {base:Heap} {f:Addr} {fd:FuncData}
end
open PySem L2
structure Cw (P:Program) (w:World) (K:aaa) (mg:Str→Option Value) (aK aW:Addr):Prop where
  gKINDS:mg "KINDS" = some (.ref aK)
  sKINDS:∀ H,SqT K H aK [.str "sum",.str "times"]
  gWITHIN:mg "WITHIN" = some (.ref aW)
  dWITHIN:KD P w K aW [(.inr "sum",.str "times"),(.inr "times",.str "sum")]
section
variable {P:Program} {w:World} {K:aaa} {mg:Str→Option Value} {base:Heap} {f:Addr} {fd:FuncData}
open PySem L2
end
open PySem L2
structure C5 (mg:Str→Option Value) (tk:Tok):Prop where
  gLATER:mg "LATER" = some (.int 2 tk)
abbrev Ix:=Bool × Nat × Nat
abbrev Tab:=List (Ix × Nat)
def kyE (x:Ix):List Key:=[.inr (kS x.1),.inl x.2.1,.inl x.2.2]
def kvs (t:Tab):List (List Key × V):=t.map fun e=>(kyE e.1,V.int e.2)
def ah (t:Tab) (x:Ix):Option Nat:=(t.find? fun e=>decide (e.1=x)).map (·.2)
def ai (t:Tab) (k:Bool) (m:Nat):Option Nat:=if m=1 then some 1 else ah t ((!k),0,m)
section
variable {P:Program} {w:World} {K:aaa} {mg:Str→Option Value} {base:Heap} {f:Addr} {fd:FuncData}
end
open PySem L2
abbrev Row:=Str × Nat × Nat × Nat
def aG (t:Tab) (k:Bool) (bh l:Nat) (c:Str) (j:Nat):Row:=(c,j+1,(ai t k (j+1)).getD 0,(ah t (k,bh,l - (j+1))).getD 0)
def inF (t:Tab) (k:Bool) (bh l:Nat) (c:Str) (n:Nat):List Row:=(aab n).map (aG t k bh l c)
def chF (t:Tab) (k:Bool) (bh l most:Nat):List Nat→List Row
  | []=>[]
  | c :: r=>inF t k bh l ⟨#[c]⟩ most++chF t k bh l most r
def ak (p l:Nat):Nat:=if p=0 then l - 1 else l
def aA (p:Nat):Nat:=if p=0 then 1 else 2
def aM (signs:Str) (t:Tab) (k:Bool) (p l:Nat):List Row:=chF t k (aA p) l (ak p l) (aL k p signs).cps.toList
def aH (t:Tab) (k:Bool) (p l:Nat):Bool:=(aab (ak p l)).all fun j=>(ai t k (j+1)).isSome && (ah t (k,aA p,l - (j+1))).isSome
section
variable {P:Program} {w:World} {K:aaa} {mg:Str→Option Value} {base:Heap} {f:Addr} {fd:FuncData}
end
open PySem L2
def aF (rs:List Row):Nat:=(rs.map fun r=>r.2.2.1 * r.2.2.2).sum
def kOf:Nat→Bool
  | 0=>false
  | _=>true
section
variable {P:Program} {w:World} {K:aaa} {mg:Str→Option Value} {base:Heap} {f:Addr} {fd:FuncData}
end
open PySem L2
structure Gd (z:Str) (t:Tab) (m:Nat):Prop where
  ok:∀ (k:Bool) (p l:Nat),p≤2→1≤l→l≤m→aH t k p l=true
  sm:∀ (k:Bool) (p l:Nat),p≤2→1≤l→l≤m→ah t (k,p,l)=some (aF (aM z t k p l))
  z0:∀ k:Bool,ah t (k,2,0)=some 1
  bd:∀ (k:Bool) (p l:Nat),(ah t (k,p,l)).getD 0 < 1152921504606846976
section
variable {P:Program} {w:World} {K:aaa} {mg:Str→Option Value} {base:Heap} {f:Addr} {fd:FuncData}
end
open PySem L2
def Row.ct (r:Row):Nat:=r.2.2.1 * r.2.2.2
open PySem L2
open PySem L2
open PySem L2
inductive Kt where
  | int (i:Int)
  | nil
  | cons (x r:Kt)
  deriving DecidableEq
def Kt.isL:Kt→Prop
  | .int _=>False
  | .nil=>True
  | .cons _ r=>r.isL
def Kt.ok:Kt→Prop
  | .int _=>True
  | .nil=>True
  | .cons x r=>x.ok∧r.isL∧r.ok
open PySem L2
open PySem L2
section
variable {P:Program} {w:World} {K:aaa} {mg:Str→Option Value} {base:Heap} {f:Addr} {fd:FuncData}
open PySem L2
open PySem L2
open PySem L2
open PySem L2
open PySem L2
end
open PySem L2
open PySem L2
open PySem L2
section
variable {P:Program} {w:World} {K:aaa} {mg:Str→Option Value} {base:Heap} {f:Addr} {fd:FuncData}
open PySem L2
open PySem L2
end
open PySem L2
open Classical in
open PySem L2
mutual
def FD:PyData→Prop
  | .int _=>True
  | .str x=>x = "+"∨x = "-"∨x = "sum"∨x = "times"
  | .tuple ds=>FDA ds
  | .none=>False
  | .bool _=>False
  | .list _=>False
  | .dict _=>False
def FDA:List PyData→Prop
  | []=>True
  | d :: ds=>FD d∧FDA ds
end
open PySem L2
def sh (w:Wy):Str:=w.fm.data.shown
structure Fst (gs:List Sg) (ws acc:List Wy):Prop where
  mem:∀ r∈acc,r∈ws
  rep:∀ w∈ws,∃ r∈acc,sh r=sh w
  fst:∀ r∈acc,∀ w∈ws,sh w=sh r→r.nr gs≤w.nr gs
  nd:(acc.map sh).Nodup
open Classical in
open PySem L2
section
variable {P:Program} {w:World} {K:aaa} {mg:Str→Option Value} {base:Heap} {f:Addr} {fd:FuncData}
open PySem L2
end
open PySem L2
end Put
namespace PySem.W.Fast
def tw8190602754626682071:=0
def tw17366636686989223228:=0
def tw9739741094427984726:=0
def tw5739371590820963265:=0
def tw3708009396548848584:=0
def tw5873919332127082613:=0
def tw5901196391953171464:=0
def tw6042109827027495114:=0
def tw8741328188926064776:=0
def tw8374514446030157199:=0
def tw333067702385102773:=0
def tw13550622996432241204:=0
def tw249646324772919109:=0
def tw18296837379849196450:=0
def tw12946606296525163843:=0
def tw5214884817250518874:=0
def tw15781578591581399619:=0
def tw8642741006841159051:=0
def tw13794799280011019249:=0
def tw12014726665420968606:=0
def tw12637340237657225370:=0
def tw1526029556593410084:=0
def tw4244135926913924846:=0
def tw11051138512622252385:=0
def tw15077276434500534139:=0
def tw12346157784676863545:=0
def tw12657224621587656811:=0
def tw5889919227662260279:=0
def tw16568732608967046351:=0
def tw16311709316340247072:=0
def tw9255965309772005985:=0
def tw986758885218797323:=0
def tw16390679514464410204:=0
def tw6653800728865838692:=0
def tw9218606809415889950:=0
def tw6001911660731287752:=0
def tw723035051664472667:=0
def tw8976425465006501641:=0
def tw12231818074196517299:=0
def tw3110026906105112368:=0
def tw5826068297507359569:=0
def tw6396878766400684988:=0
def tw16073060571331923040:=0
def tw11024906110242184727:=0
def tw9042358803418101667:=0
def tw10443929745832348565:=0
def tw433318444160956126:=0
def tw3656194574568507435:=0
def tw4164125955062140113:=0
def tw7732771438670217943:=0
def tw2825759368430233106:=0
def tw16051833828380137980:=0
def tw17215346003222374283:=0
def tw1000554211143363364:=0
def tw10395048272598554707:=0
def tw17703793123281863988:=0
def tw15862930959933424904:=0
def tw349519886712498386:=0
def tw13636773470557752970:=0
def tw1618581004538941971:=0
def tw17535035767807591990:=0
def tw2064506976961600941:=0
def tw2985335008628632620:=0
def tw5485132651277920690:=0
def tw13579926918031820140:=0
def tw7449834410089718570:=0
def tw16498833343493404537:=0
def tw14196235629075240007:=0
def tw14707235836302854461:=0
def tw9169885383268956996:=0
def tw8648673959404590034:=0
def tw8896675652565510331:=0
def tw12406405439089102609:=0
def tw16227706724856226729:=0
def tw17618660497877099197:=0
def tw3794861967726823810:=0
def tw6595547248337520372:=0
def tw1117812747438327004:=0
def tw13453569266694549943:=0
def tw451704509185026915:=0
def tw3389139557252216007:=0
def tw13361164492253326696:=0
def tw2727784171637939167:=0
def tw15208974967777241254:=0
def tw8536180780610355944:=0
def tw16761220565173097593:=0
def tw14543857990842789175:=0
def tw18214190312720531711:=0
def tw12310816178139148694:=0
def tw5824564261384066064:=0
def tw257211296943780778:=0
def tw8485594591247951101:=0
def tw8307577164192436664:=0
def tw7234824988982083320:=0
def tw2563504186746810680:=0
def tw6428536593363024304:=0
def tw2142977636452555158:=0
def tw12582603939305183203:=0
def tw17493929659853372558:=0
def tw10104404775611677783:=0
def tw5364422279291994897:=0
def tw7863976024018490542:=0
def tw15800252376493366156:=0
def tw4502915533880958655:=0
def tw13769380713053449731:=0
def tw8539284883232876608:=0
def tw836020258287899434:=0
def tw2525746795488617710:=0
def tw9213886058947786635:=0
def tw11402015364660134836:=0
def tw16094842713768012462:=0
def tw8706308377518243867:=0
def tw8957171960875366903:=0
def tw15759791766581465585:=0
def tw3757562934013886401:=0
def tw13933064839459010204:=0
def tw5766185140291512161:=0
def tw8319955677372925755:=0
def tw6351067854313605718:=0
def tw476665045584675357:=0
def tw13468017087245578929:=0
def tw10744033099160287185:=0
def tw7568888803418221972:=0
def tw14091718250358553706:=0
def tw10401880659475090146:=0
def tw16217890965230957407:=0
def tw17101449219189895716:=0
def tw1924408564738443369:=0
def tw16607735970667158120:=0
def tw6887077000434649210:=0
def tw7417278205513736404:=0
def tw7561012312056680664:=0
def tw17378662792995204844:=0
def tw640124708936605594:=0
def tw15512044585882838092:=0
def tw7905002435051268246:=0
def tw13881915870179183488:=0
def tw17728858871303226053:=0
def tw1201232062877883072:=0
def tw16947942032130216055:=0
def tw15825736806055550647:=0
def tw12596398897824741912:=0
def tw18024422654348124466:=0
def tw1336209603676320341:=0
def tw12546363142268495884:=0
def tw4997322348666545381:=0
def tw8988800526787598720:=0
def tw15657549151965419553:=0
def tw3886341331607972721:=0
def tw16193994639661236071:=0
def tw627798868507294413:=0
def tw9363551160418343428:=0
def tw2324566928878206845:=0
def tw12525071218902800375:=0
def tw13430195618297047666:=0
def tw3340930651780761699:=0
def tw6676280246769227989:=0
def tw6767238649795097510:=0
def tw5135291056314041648:=0
def tw12900908362326667725:=0
def tw14716212782601903050:=0
def tw3575397463617516221:=0
def tw8926244354646818760:=0
def tw1098192477941112133:=0
def tw17557537935245555153:=0
def tw5168862064252109089:=0
def tw4806197796394678834:=0
def tw14476446543254574744:=0
def tw14006886823079212111:=0
def tw9271559012142882864:=0
def tw8109410729486246717:=0
def tw17779944177724762113:=0
def tw14004522679090470835:=0
def tw2617424275800168136:=0
def tw5494003271166754426:=0
def tw2108698793272298353:=0
def tw4267760754526321144:=0
def tw1833818710484182665:=0
def tw16632454928571029788:=0
def tw4424276509286358966:=0
def tw1394392195329221358:=0
def tw8829830504326023979:=0
def tw13367198772589684262:=0
def tw8916892946779520271:=0
def tw10733759078169768586:=0
def tw5662308085638791079:=0
def tw2167711173296429999:=0
def tw14138208621028888687:=0
def tw6883699414090093756:=0
def tw12718263394389728259:=0
def tw12308770613901820080:=0
def tw17149880871767819804:=0
def tw13584870504996493913:=0
def tw15321248390865743473:=0
def tw6918167971352594489:=0
def tw381148061023656238:=0
def tw683978202106346835:=0
def tw17347821803490100075:=0
def tw4624136827421714993:=0
def tw18108621746403026642:=0
def tw3314376731014512833:=0
def tw12148332070999931185:=0
def tw7546871392017140219:=0
def tw15262979134534800221:=0
def tw11768577508183396478:=0
def tw7438408784987338062:=0
def tw11383902625841842132:=0
def tw7494225428805830375:=0
def tw18064627079065691545:=0
def tw680342130131392451:=0
def tw6162637516574535520:=0
def tw12669249667189025731:=0
def tw5313767785045680202:=0
def tw1633632859285011251:=0
def tw11579861564119845494:=0
def tw9312647443750389434:=0
def tw3292574076665239919:=0
def tw1568391933009149196:=0
def tw15598179794270295377:=0
def tw6404530016280085328:=0
def tw14726083562093879745:=0
def tw16048125390082163775:=0
def tw1296536522558431908:=0
def tw8678737442268234597:=0
def tw16690203510886649196:=0
def tw9835332174636145545:=0
def tw2153594873387912313:=0
def tw10588789683451258200:=0
def tw8643364540649543764:=0
def tw10616835247706155390:=0
def tw11135272450483580561:=0
def tw8078092235721269839:=0
def tw9327739954128144569:=0
def tw5413754005860972787:=0
def tw12752755593754114428:=0
def tw4323029686936861880:=0
def tw14688853460389722499:=0
def tw3837571384453520188:=0
def tw9283948789749560390:=0
def tw15859369039211068834:=0
def tw13149772428685847982:=0
def tw15015408707543656708:=0
def tw10446342234511514633:=0
def tw5185282229613156382:=0
def tw9113649851050163628:=0
def tw5702145815698408985:=0
def tw1757615196670706120:=0
def tw16209245046346060292:=0
def tw6795234133485927783:=0
def tw3497693582085308395:=0
end PySem.W.Fast
open PySem PySem.W PyProof.Rows
set_option maxRecDepth 100000 in
set_option maxHeartbeats 0 in
theorem PySem.Challenge.cw_putsigns_k29_forms_of_short_rows_holds : PySem.Challenge.rw_putsigns_k29_forms_of_short_rows.Holds := by
  w_on;o_law;k_head;(case hw=>w_witness2)
  k_fill
  refine Put.walk (l:=PySem.Challenge.rw_putsigns_k29_forms_of_short_rows) rfl rfl ?hi (fun w h Y=>PySem.W.kIn_of Y) ?F
  case hi=>first|rfl|decide +kernel
  case F =>
    intro w mg fa h KX G hmg;refine' Put.all_mk KX G hmg ?q0 ?q1 ?q2 ?q3 ?q4 ?q5 ?q6 ?q7 ?q8 ?q9 ?q10 ?q11 ?q12 ?q13 ?q14 ?q15 ?q16 ?q17 ?q18 ?q19 ?q20 ?q21 ?q22 ?q23 ?q24 ?q25 ?q26 ?q27 ?q28 ?q29 ?q30 ?q31 ?q32 ?q33 ?q34 ?q35 ?q36 ?q37 ?q38 ?q39 ?q40 ?q41 ?q42 ?q43 ?q44 ?q45 ?q46 ?a47 ?l47 ?c47 ?k47 ?z_len ?z_isinstance ?z_int ?z_bool ?z_str ?z_tuple ?z_list ?z_sorted ?z_range ?z_repr ?z_enumerate ?z_sum ?z_all ?z_min ?z_max ?z_abs ?z_divmod ?z_dict ?z_set ?z_reversed ?z_any ?z_zip ?gM ?gS ?lS ?gM3 ?gP ?lP ?gK ?lK ?gW ?lW ?gL
    (case q0=>exact L2.Fq.mk4 (by k_is) (by k_is) (by k_is) (by k_is))
    (case q1=>exact L2.Fq.mk4 (by k_is) (by k_is) (by k_is) (by k_is))
    (case q2=>exact L2.Fq.mk4 (by k_is) (by k_is) (by k_is) (by k_is))
    (case q3=>exact L2.Fq.mk4 (by k_is) (by k_is) (by k_is) (by k_is))
    (case q4=>exact L2.Fq.mk4 (by k_is) (by k_is) (by k_is) (by k_is))
    (case q5=>exact L2.Fq.mk4 (by k_is) (by k_is) (by k_is) (by k_is))
    (case q6=>exact L2.Fq.mk4 (by k_is) (by k_is) (by k_is) (by k_is))
    (case q7=>exact L2.Fq.mk4 (by k_is) (by k_is) (by k_is) (by k_is))
    (case q8=>exact L2.Fq.mk4 (by k_is) (by k_is) (by k_is) (by k_is))
    (case q9=>exact L2.Fq.mk4 (by k_is) (by k_is) (by k_is) (by k_is))
    (case q10=>exact L2.Fq.mk4 (by k_is) (by k_is) (by k_is) (by k_is))
    (case q11=>exact L2.Fq.mk4 (by k_is) (by k_is) (by k_is) (by k_is))
    (case q12=>exact L2.Fq.mk4 (by k_is) (by k_is) (by k_is) (by k_is))
    (case q13=>exact L2.Fq.mk4 (by k_is) (by k_is) (by k_is) (by k_is))
    (case q14=>exact L2.Fq.mk4 (by k_is) (by k_is) (by k_is) (by k_is))
    (case q15=>exact L2.Fq.mk4 (by k_is) (by k_is) (by k_is) (by k_is))
    (case q16=>exact L2.Fq.mk4 (by k_is) (by k_is) (by k_is) (by k_is))
    (case q17=>exact L2.Fq.mk4 (by k_is) (by k_is) (by k_is) (by k_is))
    (case q18=>exact L2.Fq.mk4 (by k_is) (by k_is) (by k_is) (by k_is))
    (case q19=>exact L2.Fq.mk4 (by k_is) (by k_is) (by k_is) (by k_is))
    (case q20=>exact L2.Fq.mk4 (by k_is) (by k_is) (by k_is) (by k_is))
    (case q21=>exact L2.Fq.mk4 (by k_is) (by k_is) (by k_is) (by k_is))
    (case q22=>exact L2.Fq.mk4 (by k_is) (by k_is) (by k_is) (by k_is))
    (case q23=>exact L2.Fq.mk4 (by k_is) (by k_is) (by k_is) (by k_is))
    (case q24=>exact L2.Fq.mk4 (by k_is) (by k_is) (by k_is) (by k_is))
    (case q25=>exact L2.Fq.mk4 (by k_is) (by k_is) (by k_is) (by k_is))
    (case q26=>exact L2.Fq.mk4 (by k_is) (by k_is) (by k_is) (by k_is))
    (case q27=>exact L2.Fq.mk4 (by k_is) (by k_is) (by k_is) (by k_is))
    (case q28=>exact L2.Fq.mk4 (by k_is) (by k_is) (by k_is) (by k_is))
    (case q29=>exact L2.Fq.mk4 (by k_is) (by k_is) (by k_is) (by k_is))
    (case q30=>exact L2.Fq.mk4 (by k_is) (by k_is) (by k_is) (by k_is))
    (case q31=>exact L2.Fq.mk4 (by k_is) (by k_is) (by k_is) (by k_is))
    (case q32=>exact L2.Fq.mk4 (by k_is) (by k_is) (by k_is) (by k_is))
    (case q33=>exact L2.Fq.mk4 (by k_is) (by k_is) (by k_is) (by k_is))
    (case q34=>exact L2.Fq.mk4 (by k_is) (by k_is) (by k_is) (by k_is))
    (case q35=>exact L2.Fq.mk4 (by k_is) (by k_is) (by k_is) (by k_is))
    (case q36=>exact L2.Fq.mk4 (by k_is) (by k_is) (by k_is) (by k_is))
    (case q37=>exact L2.Fq.mk4 (by k_is) (by k_is) (by k_is) (by k_is))
    (case q38=>exact L2.Fq.mk4 (by k_is) (by k_is) (by k_is) (by k_is))
    (case q39=>exact L2.Fq.mk4 (by k_is) (by k_is) (by k_is) (by k_is))
    (case q40=>exact L2.Fq.mk4 (by k_is) (by k_is) (by k_is) (by k_is))
    (case q41=>exact L2.Fq.mk4 (by k_is) (by k_is) (by k_is) (by k_is))
    (case q42=>exact L2.Fq.mk4 (by k_is) (by k_is) (by k_is) (by k_is))
    (case q43=>exact L2.Fq.mk4 (by k_is) (by k_is) (by k_is) (by k_is))
    (case q44=>exact L2.Fq.mk4 (by k_is) (by k_is) (by k_is) (by k_is))
    (case q45=>exact L2.Fq.mk4 (by k_is) (by k_is) (by k_is) (by k_is))
    (case q46=>exact L2.Fq.mk4 (by k_is) (by k_is) (by k_is) (by k_is))
    (case a47=>k_is)
    (case l47=>k_is)
    (case c47=>k_is)
    (case k47=>k_is)
    (case z_len=>k_is)
    (case z_isinstance=>k_is)
    (case z_int=>k_is)
    (case z_bool=>k_is)
    (case z_str=>k_is)
    (case z_tuple=>k_is)
    (case z_list=>k_is)
    (case z_sorted=>k_is)
    (case z_range=>k_is)
    (case z_repr=>k_is)
    (case z_enumerate=>k_is)
    (case z_sum=>k_is)
    (case z_all=>k_is)
    (case z_min=>k_is)
    (case z_max=>k_is)
    (case z_abs=>k_is)
    (case z_divmod=>k_is)
    (case z_dict=>k_is)
    (case z_set=>k_is)
    (case z_reversed=>k_is)
    (case z_any=>k_is)
    (case z_zip=>k_is)
    (case gM=>k_is)
    (case gS=>k_is)
    (case lS=>k_is)
    (case gM3=>k_is)
    (case gP=>k_is)
    (case lP=>k_is)
    (case gK=>k_is)
    (case lK=>k_is)
    (case gW=>k_is)
    (case lW=>k_is)
    (case gL=>k_is)

