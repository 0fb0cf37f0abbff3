import PyProof.Rows.All
import Wide.All
import OpenK.AllK
import Wide.FinOn
import Lean
import PyProof.EqAt
import PyProof.EqKinds
import PyProof.TupleCall
import PySem.Challenge.RW_putsigns_k42_what_are_holds
open PySem.W renaming Frag → aaa, subIn → aaq, nsIn → aaw, mg_none_of → aaA, kitOne → aaJ, mg_of → aaN, findIn → aaW, fnOf → aaY, keepIn → aaZ, clsIn → aa0, kia_one → aa6, typeIn → abb, codeIn → abl, cellsFrom_some → aca, Looks → acp
open List renaming mem_append_right → aab, getElem?_eq_getElem → aad, replicate → aaf, size_toArray → aah, mem_cons_of_mem → aai, length_map → aak, length_append → aal, mem_singleton → aam, getElem?_eq_some_iff → aan, mem_cons → aao, mem_append → aap, mem_cons_self → aav, mem_of_getElem? → aax, getD_eq_getElem?_getD → aay, length_take → aaz, length_cons → aaF, mem_append_left → aaG, map_cons → aaH, map_append → aaK, not_mem_nil → aaM, Nodup → aaP, range → aaQ, take_add_one → aaR, mem_range → aaV, getElem?_map → aaX, all_eq_true → aa4, take_length → aa5, length_nil → aa7, length_singleton → aa8, replicate_succ → aa9, length_drop → aba, take_of_length_le → abe, cons_append → abf, map_nil → abh, filterMap_cons → abq, mem_map → abr, getElem_of_mem → aby, getElem_mem → abz, mem_of_mem_take → abD, append_assoc → abE, flatten_cons → abF, sum_cons → abJ, append_nil → abM, find?_cons → abN, length_replicate → abO, nil_append → abP, pairwise_iff_getElem → abT, take_succ_cons → abV, eq_of_mem_replicate → abY, getElem?_take_of_lt → abZ, toArray → ab0, any_cons → ab3, length_eq_zero_iff → ab4, mem_flatMap → ack, map_drop → acn, map_take → aco, nodup_cons → acq
open PySem.Heap renaming get?_push_of_some → aac, lt_size → aat, get?_push_size → aaB
open Nat renaming le_refl → aae, lt_of_lt_of_le → aas, ne_of_lt → aaE, zero_le → aaO, le_trans → aaT, ne_of_gt → abd, lt_irrefl → abm, le_of_lt → abo, lt_of_le_of_lt → abA, mul_le_mul → abB, lt_succ_of_lt → abR, mul_le_mul_right → abS, lt_succ_self → abU, lt_trans → ab1, le_succ_of_le → acd, le_succ → acr, not_lt → acs
open PySem.PyData renaming depthAll → aag, depth → aaj, showable → abn, shownAll → abH, showableAll → ab7
open Bool renaming false_ne_true → aar, and_eq_true → abt, eq_iff_iff → abL, false_and → acf, true_and → acl
open PyProof.Rows renaming boot_isinstance → aau, boot_tuple → abv, boot_repr → abK, callWith_type1 → abQ, boot_all → ach, boot_int → aci, boot_min → acj
open Int renaming le_refl → aaC, mul_le_mul_of_nonneg_right → aa2, mul_nonneg → abk, add_mul → abI, le_of_lt → abX, eq_ofNat_of_zero_le → ab2, one_mul → acb, mul_assoc → acm
open Array renaming getD_eq_getD_getElem? → aaD
open PySem.F renaming plain_min_loop → aaI, plainAttrs_list → aa3, slot_list_append → abi, type_list_append → abj, entry_min_loop → abp, typeOf_object_class → acg
open PySem renaming boot_len → aaL, mem_of_lookup → abg
open PySem.PassesOwn renaming never → aaS
open PySem.Obj renaming mapSeq → aaU
open Option.some renaming inj → aa1
open False renaming elim → abc
open PySem.Around renaming under_plainId → abu
open PySem.Builtin.Builtins renaming bindParams → abw
open PySem.Heap.SameBut renaming update → abx
open Ne renaming symm → abC
open Option renaming isSome_iff_exists → abG, map_some → ab5, map_eq_some_iff → ab9
open PySem.Builtin.List renaming listTooLong → abW
open PySem.Paired renaming length → ab6
open PySem.SeqAt.EqAt renaming int_int → ab8
open PySem.Walks renaming list → ace
set_option Elab.async false
set_option linter.all false
set_option maxRecDepth 100000
namespace L2
open PySem PySem.Spec PyProof.Rows
abbrev Key:=Sum Int Str
def kK:Key→Value→Bool
  | .inl k,v=>Value.isInt k v
  | .inr x,v=>Value.isStrOf x v
def yU (w:World):Key→Int
  | .inl k=>hashInt k
  | .inr x=>hashStr w x
theorem bN:∀ {k:Key} {v:Value},kK k v=true→(∃ i t,k=Sum.inl i∧v=Value.int i t)∨(∃ x t,k=Sum.inr x∧v=Value.str x t)
  | .inl i,v,h=>by
    obtain ⟨t,e⟩:=Value.isInt_shape (k:=i) (v:=v) h;exact .inl ⟨i,t,rfl,e⟩
  | .inr x,v,h=>by
    obtain ⟨t,e⟩:=Value.isStrOf_shape (x:=x) (v:=v) h;exact .inr ⟨x,t,rfl,e⟩
theorem sI (i:Int) (t:Tok):kK (.inl i) (.int i t)=true:=by simp [kK,Value.isInt]
theorem sG (x:Str) (t:Tok):kK (.inr x) (.str x t)=true:=by simp [kK,Value.isStrOf]
theorem xq (a b:Int):decide ((Sum.inl a:Key)=Sum.inl b)=(a == b):=by
  by_cases e:a=b
  · subst e;simp
  · have h:¬ (Sum.inl a:Key)=Sum.inl b:=fun q=>e (Sum.inl.inj q);rw [decide_eq_false h];exact (beq_eq_false_iff_ne.mpr e).symm
theorem xn (a b:Str):decide ((Sum.inr a:Key)=Sum.inr b)=decide (a=b):=by
  by_cases e:a=b
  · subst e;simp
  · have h:¬ (Sum.inr a:Key)=Sum.inr b:=fun q=>e (Sum.inr.inj q);rw [decide_eq_false h,decide_eq_false e]
theorem xp (a:Int) (b:Str):decide ((Sum.inl a:Key)=Sum.inr b)=false:=decide_eq_false (fun q=>nomatch q)
theorem xo (a:Str) (b:Int):decide ((Sum.inr a:Key)=Sum.inl b)=false:=decide_eq_false (fun q=>nomatch q)
def bA (prog:Program) (w:World):PySem.KeyKind prog w Key where
  is:=kK
  hash:=yU w
  inj:=fun v a b ha hb=>by
    rcases bN ha with ⟨i,t,rfl,rfl⟩|⟨x,t,rfl,rfl⟩
    · rcases bN hb with ⟨j,u,rfl,e⟩|⟨y,u,rfl,e⟩
      · injection e with e1 _;rw [e1]
      · exact nomatch e
    · rcases bN hb with ⟨j,u,rfl,e⟩|⟨y,u,rfl,e⟩
      · exact nomatch e
      · injection e with e1 _;rw [e1]
  byValue:=fun k v h=>by
    rcases bN h with ⟨i,t,rfl,rfl⟩|⟨x,t,rfl,rfl⟩ <;> rfl
  pyHash:=fun hv h=>by
    rcases bN hv with ⟨i,t,rfl,rfl⟩|⟨x,t,rfl,rfl⟩
    · exact wpAny_pyHash_int h
    · exact wpAny_pyHash_str h
  eqBool:=fun hu hv h=>by
    rcases bN hu with ⟨i,t,rfl,rfl⟩|⟨x,t,rfl,rfl⟩
    · rcases bN hv with ⟨j,u,rfl,rfl⟩|⟨y,u,rfl,rfl⟩
      · rw [xq] at h;exact wpAny_eqBool_int h
      · rw [xp] at h;exact SeqAt.EqAt.int_str i t y u _ _ _ _ h
    · rcases bN hv with ⟨j,u,rfl,rfl⟩|⟨y,u,rfl,rfl⟩
      · rw [xo] at h;exact SeqAt.EqAt.str_int x t j u _ _ _ _ h
      · rw [xn] at h;exact wpAny_eqBool_str h
  «strs»:=fun k x t v h=>by
    rcases bN h with ⟨i,u,rfl,e⟩|⟨y,u,rfl,e⟩
    · exact nomatch e
    · injection e with e1 _
      subst e1;cases v <;> rfl
theorem qk (prog:Program) (w:World) (k:Key) (v:Value):(bA prog w).is k v=kK k v:=rfl
theorem oU (prog:Program) (w:World) (i:Int) (t:Tok):(bA prog w).is (.inl i) (.int i t)=true:=sI i t
theorem oS (prog:Program) (w:World) (x:Str) (t:Tok):(bA prog w).is (.inr x) (.str x t)=true:=sG x t
open PySem PySem.Spec PyProof.Rows
inductive V where
  | non|bl (b:Bool)|int (i:Int)|str (x:Str)|byt (b:Array UInt8)|flt (b:UInt64)|ref (a:Addr)|ty (n:String)
  deriving DecidableEq
def RelV:V→Value→Prop
  | .non,u=>u=Value.none
  | .bl b,u=>u=Value.bool b
  | .int i,u=>∃ t,u=Value.int i t
  | .str x,u=>∃ t,u=Value.str x t
  | .byt b,u=>∃ t,u=Value.bytes b t
  | .flt b,u=>∃ t,u=Value.float b t
  | .ref a,u=>u=Value.ref a
  | .ty n,u=>u=Value.type n
abbrev Vals:List V→List Value→Prop:=Paired RelV
theorem Vals.length {xs:List V} {us:List Value} (r:Vals xs us):xs.length=us.length:=ab6 r
theorem Vals.get:∀ {xs:List V} {us:List Value} {i:Nat} {x:V},Vals xs us→xs[i]?=some x→∃ u,us[i]?=some u∧RelV x u
  | _,_,_,_,.nil,e=>by simp at e
  | _,_,0,_,.cons r _,e=>by simp at e;subst e;exact ⟨_,rfl,r⟩
  | _,_,i+1,x,.cons _ t,e=>by
    obtain ⟨u,h1,h2⟩:=Vals.get (i:=i) (x:=x) t (by simpa using e);exact ⟨u,by simpa using h1,h2⟩
theorem Vals.set {x:V} {u:Value} (r:RelV x u):∀ {xs:List V} {us:List Value} (i:Nat),Vals xs us→Vals (xs.set i x) (us.set i u)
  | _,_,_,.nil=>.nil
  | _,_,0,.cons _ t=>.cons r t
  | _,_,i+1,.cons q t=>.cons q (Vals.set r i t)
theorem Vals.append {xs ys:List V} {us ws:List Value} (h:Vals xs us) (s:Vals ys ws):Vals (xs++ys) (us++ws):=by
  induction h with
  | nil=>exact s
  | cons r t ih=>exact .cons r ih
theorem Vals.take:∀ {xs:List V} {us:List Value} (n:Nat),Vals xs us→Vals (xs.take n) (us.take n)
  | _,_,0,_=>.nil
  | _,_,_+1,.nil=>.nil
  | _,_,n+1,.cons r t=>.cons r (Vals.take n t)
theorem Vals.drop:∀ {xs:List V} {us:List Value} (n:Nat),Vals xs us→Vals (xs.drop n) (us.drop n)
  | _,_,0,r=>r
  | _,_,_+1,.nil=>.nil
  | _,_,n+1,.cons _ t=>Vals.drop n t
def RelO:Option V→Option Value→Prop
  | some v,some u=>RelV v u
  | none,none=>True
  | _,_=>False
def KV {κ:Type}:List (κ × V)→List (κ × Value)→Prop:=Paired fun (p:κ × V) (q:κ × Value)=>p.1=q.1∧RelV p.2 q.2
def kV:Key→V
  | .inl i=>.int i
  | .inr x=>.str x
inductive HO where
  | lst (xs:List V)
  | tup (xs:List V)
  | dK (kvs:List (Key × V))|dT (kvs:List (List Key × V))
  | set (S:Int→Bool) (n:Nat)
  | ins (C dx:Addr) (fs:List (Str × V))
  | own (x:Addr)
  | xd (fs:List (Str × V))
  | met (f x:Addr)
  | rng (lo hi:Int)
  | frz (o:Obj) (u:HO)
  | tbl (ps:Array Value)
  | ext (φ:Heap→Prop)
abbrev Hp:=Addr→Option HO
def upd (H:Hp) (a:Addr) (o:HO):Hp:=fun b=>if b=a then some o else H b
theorem ae {H:Hp} {a:Addr} {o:HO}:upd H a o a=some o:=by unfold upd;rw [if_pos rfl]
theorem aw {H:Hp} {a b:Addr} {o:HO} (h:b≠a):upd H a o b=H b:=by unfold upd;rw [if_neg h]
theorem yd {H:Hp} {a b:Addr} {o u:HO} (h:H a=some o) (h':H b=some u) (d:o≠u):a≠b:=by
  intro e;subst e;rw [h] at h';exact d (aa1 h')
theorem ak {H:Hp} {a b:Addr} {o:HO} (h:H a=some o) (h':H b=none):a≠b:=by
  intro e;subst e;rw [h] at h';cases h'
section
variable (P:Program) (w:World)
def ObjOk (H:Hp) (h:Heap) (a:Addr):HO→Prop
  | .lst xs=>xs.length≤sizeLine∧∃ (its:List Value) (n:Nat),Vals xs its∧h.get? a=some { cls:=.type "list",data:=.seq its.toArray n }
  | .tup xs=>xs.length≤sizeLine∧∃ its:List Value,Vals xs its∧IsTup h a its.toArray
  | .dK kvs=>kvs.length≤sizeLine∧(a == sysModules)=false∧∃ vs,KV kvs vs∧h.DictOf (bA P w) a vs
  | .dT kvs=>kvs.length≤sizeLine∧(a == sysModules)=false∧∃ xs:List (List Key × Addr × Value),
      Paired (fun (p:List Key × V) (q:List Key × Addr × Value)=>p.1=q.1∧H q.2.1=some (.tup (p.1.map kV))∧RelV p.2 q.2.2) kvs xs ∧
      ∃ o es ep,h.get? a=some o∧o.ExactDict∧o.data=.dict es ep∧es.toList=xs.map (entryOfKey (tupleKind (bA P w)))∧(xs.map (·.1)).Nodup
  | .set S n=>h.SetOf (intKind P w) a S n
  | .ins C dx fs=>H dx=some (.own a)∧fs.length≤1000∧dx≠a∧h.get? a=some (PySem.W.instObj C dx) ∧
      ∃ mA,h.Ns1 dx mA∧(∀ f,RelO (fs.lookup f) (mA f))∧PySem.Within mA (fs.map (·.1))
  | .own _=>∃ o,h.get? a=some o
  | .xd fs=>∃ mA,h.Ns1 a mA∧∀ f,RelO (fs.lookup f) (mA f)
  | .rng lo hi=>∃ t u v,h.get? a=some { cls:=.type "range",data:=.fields #[.int lo t,.int hi u,.int 1 v] }
  | .frz o u=>h.get? a=some o∧ObjOk H h a u
  | .tbl ps=>h.get? a=some { cls:=.none,data:=.fields ps }
  | .met f x=>h.get? a=some (PySem.W.methodObj (.ref f) (.ref x))
  | .ext φ=>φ h∧(∃ o,h.get? a=some o)∧∀ h1 h2:Heap,φ h1→(∀ o,h1.get? a=some o→h2.get? a=some o)→φ h2
def HOk (H:Hp) (h:Heap):Prop:=∀ a o,H a=some o→ObjOk P w H h a o
end
section
variable {P:Program} {w:World} {H H':Hp} {h h':Heap} {a:Addr} {o:HO}
theorem ObjOk.lt (x:ObjOk P w H h a o):a < h.objs.size:=by
  cases o with
  | lst xs=>obtain ⟨_,_,_,_,e⟩:=x;exact aat e
  | tup xs=>obtain ⟨_,_,_,p⟩:=x;exact p.lt
  | dK kvs=>obtain ⟨_,_,_,_,o,_,_,e,_⟩:=x;exact aat e
  | dT kvs=>obtain ⟨_,_,_,_,o,_,_,e,_⟩:=x;exact aat e
  | set S n=>obtain ⟨o,_,_,_,e,_⟩:=x;exact aat e
  | ins C dx fs=>obtain ⟨_,_,_,e,_⟩:=x;exact aat e
  | own y=>obtain ⟨_,e⟩:=x;exact aat e
  | xd fs=>obtain ⟨_,⟨_,_,_,e,_⟩,_⟩:=x;exact aat e
  | rng lo hi=>obtain ⟨_,_,_,e⟩:=x;exact aat e
  | frz ob u=>obtain ⟨e,_⟩:=x;exact aat e
  | tbl ps=>exact aat (show h.get? a=some _ from x)
  | met f y=>exact aat (show h.get? a=some _ from x)
  | ext φ=>obtain ⟨_,⟨_,e⟩,_⟩:=x;exact aat e
theorem Paired.mapP {α β:Type} {F G:α→β→Prop} {l₁:List α} {l₂:List β} (h:Paired F l₁ l₂) (f:∀ a b,F a b→G a b):Paired G l₁ l₂:=by
  induction h with
  | nil=>exact .nil
  | cons r t ih=>exact .cons (f _ _ r) ih
theorem ObjOk.stay (x:ObjOk P w H h a o) (k:∀ b u,(b=a∨H b=some (.own a))→h.get? b=some u→h'.get? b=some u)
    (ho:∀ b,H b=some (.own a)→H' b=some (.own a)) (ht:∀ b xs,H b=some (.tup xs)→H' b=some (.tup xs)):ObjOk P w H' h' a o:=by
  induction o with
  | lst xs=>obtain ⟨z,its,n,r,e⟩:=x;exact ⟨z,its,n,r,k _ _ (.inl rfl) e⟩
  | tup xs=>obtain ⟨z,its,r,ob,e,c⟩:=x;exact ⟨z,its,r,ob,k _ _ (.inl rfl) e,c⟩
  | dK kvs=>obtain ⟨z,y,vs,r,ob,es,ep,e,c⟩:=x;exact ⟨z,y,vs,r,ob,es,ep,k _ _ (.inl rfl) e,c⟩
  | dT kvs =>
    obtain ⟨z,y,xs,r,ob,es,ep,e,c⟩:=x;exact ⟨z,y,xs,Paired.mapP r fun p q z=>⟨z.1,ht _ _ z.2.1,z.2.2⟩,ob,es,ep,k _ _ (.inl rfl) e,c⟩
  | set S n=>obtain ⟨ob,es,ep,t,e,c⟩:=x;exact ⟨ob,es,ep,t,k _ _ (.inl rfl) e,c⟩
  | ins C dx fs =>
    obtain ⟨d,z,ne,e,mA,⟨od,es,ep,e2,c⟩,r⟩:=x;exact ⟨ho _ d,z,ne,k _ _ (.inl rfl) e,mA,⟨od,es,ep,k _ _ (.inr d) e2,c⟩,r⟩
  | own y=>obtain ⟨ob,e⟩:=x;exact ⟨ob,k _ _ (.inl rfl) e⟩
  | xd fs=>obtain ⟨mA,⟨od,es,ep,e,c⟩,r⟩:=x;exact ⟨mA,⟨od,es,ep,k _ _ (.inl rfl) e,c⟩,r⟩
  | rng lo hi=>obtain ⟨t,u,v,e⟩:=x;exact ⟨t,u,v,k _ _ (.inl rfl) e⟩
  | frz ob u ih=>obtain ⟨e,q⟩:=x;exact ⟨k _ _ (.inl rfl) e,ih q⟩
  | tbl ps =>
    have e:h.get? a=some { cls:=.none,data:=.fields ps }:=x;show h'.get? a=some { cls:=.none,data:=.fields ps };exact k a _ (.inl rfl) e
  | met f y =>
    have e:h.get? a=some (PySem.W.methodObj (.ref f) (.ref y)):=x;show h'.get? a=some (PySem.W.methodObj (.ref f) (.ref y));exact k a _ (.inl rfl) e
  | ext φ=>obtain ⟨p,⟨o,e⟩,st⟩:=x;exact ⟨st _ _ p fun o q=>k _ _ (.inl rfl) q,⟨o,k _ _ (.inl rfl) e⟩,st⟩
theorem HOk.lt (x:HOk P w H h) (e:H a=some o):a < h.objs.size:=(x a o e).lt
theorem HOk.fresh (x:HOk P w H h) (e:h.objs.size≤a):H a=none:=by
  cases q:H a with
  | none=>rfl
  | some u=>exact absurd (aas (x.lt q) e) (abm _)
theorem HOk.kept (x:HOk P w H h) (k:∀ b u,h.get? b=some u→h'.get? b=some u):HOk P w H h':=fun a o e =>
  (x a o e).stay (fun b u _ q=>k b u q) (fun _ q=>q) fun _ _ q=>q
theorem HOk.laid (x:HOk P w H h) (k:∀ b u,h.get? b=some u→h'.get? b=some u) (hp:h.objs.size≤a) (new:ObjOk P w (upd H a o) h' a o):HOk P w (upd H a o) h':=fun b u e=>by
  have hn:=x.fresh hp;by_cases hb:b=a
  · subst hb;rw [ae] at e;cases e;exact new
  · rw [aw hb] at e;exact (x b u e).stay (fun c v _ q=>k c v q) (fun c q=>by rw [aw (ak q hn)];exact q) fun c xs q=>by rw [aw (ak q hn)];exact q
end
def Rd (H:Hp) (a:Addr) (u:HO):Prop:=H a=some u∨∃ o,H a=some (.frz o u)
theorem Rd.ok {P:Program} {w:World} {H:Hp} {h:Heap} {a:Addr} {u:HO} (r:Rd H a u) (x:HOk P w H h):ObjOk P w H h a u:=by
  rcases r with r|⟨o,r⟩
  · exact x a u r
  · obtain ⟨_,q⟩:=x a _ r;exact q
def Mut:Option HO→Prop
  | some (.lst _)=>True
  | some (.dK _)=>True
  | some (.dT _)=>True
  | some (.set _ _)=>True
  | some (.ins _ _ _)=>True
  | some (.ext _)=>True
  | _=>False
section
variable {P:Program} {w:World} {H:Hp} {h h':Heap} {x e:Addr} {o':HO}
theorem HOk.write (ok:HOk P w H h) (mu:Mut (H x)) (he:e=x∨H e=some (.own x)) (k:∀ b u,b≠e→h.get? b=some u→h'.get? b=some u) (heo:∃ u,h'.get? e=some u)
    (new:ObjOk P w (upd H x o') h' x o'):HOk P w (upd H x o') h':=fun b u q=>by
  have nown:∀ c y,H c=some (.own y)→c≠x:=fun c y r z=>by subst z;rw [r] at mu;exact mu
  have ntup:∀ c xs,H c=some (.tup xs)→c≠x:=fun c xs r z=>by subst z;rw [r] at mu;exact mu
  by_cases hb:b=x
  · subst hb;rw [ae] at q;cases q;exact new
  · rw [aw hb] at q;by_cases hbe:b=e
    · have q':H b=some (.own x):=by
        rcases he with z|z
        · exact absurd (hbe.trans z) hb
        · rw [hbe];exact z
      rw [q] at q';cases q';obtain ⟨v,hv⟩:=heo;exact ⟨v,by rw [hbe];exact hv⟩
    · refine (ok b u q).stay (fun c v hc r=>k c v ?_ r) (fun c r=>by rw [aw (nown c b r)];exact r) fun c xs r=>by rw [aw (ntup c xs r)];exact r
      rcases hc with rfl|hc
      · exact hbe
      · rintro rfl;rcases he with z|z
        · exact nown c b hc z
        · rw [hc] at z;cases z;exact hb rfl
end
structure Un (fs ex:List Addr) (H H':Hp) (h h':Heap):Prop where
  keep:∀ b o,h.get? b=some o→H b=none→b∉fs→b∉ex→h'.get? b=some o
  slot:∀ b o,h.get? b=some o→H b=none→b∈fs→b∉ex→∃ sl,h'.get? b=some { o with slots:=sl }
  free:∀ b o,h.get? b=some o→H b=none→b∉ex→H' b=none
  there:∀ b o,h.get? b=some o→b∉ex→∃ o',h'.get? b=some o'
  tups:∀ b xs,H b=some (.tup xs)→H' b=some (.tup xs)
  frzs:∀ b o u,H b=some (.frz o u)→H' b=some (.frz o u)
  tbls:∀ b ps,H b=some (.tbl ps)→∃ more,H' b=some (.tbl (ps++more))
section
variable {fs fs' ex ex':List Addr} {H H1 H2:Hp} {h h1 h2 h':Heap} {a x e:Addr} {o:HO}
theorem Un.any (u:Un fs ex H H1 h h1) {b:Addr} {ob:Obj} (q:h.get? b=some ob) (n:H b=none) (hx:b∉ex):∃ sl,h1.get? b=some { ob with slots:=sl }:=by
  by_cases hb:b∈fs
  · exact u.slot b ob q n hb hx
  · exact ⟨ob.slots,u.keep b ob q n hb hx⟩
theorem Un.trans (a:Un fs ex H H1 h h1) (b:Un fs ex H1 H2 h1 h2):Un fs ex H H2 h h2 where
  keep:=fun c ob q n hc hx=>b.keep c ob (a.keep c ob q n hc hx) (a.free c ob q n hx) hc hx
  slot:=fun c ob q n hc hx=>by
    obtain ⟨sl,e1⟩:=a.slot c ob q n hc hx;obtain ⟨sl',e2⟩:=b.slot c _ e1 (a.free c ob q n hx) hc hx;exact ⟨sl',e2⟩
  free:=fun c ob q n hx=>by
    obtain ⟨o',e1⟩:=a.there c ob q hx;exact b.free c o' e1 (a.free c ob q n hx) hx
  there:=fun c ob q hx=>by
    obtain ⟨o',e1⟩:=a.there c ob q hx;exact b.there c o' e1 hx
  tups:=fun c xs q=>b.tups c xs (a.tups c xs q)
  frzs:=fun c ob xs q=>b.frzs c ob xs (a.frzs c ob xs q)
  tbls:=fun c ps q=>by
    obtain ⟨m1,e1⟩:=a.tbls c ps q;obtain ⟨m2,e2⟩:=b.tbls c _ e1;exact ⟨m1++m2,by rw [e2,Array.append_assoc]⟩
theorem Un.kept (k:∀ b u,h.get? b=some u→h'.get? b=some u):Un fs ex H H h h' :=
  ⟨fun b ob q _ _ _=>k b ob q,fun b ob q _ _ _=>⟨ob.slots,k b ob q⟩,fun _ _ _ n _=>n,fun b ob q _=>⟨ob,k b ob q⟩,fun _ _ q=>q,fun _ _ _ q=>q,fun _ ps q=>⟨#[],by rw [q];simp⟩⟩
theorem Un.refl:Un fs ex H H h h:=Un.kept fun _ _ q=>q
theorem Un.laid (k:∀ b u,h.get? b=some u→h'.get? b=some u) (hp:h.objs.size≤a) (hn:H a=none):Un fs ex H (upd H a o) h h' where
  keep:=fun b u q _ _ _=>k b u q
  slot:=fun b u q _ _ _=>⟨u.slots,k b u q⟩
  free:=fun b u q n _=>by rw [aw (aaE (aas (aat q) hp))];exact n
  there:=fun b u q _=>⟨u,k b u q⟩
  tups:=fun b xs q=>by rw [aw (ak q hn)];exact q
  frzs:=fun b u xs q=>by rw [aw (ak q hn)];exact q
  tbls:=fun b ps q=>⟨#[],by rw [aw (ak q hn),q];simp⟩
theorem Un.write (mu:Mut (H x)) (he:e=x∨H e=some (.own x)) (k:∀ b u,b≠e→h.get? b=some u→h'.get? b=some u) (heo:∃ u,h'.get? e=some u):Un fs ex H (upd H x o) h h':=by
  have hx:∀ b,H b=none→b≠x:=fun b n z=>by subst z;rw [n] at mu;exact mu
  have hb:∀ b,H b=none→b≠e:=fun b n z=>by
    subst z;rcases he with r|r
    · exact hx b n r
    · rw [n] at r;cases r
  have hm:∀ b u,H b=some u→¬ Mut (some u)→b≠x:=fun b u q nm z=>by subst z;rw [q] at mu;exact nm mu
  refine ⟨fun b u q n _ _=>k b u (hb b n) q,fun b u q n _ _=>⟨u.slots,k b u (hb b n) q⟩,fun b u q n _=>by rw [aw (hx b n)];exact n,fun b u q _=>?_,
    fun b xs q=>by rw [aw (hm b _ q fun z=>z)];exact q,fun b u xs q=>by rw [aw (hm b _ q fun z=>z)];exact q,fun b ps q=>⟨#[],by rw [aw (hm b _ q fun z=>z),q];simp⟩⟩
  by_cases hbe:b=e
  · subst hbe;exact heo
  · exact ⟨u,k b u hbe q⟩
theorem Un.mono (u:Un fs ex H H1 h h1) (hs:∀ b∈fs,b∈fs') (hx:∀ b∈ex,b∈ex'):Un fs' ex' H H1 h h1 :=
  ⟨fun b ob q n hb he=>u.keep b ob q n (fun z=>hb (hs b z)) fun z=>he (hx b z),fun _ _ q n _ he=>u.any q n fun z=>he (hx _ z),fun b ob q n he=>u.free b ob q n fun z=>he (hx b z),fun b ob q he=>u.there b ob q fun z=>he (hx b z),u.tups,u.frzs,u.tbls⟩
end
def trk (h:Heap) (H:Hp):List Addr:=(aaQ h.objs.size).filter fun a=>(H a).isSome
def lS (h:Heap) (H:Hp):Heap:=PySem.W.hideAll h (trk h H)
theorem sM (h:Heap) (H:Hp):(lS h H).objs.size=h.objs.size:=PySem.W.hideAll_size _ _
theorem uD {h:Heap} {H:Hp} {b:Addr} {o:Obj} (e:h.get? b=some o) (n:H b=none):(lS h H).get? b=some o :=
  PySem.W.hideAll_get _ e fun hm=>by
    have q:(H b).isSome=true:=(List.mem_filter.mp hm).2;rw [n] at q;simp at q
theorem vF {h:Heap} {H:Hp} {b:Addr} {o:Obj} (e:(lS h H).get? b=some o):h.get? b=some o∧H b=none:=by
  have e':h.get? b=some o:=PySem.W.of_hideAll (trk h H) e;refine ⟨e',?_⟩;cases q:H b with
  | none=>rfl
  | some x =>
    have hm:b∈trk h H:=List.mem_filter.mpr ⟨aaV.mpr (aat e'),by simp [q]⟩;have z:(lS h H).get? b=none:=PySem.W.hideAll_none (trk h H) hm;rw [z] at e;cases e
def gW (g h:Heap) (L:Addr):List (Addr × Obj):=(aaQ h.objs.size).filterMap fun a=>if a=L∨(g.get? a).isSome=true then none else (h.get? a).map fun o=>(a,o)
theorem jw {g h:Heap} {L a:Addr} {o:Obj} (h1:a≠L) (h2:g.get? a=none) (h3:h.get? a=some o):(a,o)∈gW g h L :=
  List.mem_filterMap.mpr ⟨a,aaV.mpr (aat h3),by simp [h1,h2,h3]⟩
theorem kB {g h:Heap} {L:Addr} {p:Addr × Obj} (hp:p∈gW g h L):p.1≠L∧g.get? p.1=none∧h.get? p.1=some p.2:=by
  obtain ⟨b,_,e⟩:=List.mem_filterMap.mp hp;split at e
  · cases e
  · rename_i hn;cases q:h.get? b with
    | none=>rw [q] at e;simp at e
    | some u =>
      rw [q] at e;simp only [ab5,Option.some.injEq] at e;subst e;refine ⟨fun z=>hn (.inl z),?_,q⟩;show g.get? b=none;cases r:g.get? b with
      | none=>rfl
      | some v=>exact (hn (.inr (by simp [r]))).elim
def dz (g h:Heap) (L d:Addr):List (Addr × Obj):=(gW g h L).filter fun p=>decide (p.1≠d)
theorem uk {g h:Heap} {L:Addr}:News g L h (gW g h L):=fun p hp=>let ⟨a,b,c⟩:=kB hp;⟨c,a,b⟩
open PySem PySem.Spec PyProof.Rows
structure Mod (K:aaa) (mg:Str→Option Value) (base:Heap):Prop where
  kin:K.In base
  glob:base.Ns mainGlobals mg
  blt:∃ mb,base.Ns builtinsNs mb∧∀ x:Str,x ≠ "__name__"→mb x=bootBuiltins x
  nolimit:base.NoLimit
  sysm:∃ mm,base.Ns sysModules mm
structure Cx where
  prog:Program
  w:World
  K:aaa
  mg:Str→Option Value
  base:Heap
  A:Around
  N:List Str
  s₀:Shared
  H₀:Hp
  env:Env
  outer:List Env
  stack:List Env
  ex:List Addr
  fn:Str→Bool
  calm:Bool
  pn:List (Addr × Obj)
  xe:Value→Shared→Prop
def frs (l:List Env):List Addr:=l.filterMap (·.frame)
abbrev Cx.fs (X:Cx):List Addr:=frs X.outer
def Vis (sc:Scope) (x:Str):Prop:=sc.names.lookup x=some .local∨sc.names.lookup x=some .cell∨sc.names.lookup x=some .free
def Loc (sc:Scope) (x:Str):Prop:=sc.names.lookup x=some .local∨sc.names.lookup x=some .cell
def xH (env:Env) (h:Heap) (m:Str→Option Value) (x:Str) (u:Value):Prop :=
  (env.kindOf x=some .local∧m x=some u)∨((env.kindOf x=some .cell∨env.kindOf x=some .free)∧∃ c,env.cells.lookup x=some c∧h.IsCell c (some u))
structure Cx.Ok (X:Cx):Prop where
  mod:Mod X.K X.mg X.base
  kind:X.env.scope.kind=.function
  glob:X.env.globals=mainGlobals
  blt:X.env.builtins=builtinsNs
  above:X.s₀.heap.objs.size≤X.env.locals
  inj:∀ x y c,X.env.cells.lookup x=some c→X.env.cells.lookup y=some c→x=y
  has:∀ x,(X.env.kindOf x=some .cell∨X.env.kindOf x=some .free)→∃ c,X.env.cells.lookup x=some c
  cab:∀ x c,X.fn x=true→X.env.cells.lookup x=some c→X.s₀.heap.objs.size≤c
  hd:X.calm=true→X.A.handled=none
  frames:X.A.frames=some X.stack
  stk:X.stack=X.outer∨(X.stack=X.env :: X.outer∧X.env.frame=some X.env.locals)
  exf:∀ b∈X.ex,b≠X.env.locals∧∀ x c,X.env.cells.lookup x=some c→c≠b
  bs:∀ b o,X.base.get? b=some o→X.s₀.heap.get? b=some o∧X.H₀ b=none
  bsz:X.base.objs.size≤X.s₀.heap.objs.size
  noex:∀ b o,X.base.get? b=some o→b∉X.ex
  exfs:∀ b∈X.ex,b∉X.fs
  funs:X.s₀.heap.FunFrames X.base X.outer
  frf:∀ b∈X.fs,X.H₀ b=none
structure Inv (X:Cx) (pins:List (Addr × Obj)) (σ:List (Option V)) (H:Hp) (s:Shared):Prop where
  ok:X.Ok
  os:s.os=X.s₀.os
  bare:AllBare s.gens
  base:Un X.fs X.ex X.H₀ H X.s₀.heap s.heap
  loc:∃ m,s.heap.Ns X.env.locals m∧∀ (i:Nat) (x:Str) (v:V),X.N[i]?=some x→σ[i]?=some (some v)→Vis X.env.scope x→∃ u,RelV v u∧xH X.env s.heap m x u
  cell:∀ x c,X.env.cells.lookup x=some c→∃ v,s.heap.IsCell c v
  free:H X.env.locals=none
  freeC:∀ x c,X.env.cells.lookup x=some c→H c=none
  pin:∀ p∈X.pn++pins,s.heap.get? p.1=some p.2∧H p.1=none∧p.1≠X.env.locals∧p.1∉X.fs∧∀ v,p.2.data≠.cell v
  hok:HOk X.prog X.w H s.heap
  len:σ.length=X.N.length
section
variable {X:Cx} {pins:List (Addr × Obj)} {σ:List (Option V)} {H H':Hp} {s:Shared} {h':Heap}
theorem Cx.Ok.nofr (ok:X.Ok) {b:Addr} {o:Obj} (e:X.base.get? b=some o):b∉X.fs:=fun hb=>by
  have:=(ok.funs.mem hb).1;rw [e] at this;cases this
theorem Inv.bs (I:Inv X pins σ H s):∀ b o,X.base.get? b=some o→s.heap.get? b=some o∧H b=none:=fun b o e =>
  ⟨I.base.keep b o (I.ok.bs b o e).1 (I.ok.bs b o e).2 (I.ok.nofr e) (I.ok.noex b o e),I.base.free b o (I.ok.bs b o e).1 (I.ok.bs b o e).2 (I.ok.noex b o e)⟩
theorem Inv.bk (I:Inv X pins σ H s):∀ b o,X.base.get? b=some o→s.heap.get? b=some o:=fun b o e=>(I.bs b o e).1
theorem Inv.mod (I:Inv X pins σ H s):Mod X.K X.mg X.base:=I.ok.mod
theorem Inv.kIn (I:Inv X pins σ H s):X.K.In s.heap:=I.ok.mod.kin.keeps I.bk
theorem Inv.fr (I:Inv X pins σ H s):∃ m,Fr X.base X.env.locals s.heap m :=
  let ⟨m,hn,_⟩:=I.loc
  ⟨m,hn,I.bk,aaT I.ok.bsz I.ok.above⟩
theorem Inv.lt (I:Inv X pins σ H s):X.env.locals < s.heap.objs.size:=let ⟨_,hn,_⟩:=I.loc;hn.lt
theorem Inv.sz (I:Inv X pins σ H s):X.s₀.heap.objs.size≤s.heap.objs.size:=aaT I.ok.above (abo I.lt)
theorem Inv.nofs (I:Inv X pins σ H s) {a:Addr} (h:s.heap.objs.size≤a):a∉X.fs:=fun hb=>by
  obtain ⟨_,o,ho,_⟩:=I.ok.funs.mem hb;exact absurd (aas (aat ho) (aaT I.sz h)) (abm _)
theorem Inv.cne (I:Inv X pins σ H s):∀ x c,X.env.cells.lookup x=some c→c≠X.env.locals:=fun x c e z=>by
  obtain ⟨v,o,ho,hd⟩:=I.cell x c e;obtain ⟨m,⟨o',es,ep,ho',hd',_⟩,_⟩:=I.loc;rw [z,ho'] at ho;cases ho;rw [hd'] at hd;cases hd
theorem Inv.funs (I:Inv X pins σ H s):s.heap.FunFrames X.base X.outer:=by
  have all:∀ (l:List Env),(∀ b∈frs l,b∈X.fs)→X.s₀.heap.FunFrames X.base l→s.heap.FunFrames X.base l:=by
    intro l
    induction l with
    | nil=>intro _ _;trivial
    | cons env r ih =>
      intro hs hl;obtain ⟨hk,⟨L,o,hf,hn,ho,hd⟩,hr⟩:=hl;have hL:L∈X.fs:=hs L (by unfold frs;rw [abq,hf];exact aav);obtain ⟨sl,e⟩:=I.base.slot L o ho (I.ok.frf L hL) hL fun z=>I.ok.exfs L z hL;exact ⟨hk,⟨L,_,hf,hn,e,hd⟩,ih (fun b hb=>hs b (by unfold frs;rw [abq,hf];exact aai _ hb)) hr⟩
  exact all X.outer (fun _ hb=>hb) I.ok.funs
theorem Inv.stack (I:Inv X pins σ H s):s.heap.FunFrames X.base X.stack:=by
  rcases I.ok.stk with e|⟨e,hf⟩
  · rw [e];exact I.funs
  · rw [e];obtain ⟨m,hn,_⟩:=I.loc;refine .cons (by rw [I.ok.kind];decide) hf hn ?_ I.funs;exact Heap.get?_none_of_le (aaT I.ok.bsz I.ok.above)
theorem Inv.stkSub (I:Inv X pins σ H s):∀ b∈frs X.stack,b∈X.env.locals :: X.fs:=fun b hb=>by
  rcases I.ok.stk with e|⟨e,hf⟩
  · rw [e] at hb;exact aai _ hb
  · rw [e] at hb;unfold frs at hb;rw [abq,hf] at hb;exact hb
theorem Inv.stkFree (I:Inv X pins σ H s):∀ b∈frs X.stack,H b=none:=fun b hb=>by
  rcases aao.mp (I.stkSub b hb) with e|hb
  · rw [e];exact I.free
  · obtain ⟨_,o,ho,_⟩:=I.ok.funs.mem hb;exact I.base.free b o ho (I.ok.frf b hb) fun z=>I.ok.exfs b z hb
theorem Inv.step {g':Array GenState} {t':Nat} {d':Drawn} {ch:List Addr} (I:Inv X pins σ H s)
    (hch:∀ b∈ch,(b∈X.ex∨X.s₀.heap.objs.size≤b)∧b≠X.env.locals∧(∀ x c,X.env.cells.lookup x=some c→c≠b)∧∀ p∈X.pn++pins,p.1≠b)
    (keep:∀ b o,b≠X.env.locals→b∉X.fs→b∉ch→s.heap.get? b=some o→H b=none→h'.get? b=some o)
    (slot:∀ b o,b≠X.env.locals→b∈X.fs→b∉ch→s.heap.get? b=some o→H b=none→∃ sl,h'.get? b=some { o with slots:=sl }) (free:∀ b o,b∉ch→s.heap.get? b=some o→H b=none→H' b=none)
    (there:∀ b o,b∉ch→s.heap.get? b=some o→∃ o',h'.get? b=some o')
    (tups:∀ b xs,H b=some (.tup xs)→H' b=some (.tup xs)) (frzs:∀ b o u,H b=some (.frz o u)→H' b=some (.frz o u)) (tbls:∀ b ps,H b=some (.tbl ps)→∃ more,H' b=some (.tbl (ps++more)))
    (ns:∀ m,s.heap.Ns X.env.locals m→h'.Ns X.env.locals m) (hok:HOk X.prog X.w H' h') (hg:AllBare g') :
    Inv X pins σ H' { s with heap:=h',gens:=g',drawn:=d',toks:=t' }:=by
  have neL:∀ b o,X.s₀.heap.get? b=some o→b≠X.env.locals:=fun b o e=>aaE (aas (aat e) I.ok.above);have neC:∀ b o,X.s₀.heap.get? b=some o→b∉X.ex→b∉ch:=fun b o e hx hb=>by
    rcases (hch b hb).1 with z|z
    · exact hx z
    · exact absurd (aas (aat e) z) (abm _)
  have cellK:∀ x c,X.env.cells.lookup x=some c→∀ v,s.heap.IsCell c v→h'.IsCell c v:=fun x c e v ⟨o,ho,hd⟩=>by
    have nch:c∉ch:=fun z=>(hch c z).2.2.1 x c e rfl;by_cases hc:c∈X.fs
    · obtain ⟨sl,q⟩:=slot c o (I.cne x c e) hc nch ho (I.freeC x c e);exact ⟨_,q,hd⟩
    · exact ⟨o,keep c o (I.cne x c e) hc nch ho (I.freeC x c e),hd⟩
  refine ⟨I.ok,I.os,hg,⟨fun b o e n hb hx=>?_,fun b o e n hb hx=>?_,fun b o e n hx=>?_,fun b o e hx=>?_,fun b xs e=>tups b xs (I.base.tups b xs e),fun b o xs e=>frzs b o xs (I.base.frzs b o xs e),fun b ps e=>?_⟩,?_,fun x c e=>?_,?_,fun x c e=>?_,fun p hp=>?_,hok,I.len⟩
  · exact keep b o (neL b o e) hb (neC b o e hx) (I.base.keep b o e n hb hx) (I.base.free b o e n hx)
  · obtain ⟨sl,e1⟩:=I.base.slot b o e n hb hx;obtain ⟨sl',e2⟩:=slot b _ (neL b o e) hb (neC b o e hx) e1 (I.base.free b o e n hx);exact ⟨sl',e2⟩
  · obtain ⟨o',e1⟩:=I.base.there b o e hx;exact free b o' (neC b o e hx) e1 (I.base.free b o e n hx)
  · obtain ⟨o',e1⟩:=I.base.there b o e hx;exact there b o' (neC b o e hx) e1
  · obtain ⟨m1,e1⟩:=I.base.tbls b ps e;obtain ⟨m2,e2⟩:=tbls b _ e1;exact ⟨m1++m2,by rw [e2,Array.append_assoc]⟩
  · obtain ⟨m,hn,hl⟩:=I.loc;refine ⟨m,ns m hn,fun i x v e1 e2 e3=>?_⟩;obtain ⟨u,r,l⟩:=hl i x v e1 e2 e3;refine ⟨u,r,?_⟩;rcases l with l|⟨k,c,e,z⟩
    · exact .inl l
    · exact .inr ⟨k,c,e,cellK x c e _ z⟩
  · obtain ⟨v,z⟩:=I.cell x c e;exact ⟨v,cellK x c e v z⟩
  · obtain ⟨m,⟨o,_,_,ho,_⟩,_⟩:=I.loc;exact free _ o (fun z=>(hch _ z).2.1 rfl) ho I.free
  · obtain ⟨v,o,ho,hd⟩:=I.cell x c e;exact free c o (fun z=>(hch c z).2.2.1 x c e rfl) ho (I.freeC x c e)
  · obtain ⟨e,n,ne,nf,d⟩:=I.pin p hp;have nch:p.1∉ch:=fun z=>(hch p.1 z).2.2.2 p hp rfl;exact ⟨keep p.1 p.2 ne nf nch e n,free p.1 p.2 nch e n,ne,nf,d⟩
theorem Inv.un {t':Nat} (I:Inv X pins σ H s) (u:Un X.fs [] H H' s.heap h') (hok:HOk X.prog X.w H' h'):Inv X pins σ H' { s with heap:=h',toks:=t' }:=by
  obtain ⟨m,⟨o,es,ep,ho,r⟩,_⟩:=id I.loc;obtain ⟨sl,hL⟩:=u.any ho I.free (by simp);exact I.step (g':=s.gens) (d':=s.drawn) (ch:=[]) (fun _ z=>nomatch z) (fun b o _ hb _ e n=>u.keep b o e n hb (by simp)) (fun b o _ hb _ e n=>u.slot b o e n hb (by simp)) (fun b o _ e n=>u.free b o e n (by simp)) (fun b o _ e=>u.there b o e (by simp)) u.tups u.frzs u.tbls (fun m' hm=>by
    obtain ⟨o',es',ep',ho',r'⟩:=hm;rw [ho] at ho';cases ho';exact ⟨_,es',ep',hL,r'⟩) hok I.bare
theorem Inv.call {g':Array GenState} {t':Nat} {d':Drawn} {ch:List Addr} (I:Inv X pins σ H s) (u:Un (frs X.stack) ch H H' s.heap h') (hok:HOk X.prog X.w H' h') (hg:AllBare g')
    (hch:∀ b∈ch,(b∈X.ex∨X.s₀.heap.objs.size≤b)∧b≠X.env.locals∧(∀ x c,X.env.cells.lookup x=some c→c≠b)∧∀ p∈X.pn++pins,p.1≠b) :
    Inv X pins σ H' { s with heap:=h',gens:=g',drawn:=d',toks:=t' }:=by
  obtain ⟨m,⟨o,es,ep,ho,r⟩,_⟩:=id I.loc;obtain ⟨sl,hL⟩:=u.any ho I.free fun z=>(hch _ z).2.1 rfl;exact I.step (ch:=ch) hch (fun b o hL hb hc e n=>u.keep b o e n (fun z=>(aao.mp (I.stkSub b z)).elim hL hb) hc) (fun b o _ _ hc e n=>u.any e n hc) (fun b o hc e n=>u.free b o e n hc) (fun b o hc e=>u.there b o e hc) u.tups u.frzs u.tbls (fun m' hm=>by
    obtain ⟨o',es',ep',ho',r'⟩:=hm;rw [ho] at ho';cases ho';exact ⟨_,es',ep',hL,r'⟩) hok hg
theorem Inv.turned {t':Nat} {it:Addr} (I:Inv X pins σ H s) (k:∀ b o,b≠it→s.heap.get? b=some o→h'.get? b=some o) (hn:H it=none) (hL:it≠X.env.locals)
    (h1:it∈X.ex∨X.s₀.heap.objs.size≤it) (h2:∀ x c,X.env.cells.lookup x=some c→c≠it) (h3:∀ p∈X.pn++pins,p.1≠it):Inv X pins σ H { s with heap:=h',toks:=t' }:=by
  have nit:∀ b u,H b=some u→b≠it:=fun b u e z=>by rw [z,hn] at e;cases e
  refine I.step (g':=s.gens) (d':=s.drawn) (ch:=[it]) (fun b hb=>?_) (fun b o _ _ hc e _=>k b o (fun z=>hc (by simp [z])) e) (fun b o _ _ hc e _=>⟨o.slots,k b o (fun z=>hc (by simp [z])) e⟩) (fun _ _ _ _ n=>n)
    (fun b o hc e=>⟨o,k b o (fun z=>hc (by simp [z])) e⟩) (fun _ _ e=>e) (fun _ _ _ e=>e) (fun b ps e=>⟨#[],by rw [e];simp⟩) (fun m hm=>?_) (fun b u e=>?_) I.bare
  · have e:b=it:=by simpa using hb
    subst e;exact ⟨h1,hL,h2,h3⟩
  · obtain ⟨o,es,ep,ho,r⟩:=hm;exact ⟨o,es,ep,k _ o (abC hL) ho,r⟩
  · refine (I.hok b u e).stay (fun c v hc q=>k c v ?_ q) (fun _ q=>q) fun _ _ q=>q;rcases hc with z|z
    · rw [z];exact nit b u e
    · exact nit c _ z
theorem Inv.tok (I:Inv X pins σ H s) (t:Nat):Inv X pins σ H { s with toks:=t }:=I.un (h':=s.heap) (t':=t) Un.refl I.hok
theorem Inv.kept {t':Nat} (I:Inv X pins σ H s) (k:∀ b u,s.heap.get? b=some u→h'.get? b=some u):Inv X pins σ H { s with heap:=h',toks:=t' }:=I.un (Un.kept k) (I.hok.kept k)
theorem Inv.laid {a:Addr} {o:HO} {t':Nat} (I:Inv X pins σ H s) (k:∀ b u,s.heap.get? b=some u→h'.get? b=some u) (hp:s.heap.objs.size≤a) (new:ObjOk X.prog X.w (upd H a o) h' a o) :
    Inv X pins σ (upd H a o) { s with heap:=h',toks:=t' }:=I.un (Un.laid k hp (I.hok.fresh hp)) (I.hok.laid k hp new)
theorem Inv.write {x e:Addr} {o:HO} {t':Nat} (I:Inv X pins σ H s) (mu:Mut (H x)) (he:e=x∨H e=some (.own x)) (k:∀ b u,b≠e→s.heap.get? b=some u→h'.get? b=some u) (heo:∃ u,h'.get? e=some u)
    (new:ObjOk X.prog X.w (upd H x o) h' x o):Inv X pins σ (upd H x o) { s with heap:=h',toks:=t' }:=I.un (Un.write mu he k heo) (I.hok.write mu he k heo new)
theorem Inv.pins_of {pins':List (Addr × Obj)} (I:Inv X pins σ H s) (h:∀ p∈pins',s.heap.get? p.1=some p.2∧H p.1=none∧p.1≠X.env.locals∧p.1∉X.fs∧∀ v,p.2.data≠.cell v):Inv X pins' σ H s :=
  ⟨I.ok,I.os,I.bare,I.base,I.loc,I.cell,I.free,I.freeC,fun p hp=>(aap.mp hp).elim (fun z=>I.pin p (aaG _ z)) (h p),I.hok,I.len⟩
theorem kC {N:List Str} (hN:N.Nodup) {i j:Nat} {x:Str} (a:N[i]?=some x) (b:N[j]?=some x):i=j:=by
  obtain ⟨h1,e1⟩:=aan.mp a;obtain ⟨h2,e2⟩:=aan.mp b;exact (List.getElem_inj hN).mp (e1.trans e2.symm)
theorem rN {M:Model} {A:Around} {E:Value→Shared→Prop} {i:Nat} {x:Str} {v:V} {u:Value} {Q:Unit→Shared→Prop} (I:Inv X pins σ H s) (hN:X.N.Nodup) (hi:X.N[i]?=some x) (hx:Loc X.env.scope x) (r:RelV v u)
    (h:∀ s',Inv X pins (σ.set i (some v)) H s'→(∃ a,Heap.SameBut a s.heap s'.heap∧(a=X.env.locals∨X.env.cells.lookup x=some a))→Q () s') (hf:X.fn x=true∨X.env.scope.names.lookup x=some .local:=by first|exact .inl rfl|exact .inr rfl|assumption):wpAny M A (storeName X.env x u) Q E s:=by
  obtain ⟨m,hn,hl⟩:=id I.loc;have hcls:(X.env.scope.kind == .class || (X.env.scope.kind == .module && X.env.locals != X.env.globals))=false:=by rw [I.ok.kind];rfl
  have hiσ:i < σ.length:=by rw [I.len];exact (aan.mp hi).1
  have cne:=I.cne;have tracked:∀ {a:Addr} {h':Heap},(∃ o,s.heap.get? a=some o∧H a=none)→Heap.SameBut a s.heap h'→HOk X.prog X.w H h':=fun {a h'} ha hs b ob e=>by
    obtain ⟨_,_,hfree⟩:=ha;refine (I.hok b ob e).stay (fun c w' hc q=>(hs.2 c ?_).trans q) (fun _ q=>q) fun _ _ q=>q;rintro rfl;rcases hc with rfl|hc
    · rw [hfree] at e;cases e
    · rw [hfree] at hc;cases hc
  rcases hx with hk|hk
  · refine wpAny_storeName_local hk hn (fun h' hn' hs=>?_) hcls;obtain ⟨oL,_,_,hoL,_⟩:=id hn;refine h _ ⟨I.ok,I.os,I.bare,⟨fun b o e n hb hx=>?_,fun b o e n hb hx=>?_,I.base.free,fun b o e hx=>?_,I.base.tups,I.base.frzs,I.base.tbls⟩,⟨_,hn',fun j y v' e1 e2 e3=>?_⟩,fun y c e=>?_,I.free,I.freeC,fun p hp=>?_,tracked ⟨oL,hoL,I.free⟩ hs,by simpa using I.len⟩ ⟨_,hs,.inl rfl⟩
    · exact (hs.2 b (aaE (aas (aat e) I.ok.above))).trans (I.base.keep b o e n hb hx)
    · obtain ⟨sl,e1⟩:=I.base.slot b o e n hb hx;exact ⟨sl,(hs.2 b (aaE (aas (aat e) I.ok.above))).trans e1⟩
    · obtain ⟨o',e1⟩:=I.base.there b o e hx;exact ⟨o',(hs.2 b (aaE (aas (aat e) I.ok.above))).trans e1⟩
    · by_cases hj:j=i
      · subst hj;rw [hi] at e1;cases e1;rw [List.getElem?_set_self hiσ] at e2;cases e2;exact ⟨u,r,.inl ⟨hk,by simp⟩⟩
      · rw [List.getElem?_set_ne (abC hj)] at e2;obtain ⟨u',r',q⟩:=hl j y v' e1 e2 e3;refine ⟨u',r',?_⟩;rcases q with ⟨k,e⟩|⟨k,c,e,z⟩
        · refine .inl ⟨k,?_⟩;have : y≠x:=fun e=>hj (kC hN e1 (e ▸ hi));simp [this,e]
        · exact .inr ⟨k,c,e,z.sameBut hs (cne y c e)⟩
    · obtain ⟨w',z⟩:=I.cell y c e;exact ⟨w',z.sameBut hs (cne y c e)⟩
    · obtain ⟨e,n,ne,nf,d⟩:=I.pin p hp;exact ⟨(hs.2 p.1 ne).trans e,n,ne,nf,d⟩
  · have hfn:X.fn x=true:=by
      rcases hf with z|z
      · exact z
      · rw [z] at hk;cases hk
    obtain ⟨c,hc⟩:=I.ok.has x (.inl hk);obtain ⟨w',z⟩:=I.cell x c hc;refine wpAny_storeName_cell I.ok.kind hk hc z (fun h' hc' hs=>?_);obtain ⟨oc,hoc,hocd⟩:=id z;refine h { s with heap:=h' } ⟨I.ok,I.os,I.bare,⟨fun b o e n hb hx=>?_,fun b o e n hb hx=>?_,I.base.free,fun b o e hx=>?_,I.base.tups,I.base.frzs,I.base.tbls⟩,⟨m,hn.sameBut hs (abC (cne x c hc)),fun j y v' e1 e2 e3=>?_⟩,fun y c' e=>?_,I.free,I.freeC,fun p hp=>?_,tracked ⟨oc,hoc,I.freeC x c hc⟩ hs,by simpa using I.len⟩ ⟨c,hs,.inr hc⟩
    · exact (hs.2 b (aaE (aas (aat e) (I.ok.cab x c hfn hc)))).trans (I.base.keep b o e n hb hx)
    · obtain ⟨sl,e1⟩:=I.base.slot b o e n hb hx;exact ⟨sl,(hs.2 b (aaE (aas (aat e) (I.ok.cab x c hfn hc)))).trans e1⟩
    · obtain ⟨o',e1⟩:=I.base.there b o e hx;exact ⟨o',(hs.2 b (aaE (aas (aat e) (I.ok.cab x c hfn hc)))).trans e1⟩
    · by_cases hj:j=i
      · subst hj;rw [hi] at e1;cases e1;rw [List.getElem?_set_self hiσ] at e2;cases e2;exact ⟨u,r,.inr ⟨.inl hk,c,hc,hc'⟩⟩
      · rw [List.getElem?_set_ne (abC hj)] at e2;obtain ⟨u',r',q⟩:=hl j y v' e1 e2 e3;refine ⟨u',r',?_⟩;rcases q with q|⟨k,c',e,z'⟩
        · exact .inl q
        · refine .inr ⟨k,c',e,z'.sameBut hs ?_⟩;rintro rfl;exact hj (kC hN e1 (I.ok.inj _ _ _ e hc ▸ hi))
    · by_cases hcc:c'=c
      · subst hcc;exact ⟨_,hc'⟩
      · obtain ⟨w2,z2⟩:=I.cell y c' e;exact ⟨w2,z2.sameBut hs hcc⟩
    · obtain ⟨e,n,ne,nf,d⟩:=I.pin p hp;refine ⟨(hs.2 p.1 ?_).trans e,n,ne,nf,d⟩;intro q;rw [q,hoc] at e;have q':oc=p.2:=aa1 e;exact d w' (by rw [← q'];exact hocd)
theorem gt {M:Model} {A:Around} {E:Value→Shared→Prop} {i:Nat} {x:Str} {v:V} {u:Value} {Q:Unit→Shared→Prop} (I:Inv X pins σ H s) (hN:X.N.Nodup) (hi:X.N[i]?=some x) (hx:Loc X.env.scope x) (r:RelV v u)
    (h:∀ s',Inv X pins (σ.set i (some v)) H s'→Q () s') (hf:X.fn x=true∨X.env.scope.names.lookup x=some .local:=by first|exact .inl rfl|exact .inr rfl|assumption):wpAny M A (storeName X.env x u) Q E s :=
  rN I hN hi hx r (fun s' I' _=>h s' I') hf
theorem Inv.call' {s':Shared} {ch:List Addr} (I:Inv X pins σ H s) (ho:s'.os=s.os) (u:Un (frs X.stack) ch H H' s.heap s'.heap) (hok:HOk X.prog X.w H' s'.heap) (hg:AllBare s'.gens)
    (hch:∀ b∈ch,(b∈X.ex∨X.s₀.heap.objs.size≤b)∧b≠X.env.locals∧(∀ x c,X.env.cells.lookup x=some c→c≠b)∧∀ p∈X.pn++pins,p.1≠b):Inv X pins σ H' s':=by
  obtain ⟨h',g',d',t',o'⟩:=s';have e:o'=s.os:=ho;subst e;exact I.call (g':=g') (t':=t') (d':=d') u hok hg hch
end
abbrev XK:=Value→Option Addr→Hp→Prop
abbrev St:=List (Option V)
abbrev VK:=V→Hp→Prop
abbrev TE:=St→Hp→VK→Prop
abbrev TT:=St→Hp→(Bool→Hp→Prop)→Prop
abbrev TA:=St→Hp→(List V→Hp→Prop)→Prop
structure Ends where
  nx:St→Hp→Prop
  rt:VK
  bk:St→Hp→Prop:=fun _ _=>False
  ct:St→Hp→Prop:=fun _ _=>False
abbrev TS:=Ends→St→Hp→Prop
def EP (X:Cx) (pins:List (Addr × Obj)) (σ:St) (Q:VK) (u:Value) (s':Shared):Prop:=∃ v H',Inv X pins σ H' s'∧RelV v u∧Q v H'
def TP (X:Cx) (pins:List (Addr × Obj)) (σ:St) (Q:Bool→Hp→Prop) (b:Bool) (s':Shared):Prop:=∃ H',Inv X pins σ H' s'∧Q b H'
def AP (X:Cx) (pins:List (Addr × Obj)) (σ:St) (Q:List V→Hp→Prop) (us:List Value) (s':Shared):Prop:=∃ vs H',Inv X pins σ H' s'∧Vals vs us∧Q vs H'
def SP (X:Cx) (pins:List (Addr × Obj)) (D:Ends) (f:Flow) (s':Shared):Prop :=
  match f with
  | .next=>∃ σ' H',Inv X pins σ' H' s'∧D.nx σ' H'
  | .brk=>∃ σ' H',Inv X pins σ' H' s'∧D.bk σ' H'
  | .cont=>∃ σ' H',Inv X pins σ' H' s'∧D.ct σ' H'
  | .ret u=>∃ v σ' H',Inv X pins σ' H' s'∧RelV v u∧D.rt v H'
def PE (X:Cx) (e:Expr) (t:TE):Prop :=
  ∀ (pins:List (Addr × Obj)) (s:Shared) (σ:St) (H:Hp) (Q:VK),Inv X pins σ H s→t σ H Q→wpAny (model X.prog X.w) X.A (eval e X.env) (EP X pins σ Q) X.xe s
def PT (X:Cx) (e:Expr) (t:TT):Prop :=
  ∀ (pins:List (Addr × Obj)) (s:Shared) (σ:St) (H:Hp) (Q:Bool→Hp→Prop),Inv X pins σ H s→t σ H Q→wpAny (model X.prog X.w) X.A (isTrue e X.env (eval e X.env)) (TP X pins σ Q) X.xe s
def PW (X:Cx) (e:Expr) (t:TT):Prop :=
  ∀ (whole:Sem Value) (pins:List (Addr × Obj)) (s:Shared) (σ:St) (H:Hp) (Q:Bool→Hp→Prop),Inv X pins σ H s→t σ H Q→wpAny (model X.prog X.w) X.A (isTrue e X.env whole) (TP X pins σ Q) X.xe s
theorem PW.pt {X:Cx} {e:Expr} {t:TT} (h:PW X e t):PT X e t:=h _
def PA (X:Cx) (es:List Expr) (t:TA):Prop :=
  ∀ (pos:Pos) (pins:List (Addr × Obj)) (s:Shared) (σ:St) (H:Hp) (Q:List V→Hp→Prop),Inv X pins σ H s→t σ H Q→wpAny (model X.prog X.w) X.A (spliced (backTo pos (starEach es X.env))) (AP X pins σ Q) X.xe s
def PS (X:Cx) (st:Stmt) (t:TS):Prop :=
  ∀ (pins:List (Addr × Obj)) (s:Shared) (σ:St) (H:Hp) (D:Ends),Inv X pins σ H s→t D σ H→wpAny (model X.prog X.w) X.A (exec st X.env) (SP X pins D) X.xe s
def PSs (X:Cx) (st:List Stmt) (t:TS):Prop :=
  ∀ (pins:List (Addr × Obj)) (s:Shared) (σ:St) (H:Hp) (D:Ends),Inv X pins σ H s→t D σ H→wpAny (model X.prog X.w) X.A (execs st X.env) (SP X pins D) X.xe s
theorem thn {α:Type} {t:Sem α} {Q Q':α→Shared→Prop} {M:Model} {A:Around} {E:Value→Shared→Prop} {s:Shared} (h:wpAny M A t Q E s) (hQ:∀ a s,Q a s→Q' a s):wpAny M A t Q' E s:=wpAny_mono h hQ fun _ _ x=>x
open PySem PySem.Spec PyProof.Rows
section
variable {X:Cx}
def wG (i:Nat):TE:=fun σ H Q=>∃ v,σ[i]?=some (some v)∧Q v H
def tC (v:V):TE:=fun _ H Q=>Q v H
theorem wX {i:Nat} {x:Str} {pos:Pos} (hN:X.N[i]?=some x) (hv:Vis X.env.scope x) (hd:(x == ("__debug__":Str))=false:=by decide) (hcd:(x == ("__classdict__":Str))=false:=by decide):PE X (.Name x pos) (wG i):=by
  intro pins s σ H Q I h;obtain ⟨v,e,h⟩:=h;obtain ⟨m,hn,hl⟩:=I.loc;obtain ⟨u,r,l⟩:=hl i x v hN e hv;have fin:EP X pins σ Q u s:=⟨v,H,I,r,h⟩
  rcases l with ⟨hk,hm⟩|⟨hk,c,hc,hcell⟩
  · exact wpAny_Name (wpAny_loadName_local I.ok.kind hk hn hm fin) hd
  · rcases hk with hk|hk
    · exact wpAny_Name (wpAny_loadName_cell I.ok.kind hk hc hcell fin) hd
    · exact wpAny_Name (wpAny_loadName_free I.ok.kind hk hc hcell fin hcd) hd
theorem af {i j pos}:PE X (.Constant (.int i) j pos) (tC (.int i)):=fun _ _ _ H _ I h=>wpAny_Constant_int ⟨.int i,H,I.tok _,⟨_,rfl⟩,h⟩
theorem bS {b j pos}:PE X (.Constant (.bool b) j pos) (tC (.bl b)):=fun _ _ _ H _ I h=>Constant_bool ⟨.bl b,H,I,rfl,h⟩
theorem cw {j pos}:PE X (.Constant .none j pos) (tC .non):=fun _ _ _ H _ I h=>Constant_none ⟨.non,H,I,rfl,h⟩
theorem aG {x j pos}:PE X (.Constant (.str x) j pos) (tC (.str x)):=fun _ _ _ H _ I h=>Calls.Constant_str ⟨.str x,H,I.tok _,⟨_,rfl⟩,h⟩
def Gl (X:Cx) (x:Str):Prop:=X.env.kindOf x=some .globalImplicit
theorem gR {E:Value→Shared→Prop} {pins:List (Addr × Obj)} {s:Shared} {σ:St} {H:Hp} {x:Str} {u:Value} {pos:Pos} {Q:Value→Shared→Prop} (I:Inv X pins σ H s) (hg:Gl X x) (hm:X.mg x=some u) (h:Q u s)
    (hd:(x == ("__debug__":Str))=false:=by decide):wpAny (model X.prog X.w) X.A (eval (.Name x pos) X.env) Q E s :=
  Calls.Name_function_global I.ok.kind hg (Calls.loadGlobal_global (by rw [I.ok.glob];exact I.mod.glob.keeps I.bk) hm h) hd
theorem jj {E:Value→Shared→Prop} {pins:List (Addr × Obj)} {s:Shared} {σ:St} {H:Hp} {x:Str} {u:Value} {pos:Pos} {Q:Value→Shared→Prop} (I:Inv X pins σ H s) (hg:Gl X x) (hm:X.mg x=none) (hv:bootBuiltins x=some u) (h:Q u s)
    (hn:x ≠ "__name__":=by decide) (hd:(x == ("__debug__":Str))=false:=by decide):wpAny (model X.prog X.w) X.A (eval (.Name x pos) X.env) Q E s:=by
  obtain ⟨mb,h1,h2⟩:=I.mod.blt;exact Calls.Name_function_global I.ok.kind hg (Calls.loadGlobal_builtin (by rw [I.ok.glob];exact I.mod.glob.keeps I.bk) hm (by rw [I.ok.blt];exact h1.keeps I.bk) ((h2 x hn).trans hv) h) hd
theorem cx {x:Str} {v:V} {u:Value} {pos:Pos} (hg:Gl X x) (hm:X.mg x=some u) (r:RelV v u) (hd:(x == ("__debug__":Str))=false:=by decide):PE X (.Name x pos) (tC v) :=
  fun _ _ _ H _ I h=>gR I hg hm ⟨v,H,I,r,h⟩ hd
theorem eZ {x:Str} {v:V} {u:Value} {pos:Pos} (hg:Gl X x) (hm:X.mg x=none) (hv:bootBuiltins x=some u) (r:RelV v u) (hn:x ≠ "__name__":=by decide) (hd:(x == ("__debug__":Str))=false:=by decide):PE X (.Name x pos) (tC v) :=
  fun _ _ _ H _ I h=>jj I hg hm hv ⟨v,H,I,r,h⟩ hn hd
variable {a b:Expr} {ta tb:TE} {pos:Pos}
def tB (t:TE):TT:=fun σ H Q=>t σ H fun x H1=>∃ c,x=.bl c∧Q c H1
theorem fV {e:Expr} {t:TE} (h:PE X e t) (he:∀ whole,isTrue e X.env whole=(do let v ← whole;standAt e.pos;holding [v] (truthy v)):=by intro _;rfl):PT X e (tB t):=by
  intro pins s σ H Q I hw;refine isTrue_plain (thn (h pins s σ H _ I hw) fun v s1 ⟨x,H1,I1,r1,q1⟩=>?_) (he _);obtain ⟨d,rfl,q⟩:=q1;cases r1;exact wpAny_truthy_bool ⟨H1,I1,q⟩
variable {tA tB':TT} {dz:List Expr}
def yK (t u:TT):TT:=fun σ H Q=>t σ H fun c H1=>if c=true then u σ H1 Q else Q false H1
def tOr (t u:TT):TT:=fun σ H Q=>t σ H fun c H1=>if c=true then Q true H1 else u σ H1 Q
def yB (t:TT):TT:=fun σ H Q=>t σ H fun c H1=>Q (!c) H1
theorem mV (ha:PT X a tA):PW X (.BoolOp .And [a] pos) tA:=by
  intro wh pins s σ H Q I h;refine isTrue_and (thn (ha pins s σ H Q I h) fun c s1 e=>?_);cases c with
  | true=>exact isTrue_and_nil e
  | false=>exact e
theorem gE (ha:PT X a tA):PW X (.BoolOp .Or [a] pos) tA:=by
  intro wh pins s σ H Q I h;refine isTrue_or (thn (ha pins s σ H Q I h) fun c s1 e=>?_);cases c with
  | false=>exact isTrue_or_nil e
  | true=>exact e
theorem qe (ha:PT X a tA) (hb:PW X (.BoolOp .And (b :: dz) pos) tB'):PW X (.BoolOp .And (a :: b :: dz) pos) (yK tA tB'):=by
  intro wh pins s σ H Q I h;refine isTrue_and (thn (ha pins s σ H _ I h) fun c s1 ⟨H1,I1,q1⟩=>?_);cases c with
  | true=>exact hb wh pins s1 σ H1 Q I1 q1
  | false=>exact ⟨H1,I1,q1⟩
theorem g_ (ha:PT X a tA) (hb:PW X (.BoolOp .Or (b :: dz) pos) tB'):PW X (.BoolOp .Or (a :: b :: dz) pos) (tOr tA tB'):=by
  intro wh pins s σ H Q I h;refine isTrue_or (thn (ha pins s σ H _ I h) fun c s1 ⟨H1,I1,q1⟩=>?_);cases c with
  | true=>exact ⟨H1,I1,q1⟩
  | false=>exact hb wh pins s1 σ H1 Q I1 q1
theorem fW (ha:PT X a tA):PT X (.UnaryOp .Not a pos) (yB tA):=by
  intro pins s σ H Q I h;exact isTrue_not (ha pins s σ H (fun c H1=>Q (!c) H1) I h)
def xU (ta tb:TE):TE:=fun σ H Q=>ta σ H fun x H1=>∃ c,x=.bl c∧if c=true then tb σ H1 Q else Q (.bl false) H1
def yA (ta tb:TE):TE:=fun σ H Q=>ta σ H fun x H1=>∃ c,x=.bl c∧if c=true then Q (.bl true) H1 else tb σ H1 Q
def xN (ta:TE):TE:=fun σ H Q=>ta σ H fun x H1=>∃ c,x=.bl c∧Q (.bl (!c)) H1
theorem jb {op} {t:TE} (h:PE X a t):PE X (.BoolOp op [a] pos) t:=fun pins s σ H Q I hw=>BoolOp_one (h pins s σ H Q I hw)
theorem ip (ha:PE X a ta) (hb:PE X (.BoolOp .And (b :: dz) pos) tb):PE X (.BoolOp .And (a :: b :: dz) pos) (xU ta tb):=by
  intro pins s σ H Q I h;refine BoolOp_and (thn (ha pins s σ H _ I h) fun v s1 ⟨x,H1,I1,r1,q1⟩=>?_);obtain ⟨c,rfl,q1⟩:=q1;cases r1;refine wpAny_truthy_bool ?_;cases c with
  | true=>exact hb pins s1 σ H1 Q I1 q1
  | false=>exact ⟨.bl false,H1,I1,rfl,q1⟩
theorem x_ (ha:PE X a ta) (hb:PE X (.BoolOp .Or (b :: dz) pos) tb):PE X (.BoolOp .Or (a :: b :: dz) pos) (yA ta tb):=by
  intro pins s σ H Q I h;refine BoolOp_or (thn (ha pins s σ H _ I h) fun v s1 ⟨x,H1,I1,r1,q1⟩=>?_);obtain ⟨c,rfl,q1⟩:=q1;cases r1;refine wpAny_truthy_bool ?_;cases c with
  | false=>exact hb pins s1 σ H1 Q I1 q1
  | true=>exact ⟨.bl true,H1,I1,rfl,q1⟩
theorem wY (ha:PE X a ta):PE X (.UnaryOp .Not a pos) (xN ta):=by
  intro pins s σ H Q I h;refine UnaryOp_ (thn (ha pins s σ H _ I h) fun v s1 ⟨x,H1,I1,r1,q1⟩=>?_);obtain ⟨c,rfl,q1⟩:=q1;cases r1;exact not_of (wpAny_truthy_bool ⟨.bl (!c),H1,I1,rfl,q1⟩)
def tIf (t:TT) (ta tb:TE):TE:=fun σ H Q=>t σ H fun c H1=>if c=true then ta σ H1 Q else tb σ H1 Q
theorem eM {c:Expr} (hc:PT X c tA) (ha:PE X a ta) (hb:PE X b tb):PE X (.IfExp c a b pos) (tIf tA ta tb):=by
  intro pins s σ H Q I h;refine wpAny_IfExp (thn (hc pins s σ H _ I h) fun d s1 ⟨H1,I1,q1⟩=>?_);cases d with
  | true=>exact ha pins s1 σ H1 Q I1 q1
  | false=>exact hb pins s1 σ H1 Q I1 q1
end
open PySem PySem.Spec PyProof.Rows
def SqL (K:aaa) (H:Hp) (a:Addr) (xs:List V):Prop :=
  Rd H a (.lst xs) ∨
    ∃ (o:Obj) (its:Array Value) (n:Nat),K.lookup a=some o∧o.cls=.type "list"∧o.dict=none∧o.data=.seq its n∧its.size≤sizeLine∧Vals xs its.toList
def SqT (K:aaa) (H:Hp) (a:Addr) (xs:List V):Prop :=
  Rd H a (.tup xs) ∨
    ∃ (o:Obj) (its:Array Value) (n:Nat),K.lookup a=some o∧o.cls=.type "tuple"∧o.data=.seq its n∧its.size≤sizeLine∧Vals xs its.toList
def y0:Value→Option V
  | .none=>some .non
  | .bool b=>some (.bl b)
  | .int i _=>some (.int i)
  | .str x _=>some (.str x)
  | .bytes b _=>some (.byt b)
  | .float b _=>some (.flt b)
  | .ref a=>some (.ref a)
  | .type n=>some (.ty n)
  | _=>none
theorem RelV.abs {x:V} {u:Value} (r:RelV x u):y0 u=some x:=by
  cases x with
  | non=>cases r;rfl
  | bl _=>cases r;rfl
  | int _=>obtain ⟨t,rfl⟩:=r;rfl
  | str _=>obtain ⟨t,rfl⟩:=r;rfl
  | byt _=>obtain ⟨t,rfl⟩:=r;rfl
  | flt _=>obtain ⟨t,rfl⟩:=r;rfl
  | ref _=>cases r;rfl
  | ty _=>cases r;rfl
theorem RelV.inj {x y:V} {u:Value} (r:RelV x u) (q:RelV y u):x=y:=aa1 (r.abs.symm.trans q.abs)
theorem Vals.inj {xs ys:List V} {us:List Value} (h:Vals xs us) (h':Vals ys us):xs=ys:=by
  induction h generalizing ys with
  | nil=>cases h';rfl
  | cons r t ih =>
    cases h' with
    | cons r' t'=>rw [r.inj r',ih t']
section
variable {X:Cx} {pins:List (Addr × Obj)} {σ:St} {H:Hp} {s:Shared} {a:Addr} {xs ys:List V}
theorem SqL.of {K:aaa} (h:H a=some (.lst xs)):SqL K H a xs:=.inl (.inl h)
theorem SqT.of {K:aaa} (h:H a=some (.tup xs)):SqT K H a xs:=.inl (.inl h)
theorem Inv.list (I:Inv X pins σ H s) (h:SqL X.K H a xs):∃ its:List Value,Vals xs its∧PlainL s.heap a its.toArray∧xs.length≤sizeLine:=by
  rcases h with h|⟨o,its,n,hk,hc,hd,hs,hz,r⟩
  · obtain ⟨z,its,n,r,e⟩:=h.ok I.hok;exact ⟨its,r,⟨_,n,e,rfl,rfl,rfl⟩,z⟩
  · refine ⟨its.toList,r,⟨o,n,I.kIn a o hk,hc,hd,by simpa using hs⟩,?_⟩;have e:=r.length;simp only [Array.length_toList] at e;lia
theorem Inv.tuple (I:Inv X pins σ H s) (h:SqT X.K H a xs):∃ its:List Value,Vals xs its∧IsTup s.heap a its.toArray∧xs.length≤sizeLine:=by
  rcases h with h|⟨o,its,n,hk,hc,hs,hz,r⟩
  · obtain ⟨z,its,r,p⟩:=h.ok I.hok;exact ⟨its,r,p,z⟩
  · refine ⟨its.toList,r,⟨o,I.kIn a o hk,hc,n,by simpa using hs⟩,?_⟩;have e:=r.length;simp only [Array.length_toList] at e;lia
theorem Inv.list_inj (I:Inv X pins σ H s) (h:SqL X.K H a xs) (h':SqL X.K H a ys):xs=ys:=by
  obtain ⟨its,r,⟨o,n,e,_,_,d⟩,_⟩:=I.list h;obtain ⟨its',r',⟨o',n',e',_,_,d'⟩,_⟩:=I.list h';rw [e] at e';cases e';rw [d] at d';injection d' with d1 _
  have : its=its':=by simpa using congrArg Array.toList d1
  subst this;exact r.inj r'
theorem Inv.tuple_inj (I:Inv X pins σ H s) (h:SqT X.K H a xs) (h':SqT X.K H a ys):xs=ys:=by
  obtain ⟨its,r,⟨o,e,_,n,d⟩,_⟩:=I.tuple h;obtain ⟨its',r',⟨o',e',_,n',d'⟩,_⟩:=I.tuple h';rw [e] at e';cases e';rw [d] at d';injection d' with d1 _
  have : its=its':=by simpa using congrArg Array.toList d1
  subst this;exact r.inj r'
end
abbrev Cx.wish (X:Cx) (E:Value→Shared→Prop):Cx:={ X with xe:=E }
abbrev Cx.nox (X:Cx):Cx:=X.wish fun _ _=>False
theorem Cx.Ok.wish {X:Cx} (ok:X.Ok) (E:Value→Shared→Prop):(X.wish E).Ok :=
  ⟨ok.mod,ok.kind,ok.glob,ok.blt,ok.above,ok.inj,ok.has,ok.cab,ok.hd,ok.frames,ok.stk,ok.exf,ok.bs,ok.bsz,ok.noex,ok.exfs,ok.funs,ok.frf⟩
theorem Cx.Ok.unwish {X:Cx} {E:Value→Shared→Prop} (ok:(X.wish E).Ok):X.Ok :=
  ⟨ok.mod,ok.kind,ok.glob,ok.blt,ok.above,ok.inj,ok.has,ok.cab,ok.hd,ok.frames,ok.stk,ok.exf,ok.bs,ok.bsz,ok.noex,ok.exfs,ok.funs,ok.frf⟩
section
variable {X:Cx} {pins:List (Addr × Obj)} {σ:St} {H:Hp} {s:Shared} {E:Value→Shared→Prop}
theorem Inv.wish (I:Inv X pins σ H s) (E:Value→Shared→Prop):Inv (X.wish E) pins σ H s:=⟨I.ok.wish E,I.os,I.bare,I.base,I.loc,I.cell,I.free,I.freeC,I.pin,I.hok,I.len⟩
theorem Inv.unwish (I:Inv (X.wish E) pins σ H s):Inv X pins σ H s:=⟨I.ok.unwish,I.os,I.bare,I.base,I.loc,I.cell,I.free,I.freeC,I.pin,I.hok,I.len⟩
theorem SP.unwish {D:Ends} {f:Flow} {s':Shared} (h:SP (X.wish E) pins D f s'):SP X pins D f s':=by
  cases f with
  | next=>obtain ⟨σ',H',I,q⟩:=h;exact ⟨σ',H',I.unwish,q⟩
  | brk=>obtain ⟨σ',H',I,q⟩:=h;exact ⟨σ',H',I.unwish,q⟩
  | cont=>obtain ⟨σ',H',I,q⟩:=h;exact ⟨σ',H',I.unwish,q⟩
  | ret u=>obtain ⟨v,σ',H',I,r,q⟩:=h;exact ⟨v,σ',H',I.unwish,r,q⟩
theorem PSs.nox {st:List Stmt} {t:TS} (h:PSs X.nox st t):PSs X st t:=fun pins s σ H D I hw =>
  wpAny_mono (h pins s σ H D (I.wish _) hw) (fun _ _ q=>q.unwish) fun _ _ z=>abc z
end
section
variable {X:Cx} {st:Stmt} {dz:List Stmt} {t u:TS} {e:Expr} {te:TE} {pos:Pos}
def xO:TS:=fun D σ H=>D.nx σ H
def yy (t u:TS):TS:=fun D σ H=>t { D with nx:=u D } σ H
theorem a6:PSs X [] xO:=fun _ _ σ H _ I h=>wpAny_execs_nil ⟨σ,H,I,h⟩
theorem ag (h1:PS X st t) (h2:PSs X dz u):PSs X (st :: dz) (yy t u):=by
  intro pins s σ H D I h;refine wpAny_execs_cons (thn (h1 pins s σ H { D with nx:=u D } I h) fun f s1 q=>?_);cases f with
  | next =>
    obtain ⟨σ',H',I',q⟩:=q;exact h2 pins s1 σ' H' D I' q
  | ret v=>exact q
  | brk=>exact q
  | cont=>exact q
theorem ai (h1:PS X st t):PSs X [st] t:=by
  intro pins s σ H D I h;refine wpAny_execs_cons (thn (h1 pins s σ H D I h) fun f s1 q=>?_);cases f with
  | next=>exact wpAny_execs_nil q
  | ret v=>exact q
  | brk=>exact q
  | cont=>exact q
theorem Inv.quiet {pins:List (Addr × Obj)} {σ:St} {H:Hp} {s:Shared} (I:Inv X pins σ H s):interactive X.env=false:=by simp [interactive,I.ok.kind]
def xQ (te:TE):TS:=fun D σ H=>te σ H fun _ H1=>D.nx σ H1
theorem cT (he:PE X e te) (hs:swapsWith e none pos.line X.env=pure false:=by rfl):PS X (.Expr e pos) (xQ te):=by
  intro pins s σ H D I h;exact wpAny_Expr_any (thn (he pins s σ H _ I h) fun v s1 ⟨x,H1,I1,r1,q1⟩=>⟨σ,H1,I1,q1⟩) I.quiet hs
def yz (te:TE):TS:=fun D σ H=>te σ H D.rt
theorem az (he:PE X e te):PS X (.Return (some e) pos) (yz te):=by
  intro pins s σ H D I h;exact wpAny_Return_some (thn (he pins s σ H _ I h) fun v s1 ⟨x,H1,I1,r1,q1⟩=>⟨x,σ,H1,I1,r1,q1⟩)
def yG (c:TT) (t u:TS):TS:=fun D σ H=>c σ H fun b H1=>if b=true then t D σ H1 else u D σ H1
theorem bV {c:Expr} {a b:List Stmt} {tc:TT} (hc:PT X c tc) (ha:PSs X a t) (hb:PSs X b u):PS X (.If c a b pos) (yG tc t u):=by
  intro pins s σ H D I h;refine wpAny_If (thn (hc pins s σ H _ I h) fun d s1 ⟨H1,I1,q1⟩=>?_);cases d with
  | true=>exact ha pins s1 σ H1 D I1 q1
  | false=>exact hb pins s1 σ H1 D I1 q1
end
abbrev TG:=V→St→Hp→(St→Hp→Prop)→Prop
abbrev TGs:=List V→St→Hp→(St→Hp→Prop)→Prop
def PG (X:Cx) (target:Expr) (t:TG):Prop :=
  ∀ (pins:List (Addr × Obj)) (s:Shared) (σ:St) (H:Hp) (v:V) (u:Value) (Q:St→Hp→Prop),Inv X pins σ H s→RelV v u→t v σ H Q →
    wpAny (model X.prog X.w) X.A (assign target X.env u) (fun _ s'=>∃ σ' H',Inv X pins σ' H' s'∧Q σ' H') X.xe s
def PGs (X:Cx) (ts:List Expr) (t:TGs):Prop :=
  ∀ (pins:List (Addr × Obj)) (s:Shared) (σ:St) (H:Hp) (vs:List V) (us:List Value) (Q:St→Hp→Prop),Inv X pins σ H s→Vals vs us→t vs σ H Q →
    wpAny (model X.prog X.w) X.A (assignInOrder ((assignEach ts X.env).map (·.2)) us) (fun _ s'=>∃ σ' H',Inv X pins σ' H' s'∧Q σ' H') X.xe s
abbrev xF:=V→V→V→Hp→(Hp→Prop)→Prop
def yu (X:Cx) (t:xF):Prop :=
  ∀ (pins:List (Addr × Obj)) (s:Shared) (σ:St) (H:Hp) (o i v:V) (ov iv u:Value) (Q:Hp→Prop),Inv X pins σ H s→RelV o ov→RelV i iv→RelV v u→t o i v H Q →
    wpAny (model X.prog X.w) X.A (setItem ov iv u) (fun _ s'=>∃ H',Inv X pins σ H' s'∧Q H') X.xe s
abbrev TIp:=V→V→Hp→VK→Prop
def PIp (X:Cx) (op:Operator) (t:TIp):Prop :=
  ∀ (pins:List (Addr × Obj)) (s:Shared) (σ:St) (H:Hp) (x y:V) (v u:Value) (Q:VK),Inv X pins σ H s→RelV x v→RelV y u→t x y H Q →
    wpAny (model X.prog X.w) X.A (inplaceOp op v u) (EP X pins σ Q) X.xe s
section
variable {X:Cx} {pos:Pos}
def uG (i:Nat):TG:=fun v σ H Q=>Q (σ.set i (some v)) H
theorem ao {i:Nat} {x:Str} (hN:X.N.Nodup) (hi:X.N[i]?=some x) (hx:Loc X.env.scope x) (hf:X.fn x=true∨X.env.scope.names.lookup x=some .local:=by first|exact .inl rfl|exact .inr rfl|assumption):PG X (.Name x pos) (uG i):=by
  intro pins s σ H v u Q I r h;exact wpAny_assign_Name (gt I hN hi hx r (fun s' I'=>⟨_,H,I',h⟩) hf)
def yX:TGs:=fun vs σ H Q=>vs=[]∧Q σ H
def yo (t:TG) (u:TGs):TGs:=fun vs σ H Q=>∃ v r,vs=v :: r∧t v σ H fun σ' H'=>u r σ' H' Q
theorem cu:PGs X [] yX:=by
  intro pins s σ H vs us Q I r h;obtain ⟨e,h⟩:=h;subst e;cases r;exact assignInOrder_nil ⟨σ,H,I,h⟩
theorem aQ {e:Expr} {es:List Expr} {t:TG} {u:TGs} (h1:PG X e t) (h2:PGs X es u)
    (hs:(assignEach (e :: es) X.env).map (·.2)=assign e X.env :: (assignEach es X.env).map (·.2):=by rfl):PGs X (e :: es) (yo t u):=by
  intro pins s σ H vs us Q I r h;obtain ⟨v,vr,e1,h⟩:=h;subst e1;cases r with
  | cons r rr =>
    rw [hs];refine assignInOrder_cons (thn (h1 pins s σ H _ _ _ I r h) fun _ s1 ⟨σ1,H1,I1,q1⟩=>?_);exact h2 pins s1 σ1 H1 _ _ Q I1 rr q1
def yn (K:aaa) (n:Nat) (t:TGs):TG:=fun v σ H Q=>∃ a xs,v=.ref a∧SqT K H a xs∧xs.length=n∧t xs σ H Q
theorem eK {es:List Expr} {k:Nat} {t:TGs} {n:Nat} (hc:X.calm=true) (h:PGs X es t)
    (hn:(assignEach es X.env).length=n:=by rfl) (hst:(assignEach es X.env).findIdx? (·.1)=none:=by rfl):PG X (.Tuple es k pos) (yn X.K n t):=by
  intro pins s σ H v u Q I r hw;obtain ⟨a,xs,e1,hq,hl,hw⟩:=hw;subst e1;cases r;obtain ⟨its,rv,ht,hz⟩:=I.tuple hq;refine assign_Tuple_tuple (I.ok.hd hc) ht (by simp [hn,← hl,rv.length]) hst fun h' hx=>?_;have I1:Inv X pins σ H { s with heap:=h' }:=I.kept (t':=s.toks) fun b o e=>hx b o (aaE (aat e)) e;exact h pins _ σ H xs _ Q I1 (by simpa using rv) hw
def yW (to ti:TE) (t:xF):TG:=fun v σ H Q=>to σ H fun o H1=>ti σ H1 fun i H2=>t o i v H2 fun H3=>Q σ H3
theorem tQ {o i:Expr} {to ti:TE} {t:xF} (ho:PE X o to) (hi:PE X i ti) (hs:yu X t)
    (ha:∀ v,assign (.Subscript o i pos) X.env v=(do
      let ov ← holding [v] (eval o X.env)
      let iv ← holding [v,ov] (eval i X.env)
      standAt pos
      holding [v,ov,iv] (setItem ov iv v)
      release [v,ov,iv] []):=by intro _;rfl):PG X (.Subscript o i pos) (yW to ti t):=by
  intro pins s σ H v u Q I r h;rw [ha];refine wpAny_bind (wpAny_holding (thn (ho pins s σ H _ I h) fun ov s1 ⟨x,H1,I1,r1,q1⟩=>?_));refine wpAny_bind (wpAny_holding (thn (hi pins s1 σ H1 _ I1 q1) fun iv s2 ⟨y,H2,I2,r2,q2⟩=>?_));refine wpAny_bind (wpAny_standAt (wpAny_bind (wpAny_holding (thn (hs pins s2 σ H2 x y v ov iv u _ I2 r1 r2 r q2) fun _ s3 ⟨H3,I3,q3⟩=>?_))));exact wpAny_release ⟨σ,H3,I3,q3⟩
def wL (te:TE) (g:TG):TS:=fun D σ H=>te σ H fun x H1=>g x σ H1 D.nx
theorem fj {tg e:Expr} {te:TE} {g:TG} (he:PE X e te) (hg:PG X tg g) (hs:swapsWithSole [tg] e pos.line X.env=pure false:=by rfl) (hw:swappedStores [tg] e X.env=pure none:=by rfl)
    (h1:(assignEach [tg] X.env).map (·.2)=[assign tg X.env]:=by rfl):PS X (.Assign [tg] e pos) (wL te g):=by
  intro pins s σ H D I h;refine wpAny_Assign_stores (thn (he pins s σ H _ I h) fun v s1 ⟨x,H1,I1,r1,q1⟩=>?_) hs hw;rw [h1];exact thn (hg pins s1 σ H1 x v _ I1 r1 q1) fun _ s2 q=>q
theorem aD {i:Nat} {x:Str} {e:Expr} {te:TE} {pos':Pos} (hN:X.N.Nodup) (hi:X.N[i]?=some x) (hx:Loc X.env.scope x) (he:PE X e te) (hs:swapsWith e (some (.Name x pos')) pos.line X.env=pure false:=by rfl) (hf:X.fn x=true∨X.env.scope.names.lookup x=some .local:=by first|exact .inl rfl|exact .inr rfl|assumption) :
    PS X (.Assign [.Name x pos'] e pos) (wL te (uG i)):=by
  intro pins s σ H D I h;refine wpAny_Assign_Name (thn (he pins s σ H _ I h) fun v s1 ⟨y,H1,I1,r1,q1⟩=>?_) hs;exact gt I1 hN hi hx r1 (fun s2 I2=>⟨_,H1,I2,q1⟩) hf
def yJ (i:Nat) (te:TE) (ti:TIp):TS:=fun D σ H=>∃ x,σ[i]?=some (some x)∧te σ H fun y H1=>ti x y H1 fun z H2=>D.nx (σ.set i (some z)) H2
theorem qf {i:Nat} {x:Str} {e:Expr} {te:TE} {op:Operator} {ti:TIp} {pos':Pos} (hN:X.N.Nodup) (hi:X.N[i]?=some x) (hx:Loc X.env.scope x) (he:PE X e te) (ho:PIp X op ti) (hf:X.fn x=true∨X.env.scope.names.lookup x=some .local:=by first|exact .inl rfl|exact .inr rfl|assumption) :
    PS X (.AugAssign (.Name x pos') op e pos) (yJ i te ti):=by
  intro pins s σ H D I h;obtain ⟨v,e1,h⟩:=h;obtain ⟨m,hn,hl⟩:=I.loc;have vis:Vis X.env.scope x:=by rcases hx with k|k;exact .inl k;exact .inr (.inl k)
  obtain ⟨u,r,l⟩:=hl i x v hi e1 vis;refine wpAny_AugAssign_Name ?_;have go:wpAny (model X.prog X.w) X.A (eval e X.env) (fun w s₂=>wpAny (model X.prog X.w) X.A (inplaceOp op u w) (fun r s₃=>wpAny (model X.prog X.w) X.A (storeName X.env x r) (fun _=>SP X pins D .next) X.xe s₃) X.xe s₂) X.xe s:=by
    refine thn (he pins s σ H _ I h) fun w s1 ⟨y,H1,I1,r1,q1⟩=>?_;refine thn (ho pins s1 σ H1 v y u w _ I1 r r1 q1) fun z s2 ⟨zv,H2,I2,r2,q2⟩=>?_;exact gt I2 hN hi hx r2 (fun s3 I3=>⟨_,H2,I3,q2⟩) hf
  rcases l with ⟨hk,hm⟩|⟨hk,c,hc,hcell⟩
  · exact wpAny_loadName_local I.ok.kind hk hn hm go
  · rcases hk with hk|hk
    · exact wpAny_loadName_cell I.ok.kind hk hc hcell go
    · rcases hx with k|k
      · have : X.env.scope.names.lookup x=some .free:=hk;rw [k] at this;cases this
      · have : X.env.scope.names.lookup x=some .free:=hk;rw [k] at this;cases this
def ipI (f:Int→Int→Int):TIp:=fun x y H Q=>∃ i j,x=.int i∧y=.int j∧Q (.int (f i j)) H
theorem uB:PIp X .Add (ipI fun i j=>i+j):=by
  intro pins s σ H x y v u Q I r1 r2 h;obtain ⟨i,j,e1,e2,q⟩:=h;subst e1;subst e2;obtain ⟨t,rfl⟩:=r1;obtain ⟨t',rfl⟩:=r2;exact iadd_int ⟨.int _,H,I.tok _,⟨_,rfl⟩,q⟩
theorem xu:PIp X .Sub (ipI fun i j=>i - j):=by
  intro pins s σ H x y v u Q I r1 r2 h;obtain ⟨i,j,e1,e2,q⟩:=h;subst e1;subst e2;obtain ⟨t,rfl⟩:=r1;obtain ⟨t',rfl⟩:=r2;exact isub_int ⟨.int _,H,I.tok _,⟨_,rfl⟩,q⟩
end
section
variable {X:Cx} {pos:Pos}
def wF (c:TT) (tb:TS):TS:=fun D σ H=>∃ W:Nat→St→Hp→Prop,(∃ m,W m σ H)∧∀ m σ H,W m σ H →
  c σ H fun b H1=>if b=true then ∃ N:St→Hp→Prop,(∀ σ' H',N σ' H'→∃ m',m' < m∧W m' σ' H')∧tb { D with nx:=N,ct:=N,bk:=D.nx } σ H1 else D.nx σ H1
theorem tK {c:Expr} {body:List Stmt} {tc:TT} {tb:TS} (hp:PassesOwn (model X.prog X.w) X.A X.env X.xe) (hc:PT X c tc) (hb:PSs X body tb):PS X (.While c body [] pos) (wF tc tb):=by
  intro pins s σ H D I h;obtain ⟨W,⟨m0,w0⟩,turn⟩:=h;refine wpAny_While (codeAny_whileLoop (fun n s'=>∃ σ' H',Inv X pins σ' H' s'∧W n σ' H') ?_ m0 ⟨σ,H,I,w0⟩);rintro n s1 ⟨σ1,H1,I1,w1⟩;refine wpAny_passesOwn hp (thn (hc pins s1 σ1 H1 _ I1 (turn n σ1 H1 w1)) fun b s2 ⟨H2,I2,q2⟩=>?_);cases b with
  | true =>
    obtain ⟨N,hN,q2⟩:=q2;rw [if_pos rfl];refine wpAny_passesOwn hp (thn (hb pins s2 σ1 H2 _ I2 q2) fun f s3 q3=>?_);cases f with
    | next =>
      obtain ⟨σ3,H3,I3,n3⟩:=q3;obtain ⟨m',hm,w3⟩:=hN σ3 H3 n3;exact ⟨m',hm,σ3,H3,I3,w3⟩
    | cont =>
      obtain ⟨σ3,H3,I3,n3⟩:=q3;obtain ⟨m',hm,w3⟩:=hN σ3 H3 n3;exact ⟨m',hm,σ3,H3,I3,w3⟩
    | brk=>exact q3
    | ret v=>exact q3
  | false =>
    rw [if_neg aar];exact wpAny_execs_nil ⟨σ1,H2,I2,q2⟩
end
structure It where
  go:Nat→Hp→Prop
  yld:Nat→Hp→V→Hp→Prop
  stop:Nat→Hp→Prop
def gl (X:Cx) (pins:List (Addr × Obj)) (H:Hp) (b:Addr):Prop :=
  H b=none∧b≠X.env.locals∧b∉X.fs∧(b∈X.ex∨X.s₀.heap.objs.size≤b)∧(∀ x c,X.env.cells.lookup x=some c→c≠b)∧∀ p∈X.pn++pins,p.1≠b
theorem Inv.fpOk {X:Cx} {pins:List (Addr × Obj)} {σ:St} {H H':Hp} {s:Shared} {b:Addr} (I:Inv X pins σ H s) (hb:s.heap.objs.size≤b) (hn:H' b=none):gl X pins H' b:=by
  refine ⟨hn,abd (aas I.lt hb),I.nofs hb,.inr (aaT I.sz hb),fun x c e z=>?_,fun p hp z=>?_⟩
  · obtain ⟨v,q⟩:=I.cell x c e;exact absurd (aas q.lt (by rw [z];exact hb)) (abm _)
  · exact absurd (aas (aat (I.pin p hp).1) (by rw [z];exact hb)) (abm _)
structure Turn (P:Program) (w:World) (K:aaa) (tg:Expr) (J:It) (fp:List Addr) (it:Addr) (tn:Nat→Heap→Prop):Prop where
  mem:it∈fp
  obj:∀ i h,tn i h→∀ b∈fp,∃ o,h.get? b=some o∧∀ v,o.data≠.cell v
  keep:∀ i h h',tn i h→(∀ b∈fp,∀ o,h.get? b=some o→h'.get? b=some o)→tn i h'
  item:∀ (X:Cx),X.prog=P→X.w=w→X.K=K→X.calm=true→∀ (i:Nat) (pins:List (Addr × Obj)) (s:Shared) (σ:St) (H:Hp) (E:Value→Shared→Prop),Inv X pins σ H s→(∀ b∈fp,gl X pins H b)→tn i s.heap→J.go i H →
    wpAny (model P w) X.A (pyNext (.ref it)) (fun r s1=>∃ u,r=some u ∧
      wpAny (model P w) X.A (letOwnedTupleGo tg (.ref it) u) (fun _ s2=>∃ x H',Inv X pins σ H' s2∧RelV x u∧J.yld i H x H'∧tn (i+1) s2.heap∧∀ b∈fp,H' b=none) E s1) E s
  done:∀ (X:Cx),X.prog=P→X.w=w→X.K=K→X.calm=true→∀ (i:Nat) (pins:List (Addr × Obj)) (s:Shared) (σ:St) (H:Hp) (E:Value→Shared→Prop),Inv X pins σ H s→(∀ b∈fp,gl X pins H b)→tn i s.heap→J.stop i H →
    wpAny (model P w) X.A (pyNext (.ref it)) (fun r s1=>r=none∧Inv X pins σ H s1) E s
  self:∀ (A:Around) (i:Nat) (s:Shared) (Q:Value→Shared→Prop) (E:Value→Shared→Prop),tn i s.heap→Q (.ref it) s→wpAny (model P w) A (pyIter (.ref it)) Q E s
abbrev TI:=St→Hp→(It→Hp→Prop)→Prop
def PIE (X:Cx) (pins:List (Addr × Obj)) (σ:St) (tg:Expr) (R:It→Hp→Prop) (itv:Value) (s2:Shared):Prop :=
  ∃ (it:Addr) (fp:List Addr) (tn:Nat→Heap→Prop) (J:It) (H':Hp),itv=.ref it∧Inv X pins σ H' s2∧Turn X.prog X.w X.K tg J fp it tn∧tn 0 s2.heap∧(∀ b∈fp,gl X pins H' b)∧R J H'
def PI (X:Cx) (tg iter:Expr) (wi:TI):Prop :=
  ∀ (pins:List (Addr × Obj)) (s:Shared) (σ:St) (H:Hp) (R:It→Hp→Prop),Inv X pins σ H s→wi σ H R →
    wpAny (model X.prog X.w) X.A (eval iter X.env) (fun v s1=>wpAny (model X.prog X.w) X.A (pyIter v) (PIE X pins σ tg R) X.xe s1) X.xe s
theorem rj {M:Model} {A:Around} {E:Value→Shared→Prop} {s:Shared} {tg:Expr} {it:Addr} {u:Value} {o:Obj} {n:String} {vs:Array Value} {Q:Unit→Shared→Prop} (ho:s.heap.get? it=some o) (hc:o.cls=.type n) (hd:o.data=.fields vs)
    (hn:["enumerate","zip","dict_itemiterator","dict_reverseitemiterator","odict_iterator","itertools.zip_longest","itertools.pairwise"].contains n=false) (hQ:Q () s):wpAny M A (letOwnedTupleGo tg (.ref it) u) Q E s:=by
  unfold letOwnedTupleGo;cases tg <;> first
    | exact wpAny_pure hQ
    | (cases u <;> first
        | exact wpAny_pure hQ
        | (refine wpAny_bind (wpAny_load ho ?_)
           rw [hc,hd];show wpAny M A (if (["enumerate","zip","dict_itemiterator","dict_reverseitemiterator","odict_iterator","itertools.zip_longest","itertools.pairwise"].contains n && vs[0]? == some (rawInt _))=true then _ else _) Q E s;rw [if_neg (by intro h;rw [hn,acf] at h;cases h)];exact wpAny_pure hQ))
def Itl (K:aaa) (a:Addr):It :=
  ⟨fun i H=>∃ xs x,SqL K H a xs∧xs[i]?=some x,fun i H x H'=>H'=H∧∀ xs,SqL K H a xs→xs[i]?=some x,fun i H=>∃ xs,SqL K H a xs∧xs.length≤i⟩
def Itt (K:aaa) (a:Addr):It :=
  ⟨fun i H=>∃ xs x,SqT K H a xs∧xs[i]?=some x,fun i H x H'=>H'=H∧∀ xs,SqT K H a xs→xs[i]?=some x,fun i H=>∃ xs,SqT K H a xs∧xs.length≤i⟩
def Itr (lo:Int) (n:Nat):It:=⟨fun i _=>i < n,fun i H x H'=>H'=H∧x=.int (lo+i),fun i _=>n≤i⟩
theorem rM {P:Program} {w:World} {K:aaa} {tg:Expr} (a it:Addr):Turn P w K tg (Itl K a) [it] it (fun i h=>h.IsListIter it a i) where
  mem:=by simp
  obj:=fun i h st b hb=>by
    have e:b=it:=by simpa using hb
    subst e;obtain ⟨o,e,c,d⟩:=st;exact ⟨o,e,fun v z=>by rw [d] at z;cases z⟩
  keep:=fun i h h' st k=>st.at fun o e=>k it (by simp) o e
  item:=by
    intro X hP hw hK hc i pins s σ H E I hf st hg;subst hP hw hK;obtain ⟨xs,x,hq,hx⟩:=hg;obtain ⟨its,rv,p,hz⟩:=I.list hq;obtain ⟨u,hu,ru⟩:=rv.get hx;obtain ⟨f0,f1,f2,f3,f4,f5⟩:=hf it (by simp);refine wpAny_pyNext_list_item st p.isList (x:=u) (by simpa using hu) fun h' st' sb=>?_;have I1:Inv X pins σ H { s with heap:=h' }:=I.turned (t':=s.toks) (fun b o hb e=>(sb.2 b hb).trans e) f0 f1 f3 f4 f5;obtain ⟨o,e,c,d⟩:=id st';exact ⟨u,rfl,rj (s:={ s with heap:=h' }) e c d (by decide) ⟨x,H,I1,ru,⟨rfl,fun ys hy=>by rw [I.list_inj hy hq];exact hx⟩,st',fun b hb=>(hf b hb).1⟩⟩
  done:=by
    intro X hP hw hK hc i pins s σ H E I hf st hg;subst hP hw hK;obtain ⟨xs,hq,hx⟩:=hg;obtain ⟨its,rv,p,hz⟩:=I.list hq;obtain ⟨f0,f1,f2,f3,f4,f5⟩:=hf it (by simp);have hl:=rv.length;exact wpAny_pyNext_list_end (I.ok.hd hc) st p.isList (by simp;lia) fun h' eb=>⟨rfl,I.turned (t':=s.toks) (fun b o hb e=>eb b o hb e) f0 f1 f3 f4 f5⟩
  self:=fun _ _ _ _ _ st h=>wpAny_pyIter_listiter st h
theorem pF {P:Program} {w:World} {K:aaa} {tg:Expr} (a it:Addr):Turn P w K tg (Itt K a) [it] it (fun i h=>h.IsTupleIter it a i) where
  mem:=by simp
  obj:=fun i h st b hb=>by
    have e:b=it:=by simpa using hb
    subst e;obtain ⟨o,e,c,d⟩:=st;exact ⟨o,e,fun v z=>by rw [d] at z;cases z⟩
  keep:=fun i h h' st k=>st.at fun o e=>k it (by simp) o e
  item:=by
    intro X hP hw hK hc i pins s σ H E I hf st hg;subst hP hw hK;obtain ⟨xs,x,hq,hx⟩:=hg;obtain ⟨its,rv,p,hz⟩:=I.tuple hq;obtain ⟨u,hu,ru⟩:=rv.get hx;obtain ⟨f0,f1,f2,f3,f4,f5⟩:=hf it (by simp);refine wpAny_pyNext_tuple_item st (show s.heap.IsTuple a its.toArray from p) (x:=u) (by simpa using hu) fun h' st' sb=>?_;have I1:Inv X pins σ H { s with heap:=h' }:=I.turned (t':=s.toks) (fun b o hb e=>(sb.2 b hb).trans e) f0 f1 f3 f4 f5;obtain ⟨o,e,c,d⟩:=id st';exact ⟨u,rfl,rj (s:={ s with heap:=h' }) e c d (by decide) ⟨x,H,I1,ru,⟨rfl,fun ys hy=>by rw [I.tuple_inj hy hq];exact hx⟩,st',fun b hb=>(hf b hb).1⟩⟩
  done:=by
    intro X hP hw hK hc i pins s σ H E I hf st hg;subst hP hw hK;obtain ⟨xs,hq,hx⟩:=hg;obtain ⟨its,rv,p,hz⟩:=I.tuple hq;obtain ⟨f0,f1,f2,f3,f4,f5⟩:=hf it (by simp);have hl:=rv.length;exact wpAny_pyNext_tuple_end (I.ok.hd hc) st (show s.heap.IsTuple a its.toArray from p) (by simp;lia) fun h' eb=>⟨rfl,I.turned (t':=s.toks) (fun b o hb e=>eb b o hb e) f0 f1 f3 f4 f5⟩
  self:=fun _ _ _ _ _ st h=>wpAny_pyIter_tupleiter st h
theorem pG {P:Program} {w:World} {K:aaa} {tg:Expr} (it:Addr) (lo:Int) (n:Nat):Turn P w K tg (Itr lo n) [it] it (fun i h=>IsRangeIter h it (lo+(i:Nat) * 1) ((n:Int) - (i:Nat)) 1) where
  mem:=by simp
  obj:=fun i h st b hb=>by
    have e:b=it:=by simpa using hb
    subst e;exact ⟨_,st,fun v z=>by
      have z':Data.fields _=Data.cell v:=z;cases z'⟩
  keep:=fun i h h' st k=>k it (by simp) _ st
  item:=by
    intro X hP hw hK hc i pins s σ H E I hf st hg;subst hP hw hK;obtain ⟨f0,f1,f2,f3,f4,f5⟩:=hf it (by simp);have W:=Walks.range (prog:=X.prog) (w:=X.w) (I.ok.hd hc) it lo 1 n;refine W.item i s _ _ hg st fun v h' tk hv st' kk=>?_;obtain ⟨t,rfl⟩:=hv;have I1:Inv X pins σ H { s with heap:=h',toks:=tk }:=I.turned (fun b o hb e=>kk b o (by simpa using hb) e) f0 f1 f3 f4 f5;refine ⟨_,rfl,rj (s:={ s with heap:=h',toks:=tk }) (n:="range_iterator") st' rfl rfl (by decide) ⟨.int (lo+i),H,I1,⟨t,?_⟩,⟨rfl,rfl⟩,st',fun b hb=>(hf b hb).1⟩⟩;rw [Int.mul_one]
  done:=by
    intro X hP hw hK hc i pins s σ H E I hf st hg;subst hP hw hK;obtain ⟨f0,f1,f2,f3,f4,f5⟩:=hf it (by simp);exact wpAny_pyNext_range_end (I.ok.hd hc) st (by have : n≤i:=hg;lia) fun h' eb=>⟨rfl,I.turned (t':=s.toks) (fun b o hb e=>eb b o hb e) f0 f1 f3 f4 f5⟩
  self:=fun _ _ _ _ _ st h=>wpAny_pyIter_rangeiter st h
open PySem PySem.Spec PyProof.Rows
section
variable {X:Cx} {tg:Expr}
def wk (K:aaa) (tl:TE):TI:=fun σ H R=>tl σ H fun x H1=>∃ a,x=.ref a∧(∃ xs,SqL K H1 a xs)∧R (Itl K a) H1
def yj (K:aaa) (tl:TE):TI:=fun σ H R=>tl σ H fun x H1=>∃ a,x=.ref a∧(∃ xs,SqT K H1 a xs)∧R (Itt K a) H1
theorem bu {l:Expr} {tl:TE} (hl:PE X l tl):PI X tg l (wk X.K tl):=by
  intro pins s σ H R I h;refine thn (hl pins s σ H _ I h) fun v s1 ⟨x,H1,I1,r1,q1⟩=>?_;obtain ⟨a,e,⟨xs,hq⟩,q⟩:=q1;subst e;cases r1;obtain ⟨its,rv,p,hz⟩:=I1.list hq;refine wpAny_pyIter_list p.isList ?_;refine ⟨s1.heap.objs.size,[s1.heap.objs.size],_,_,H1,rfl,I1.kept (t':=s1.toks) fun b o e=>aac _ e,rM a _,⟨_,aaB _ rfl,rfl,rfl⟩,fun b hb=>?_,q⟩;have e:b=s1.heap.objs.size:=by simpa using hb
  subst e;exact I1.fpOk (aae _) (I1.hok.fresh (aae _))
theorem tO {l:Expr} {tl:TE} (hl:PE X l tl):PI X tg l (yj X.K tl):=by
  intro pins s σ H R I h;refine thn (hl pins s σ H _ I h) fun v s1 ⟨x,H1,I1,r1,q1⟩=>?_;obtain ⟨a,e,⟨xs,hq⟩,q⟩:=q1;subst e;cases r1;obtain ⟨its,rv,p,hz⟩:=I1.tuple hq;refine wpAny_pyIter_tuple (show s1.heap.IsTuple a its.toArray from p) ?_;refine ⟨s1.heap.objs.size,[s1.heap.objs.size],_,_,H1,rfl,I1.kept (t':=s1.toks) fun b o e=>aac _ e,pF a _,⟨_,aaB _ rfl,rfl,rfl⟩,fun b hb=>?_,q⟩;have e:b=s1.heap.objs.size:=by simpa using hb
  subst e;exact I1.fpOk (aae _) (I1.hok.fresh (aae _))
theorem ou {pins:List (Addr × Obj)} {σ:St} {H:Hp} {s:Shared} {R:It→Hp→Prop} {E:Value→Shared→Prop} {lo hi:Int} {t u v:Tok} {tk:Nat} (I:Inv X pins σ H s) (h1:-(2 ^ 62)≤lo) (h2:lo < 2 ^ 62) (h3:-(2 ^ 62)≤hi) (h4:hi < 2 ^ 62)
    (q:R (Itr lo (hi - lo).toNat) H):wpAny (model X.prog X.w) X.A (pyIter (.ref s.heap.objs.size)) (PIE X pins σ tg R) E { s with heap:=s.heap.push { cls:=.type "range",data:=.fields #[.int lo t,.int hi u,.int 1 v] },toks:=tk }:=by
  refine wpAny_pyIter_range (IsRange.new ..) (small_one h1 h2 h3 h4) ?_;have I1:Inv X pins σ H { s with heap:=s.heap.push { cls:=.type "range",data:=.fields #[.int lo t,.int hi u,.int 1 v] },toks:=tk }:=I.kept fun b o e=>aac _ e;refine ⟨(s.heap.push { cls:=.type "range",data:=.fields #[.int lo t,.int hi u,.int 1 v] }).objs.size,[(s.heap.push { cls:=.type "range",data:=.fields #[.int lo t,.int hi u,.int 1 v] }).objs.size],_,_,H,rfl,
    I1.kept (t':=tk) fun b o e=>aac _ e,pG _ lo (hi - lo).toNat,?_,fun b hb=>?_,q⟩
  · have e1:lo+((0:Nat):Int) * 1=lo:=by simp
    have e2:(((hi - lo).toNat:Nat):Int) - ((0:Nat):Int)=Builtin.Range.rangeSize lo hi 1:=by rw [rangeSize_one];split <;> lia
    show IsRangeIter _ _ (lo+((0:Nat):Int) * 1) ((((hi - lo).toNat:Nat):Int) - ((0:Nat):Int)) 1;rw [e1,e2];exact aaB _ rfl
  · have e:b=(s.heap.push { cls:=.type "range",data:=.fields #[.int lo t,.int hi u,.int 1 v] }).objs.size:=by simpa using hb
    subst e;exact I1.fpOk (aae _) (I1.hok.fresh (aae _))
def yl (ta:TA):TI:=fun σ H R=>ta σ H fun vs H1=>∃ j:Int,vs=[.int j]∧-(2 ^ 62)≤j∧j < 2 ^ 62∧R (Itr 0 j.toNat) H1
def yk (ta:TA):TI:=fun σ H R=>ta σ H fun vs H1=>∃ i j:Int,vs=[.int i,.int j]∧(-(2 ^ 62)≤i∧i < 2 ^ 62∧-(2 ^ 62)≤j∧j < 2 ^ 62)∧R (Itr i (j - i).toNat) H1
theorem cU {a:Expr} {ta:TA} {p pos:Pos} (hg:Gl X "range") (hm:X.mg "range" = none) (ha:PA X [a] ta) (hs:starEach [a] X.env=[(false,eval a X.env)]:=by rfl):PI X tg (.Call (.Name "range" p) [a] [] pos) (yl ta):=by
  intro pins s σ H R I h;refine Call_ (jj I hg hm boot_range (abQ (thn (ha pos pins s σ H _ I h) fun us s1 ⟨vs,H1,I1,r1,q1⟩=>?_) hs rfl));obtain ⟨j,e,q1,q2,q⟩:=q1;subst e;cases r1 with
  | cons r rr =>
    cases rr;obtain ⟨t,rfl⟩:=r;exact call_range_1 (ou I1 (by lia) (by lia) q1 q2 (by simpa using q))
theorem ja {a b:Expr} {ta:TA} {p pos:Pos} (hg:Gl X "range") (hm:X.mg "range" = none) (ha:PA X [a,b] ta) (hs:starEach [a,b] X.env=[(false,eval a X.env),(false,eval b X.env)]:=by rfl) (hs2:starEach [b] X.env=[(false,eval b X.env)]:=by rfl) :
    PI X tg (.Call (.Name "range" p) [a,b] [] pos) (yk ta):=by
  intro pins s σ H R I h;refine Call_ (jj I hg hm boot_range (abQ (thn (ha pos pins s σ H _ I h) fun us s1 ⟨vs,H1,I1,r1,q1⟩=>?_) (by rw [hs,hs2]) (by rw [hs2];rfl)));obtain ⟨i,j,e,⟨q1,q2,q3,q4⟩,q⟩:=q1;subst e;cases r1 with
  | cons r rr =>
    cases rr with
    | cons r' rr =>
      cases rr;obtain ⟨t,rfl⟩:=r;obtain ⟨t',rfl⟩:=r';exact call_range_2 (ou I1 q1 q2 q3 q4 q)
def yH (wi:TI) (g:TG) (tb:TS):TS:=fun D σ H=>wi σ H fun J H1=>∃ W:Nat→Nat→St→Hp→Prop,(∃ m,W 0 m σ H1)∧∀ i m σ H,W i m σ H →
  (J.stop i H∧D.nx σ H)∨(J.go i H∧∃ N:St→Hp→Prop,(∀ σ' H',N σ' H'→∃ m',m' < m∧W (i+1) m' σ' H')∧∀ x H',J.yld i H x H'→g x σ H' fun σ2 H2=>tb { D with nx:=N,ct:=N,bk:=D.nx } σ2 H2)
def dP (fp:List Addr) (h:Heap):List (Addr × Obj):=fp.filterMap fun b=>(h.get? b).map fun o=>(b,o)
theorem f_ {fp:List Addr} {h:Heap} {b:Addr} {o:Obj} (hb:b∈fp) (e:h.get? b=some o):(b,o)∈dP fp h:=List.mem_filterMap.mpr ⟨b,hb,by rw [e];rfl⟩
theorem jh {fp:List Addr} {h:Heap} {p:Addr × Obj} (hp:p∈dP fp h):p.1∈fp∧h.get? p.1=some p.2:=by
  obtain ⟨b,hb,e⟩:=List.mem_filterMap.mp hp;cases q:h.get? b with
  | none=>rw [q] at e;cases e
  | some o =>
    rw [q] at e;have e':(b,o)=p:=aa1 e;subst e';exact ⟨hb,q⟩
theorem Inv.pinned {pins:List (Addr × Obj)} {σ:St} {H:Hp} {s:Shared} {fp:List Addr} (I:Inv X pins σ H s) (hf:∀ b∈fp,gl X pins H b) (ho:∀ b∈fp,∃ o,s.heap.get? b=some o∧∀ v,o.data≠.cell v):Inv X (pins++dP fp s.heap) σ H s :=
  I.pins_of fun p hp=>(aap.mp hp).elim (fun z=>I.pin p (aab _ z)) fun z=>by
    obtain ⟨hb,e⟩:=jh z;obtain ⟨f0,f1,f2,_⟩:=hf p.1 hb;obtain ⟨o,e',d⟩:=ho p.1 hb;rw [e] at e';cases e';exact ⟨e,f0,f1,f2,d⟩
theorem Inv.unpinned {pins pl:List (Addr × Obj)} {σ:St} {H:Hp} {s:Shared} (I:Inv X (pins++pl) σ H s):Inv X pins σ H s:=I.pins_of fun p hp=>I.pin p (aab _ (aaG _ hp))
theorem dg {iter:Expr} {body:List Stmt} {wi:TI} {g:TG} {tb:TS} {pos:Pos} (hp:PassesOwn (model X.prog X.w) X.A X.env X.xe) (hc:X.calm=true) (hi:PI X tg iter wi) (hg:PG X tg g) (hb:PSs X body tb)
    (hs:∀ x,foldedSetIterable iter X.env x=pure x:=by intro _;rfl):PS X (.For tg iter body [] pos) (yH wi g tb):=by
  intro pins s σ H D I h;refine wpAny_For (thn (hi pins s σ H _ I h) fun v s1 h1=>thn h1 fun itv s2 h2=>?_) hs;obtain ⟨it,fp,tn,J,H2,e,I2,T,st2,f2,W,⟨m0,w0⟩,turn⟩:=h2;subst e;have stat:∀ {H':Hp},(∀ b∈fp,H' b=none)→∀ b∈fp,gl X pins H' b:=fun hn b hb=>⟨hn b hb,(f2 b hb).2⟩
  refine codeAny_forLoop_any (fun n s'=>∃ i σ' H',Inv X pins σ' H' s'∧tn i s'.heap∧(∀ b∈fp,H' b=none)∧W i n σ' H') ?_ m0 ⟨0,σ,H2,I2,st2,fun b hb=>(f2 b hb).1,w0⟩;rintro n s3 ⟨i,σ3,H3,I3,st3,fr3,w3⟩;rcases turn i n σ3 H3 w3 with ⟨stop,qn⟩|⟨go,N,hN,step⟩
  · refine wpAny_passesOwn hp (thn (T.done X rfl rfl rfl hc i pins s3 σ3 H3 X.xe I3 (stat fr3) st3 stop) fun r s4 ⟨hr,I4⟩=>?_);subst hr;exact wpAny_execs_nil ⟨σ3,H3,I4,qn⟩
  · refine wpAny_passesOwn hp (thn (T.item X rfl rfl rfl hc i pins s3 σ3 H3 X.xe I3 (stat fr3) st3 go) fun r s4 ⟨u,hr,h4⟩=>?_);subst hr;refine wpAny_passesOwn hp (thn h4 fun _ s5 ⟨x,H5,I5,r5,y5,st5,fr5⟩=>?_);have I5':=I5.pinned (stat fr5) (T.obj _ _ st5);refine wpAny_passesOwn hp (thn (hg _ s5 σ3 H5 x u _ I5' r5 (step x H5 y5)) fun _ s6 ⟨σ6,H6,I6,q6⟩=>?_);refine wpAny_passesOwn hp (thn (hb _ s6 σ6 H6 _ I6 q6) fun f s7 q7=>?_);have again:∀ {σ7:St} {H7:Hp},Inv X (pins++dP fp s5.heap) σ7 H7 s7→N σ7 H7→∃ m,m < n∧∃ i σ' H',Inv X pins σ' H' s7∧tn i s7.heap∧(∀ b∈fp,H' b=none)∧W i m σ' H':=fun {σ7 H7} I7 n7=>by
      obtain ⟨m',hm,w7⟩:=hN σ7 H7 n7;refine ⟨m',hm,i+1,σ7,H7,I7.unpinned,T.keep _ _ _ st5 fun b hb o e=>(I7.pin (b,o) (aab _ (aab _ (f_ hb e)))).1,fun b hb=>?_,w7⟩;obtain ⟨o,e,d⟩:=T.obj _ _ st5 b hb;exact (I7.pin (b,o) (aab _ (aab _ (f_ hb e)))).2.1
    cases f with
    | next=>obtain ⟨σ7,H7,I7,n7⟩:=q7;exact again I7 n7
    | cont=>obtain ⟨σ7,H7,I7,n7⟩:=q7;exact again I7 n7
    | brk=>obtain ⟨σ7,H7,I7,q7⟩:=q7;exact ⟨σ7,H7,I7.unpinned,q7⟩
    | ret v=>obtain ⟨x7,σ7,H7,I7,r7,q7⟩:=q7;exact ⟨x7,σ7,H7,I7.unpinned,r7,q7⟩
end
theorem kT {K:aaa} {a:Addr} {xs:List V} {g:TG} {tb:TS} {D:Ends} {σ:St} {H:Hp} (Pv:Nat→St→Hp→Prop) (h0:Pv 0 σ H) (hl:∀ i σ H,i≤xs.length→Pv i σ H→SqL K H a xs)
    (hs:∀ i x σ H,xs[i]?=some x→Pv i σ H→g x σ H fun σ2 H2=>tb { D with nx:=Pv (i+1),ct:=Pv (i+1),bk:=D.nx } σ2 H2) (hd:∀ σ H,Pv xs.length σ H→D.nx σ H) :
    ∃ W:Nat→Nat→St→Hp→Prop,(∃ m,W 0 m σ H)∧∀ i m σ H,W i m σ H →
      ((Itl K a).stop i H∧D.nx σ H)∨((Itl K a).go i H∧∃ N:St→Hp→Prop,(∀ σ' H',N σ' H'→∃ m',m' < m∧W (i+1) m' σ' H')∧∀ x H',(Itl K a).yld i H x H'→g x σ H' fun σ2 H2=>tb { D with nx:=N,ct:=N,bk:=D.nx } σ2 H2):=by
  refine ⟨fun i m σ H=>m=xs.length - i∧i≤xs.length∧Pv i σ H,⟨xs.length,by simp,aaO _,h0⟩,?_⟩;rintro i m σ H ⟨rfl,hi,p⟩;have q:=hl i σ H hi p;by_cases hlt:i < xs.length
  · refine .inr ⟨⟨xs,xs[i],q,by simp [hlt]⟩,Pv (i+1),fun σ' H' p'=>⟨xs.length - (i+1),by lia,rfl,hlt,p'⟩,fun x H' y=>?_⟩;obtain ⟨e,y⟩:=y;subst e;exact hs i x σ _ (y xs q) p
  · have e:i=xs.length:=by lia
    subst e;exact .inl ⟨⟨xs,q,aae _⟩,hd σ H p⟩
theorem jp {lo:Int} {n:Nat} {g:TG} {tb:TS} {D:Ends} {σ:St} {H:Hp} (Pv:Nat→St→Hp→Prop) (h0:Pv 0 σ H)
    (hs:∀ i σ H,i < n→Pv i σ H→g (.int (lo+i)) σ H fun σ2 H2=>tb { D with nx:=Pv (i+1),ct:=Pv (i+1),bk:=D.nx } σ2 H2) (hd:∀ σ H,Pv n σ H→D.nx σ H) :
    ∃ W:Nat→Nat→St→Hp→Prop,(∃ m,W 0 m σ H)∧∀ i m σ H,W i m σ H →
      ((Itr lo n).stop i H∧D.nx σ H)∨((Itr lo n).go i H∧∃ N:St→Hp→Prop,(∀ σ' H',N σ' H'→∃ m',m' < m∧W (i+1) m' σ' H')∧∀ x H',(Itr lo n).yld i H x H'→g x σ H' fun σ2 H2=>tb { D with nx:=N,ct:=N,bk:=D.nx } σ2 H2):=by
  refine ⟨fun i m σ H=>m=n - i∧i≤n∧Pv i σ H,⟨n,by simp,aaO _,h0⟩,?_⟩;rintro i m σ H ⟨rfl,hi,p⟩;by_cases hlt:i < n
  · refine .inr ⟨hlt,Pv (i+1),fun σ' H' p'=>⟨n - (i+1),by lia,rfl,hlt,p'⟩,fun x H' y=>?_⟩;obtain ⟨e,y⟩:=y;subst e y;exact hs i σ _ hlt p
  · have e:i=n:=by lia
    subst e;exact .inl ⟨aae _,hd σ H p⟩
open PySem PySem.Spec PyProof.Rows
abbrev R2:=V→V→Hp→VK→Prop
def OpR (X:Cx) (f:Value→Value→Sem Value) (r:R2):Prop :=
  ∀ (pins:List (Addr × Obj)) (s:Shared) (σ:St) (H:Hp) (x y:V) (v u:Value) (Q:VK),Inv X pins σ H s→RelV x v→RelV y u→r x y H Q →
    wpAny (model X.prog X.w) X.A (f v u) (EP X pins σ Q) X.xe s
def UnR (X:Cx) (f:Value→Sem Value) (r:V→Hp→VK→Prop):Prop :=
  ∀ (pins:List (Addr × Obj)) (s:Shared) (σ:St) (H:Hp) (x:V) (v:Value) (Q:VK),Inv X pins σ H s→RelV x v→r x H Q →
    wpAny (model X.prog X.w) X.A (f v) (EP X pins σ Q) X.xe s
def dG (X:Cx) (f:Value) (r:List V→Hp→VK→Prop):Prop :=
  ∀ (pins:List (Addr × Obj)) (s:Shared) (σ:St) (H:Hp) (xs:List V) (us:List Value) (Q:VK),Inv X pins σ H s→Vals xs us→r xs H Q →
    wpAny (model X.prog X.w) X.A (call f us) (EP X pins σ Q) X.xe s
def y7 (X:Cx) (r:V→Hp→(Bool→Hp→Prop)→Prop):Prop :=
  ∀ (pins:List (Addr × Obj)) (s:Shared) (σ:St) (H:Hp) (x:V) (v:Value) (Q:Bool→Hp→Prop),Inv X pins σ H s→RelV x v→r x H Q →
    wpAny (model X.prog X.w) X.A (truthy v) (TP X pins σ Q) X.xe s
def tOp (r:R2) (ta tb:TE):TE:=fun σ H Q=>ta σ H fun x H1=>tb σ H1 fun y H2=>r x y H2 Q
def tUn (r:V→Hp→VK→Prop) (ta:TE):TE:=fun σ H Q=>ta σ H fun x H1=>r x H1 Q
def rI (C:Int→Int→Prop) (g:Int→Int→V):R2:=fun x y H Q=>∃ i j,x=.int i∧y=.int j∧C i j∧Q (g i j) H
def rI0 (g:Int→Int→V):R2:=fun x y H Q=>∃ i j,x=.int i∧y=.int j∧Q (g i j) H
def rU (g:Int→V):V→Hp→VK→Prop:=fun x H Q=>∃ i,x=.int i∧Q (g i) H
section
variable {X:Cx} {a b c:Expr} {ta tb tc:TE} {pos:Pos}
theorem xB (ha:PE X a ta) (hb:PE X b tb) {pins:List (Addr × Obj)} {s:Shared} {σ:St} {H:Hp} {R:V→V→Hp→Prop} (I:Inv X pins σ H s)
    (h:ta σ H fun x H1=>tb σ H1 fun y H2=>R x y H2) {Q:Value→Shared→Prop} {f:Value→Value→Sem Value}
    (hf:∀ v u s2 x y H2,Inv X pins σ H2 s2→RelV x v→RelV y u→R x y H2→wpAny (model X.prog X.w) X.A (f v u) Q X.xe s2) :
    wpAny (model X.prog X.w) X.A (eval a X.env) (fun v s₁=>wpAny (model X.prog X.w) X.A (eval b X.env) (fun u s₂=>wpAny (model X.prog X.w) X.A (f v u) Q X.xe s₂) X.xe s₁) X.xe s:=by
  refine thn (ha pins s σ H _ I h) fun v s1 ⟨x,H1,I1,r1,q1⟩=>?_;refine thn (hb pins s1 σ H1 _ I1 q1) fun u s2 ⟨y,H2,I2,r2,q2⟩=>?_;exact hf v u s2 x y H2 I2 r1 r2 q2
theorem aq {op:Operator} {r:R2} (ho:OpR X (binaryOp op) r) (ha:PE X a ta) (hb:PE X b tb):PE X (.BinOp a op b pos) (tOp r ta tb):=by
  intro pins s σ H Q I h;exact wpAny_BinOp (xB ha hb I h fun v u s2 x y H2 I2 rx ry q=>ho pins s2 σ H2 x y v u Q I2 rx ry q)
theorem ox {op:UnaryOp} {r:V→Hp→VK→Prop} (ho:UnR X (unaryOp op) r) (ha:PE X a ta):PE X (.UnaryOp op a pos) (tUn r ta):=by
  intro pins s σ H Q I h;exact UnaryOp_ (thn (ha pins s σ H _ I h) fun v s1 ⟨x,H1,I1,r1,q1⟩=>ho pins s1 σ H1 x v Q I1 r1 q1)
theorem opI {f:Value→Value→Sem Value} {C:Int→Int→Prop} {g:Int→Int→Int}
    (rule:∀ (i j:Int) (t u:Tok) (s:Shared) (Q:Value→Shared→Prop) (E:Value→Shared→Prop),C i j→Q (.int (g i j) s.toks) { s with toks:=s.toks+1 }→wpAny (model X.prog X.w) X.A (f (.int i t) (.int j u)) Q E s) :
    OpR X f (rI C fun i j=>.int (g i j)):=by
  intro pins s σ H x y v u Q I rx ry h;obtain ⟨i,j,rfl,rfl,hc,q⟩:=h;obtain ⟨t,rfl⟩:=rx;obtain ⟨t',rfl⟩:=ry;exact rule i j t t' s _ _ hc ⟨.int (g i j),H,I.tok _,⟨_,rfl⟩,q⟩
theorem ya {f:Value→Value→Sem Value} {g:Int→Int→Int}
    (rule:∀ (i j:Int) (t u:Tok) (s:Shared) (Q:Value→Shared→Prop) (E:Value→Shared→Prop),Q (.int (g i j) s.toks) { s with toks:=s.toks+1 }→wpAny (model X.prog X.w) X.A (f (.int i t) (.int j u)) Q E s) :
    OpR X f (rI0 fun i j=>.int (g i j)):=by
  intro pins s σ H x y v u Q I rx ry h;obtain ⟨i,j,rfl,rfl,q⟩:=h;obtain ⟨t,rfl⟩:=rx;obtain ⟨t',rfl⟩:=ry;exact rule i j t t' s _ _ ⟨.int (g i j),H,I.tok _,⟨_,rfl⟩,q⟩
theorem vA {f:Value→Value→Sem Value} {g:Int→Int→Bool}
    (rule:∀ (i j:Int) (t u:Tok) (s:Shared) (Q:Value→Shared→Prop) (E:Value→Shared→Prop),Q (.bool (g i j)) s→wpAny (model X.prog X.w) X.A (f (.int i t) (.int j u)) Q E s) :
    OpR X f (rI0 fun i j=>.bl (g i j)):=by
  intro pins s σ H x y v u Q I rx ry h;obtain ⟨i,j,rfl,rfl,q⟩:=h;obtain ⟨t,rfl⟩:=rx;obtain ⟨t',rfl⟩:=ry;exact rule i j t t' s _ _ ⟨.bl (g i j),H,I,rfl,q⟩
def za (i j:Int):Prop:=0 < j∧j < 1073741824
def xK (i j:Int):Prop:=0≤j∧j≤1000000∧i.natAbs < 2 ^ 64
def CMul (i j:Int):Prop:=(-(2 ^ 64) < i∧i < 2 ^ 64)∨(-(2 ^ 64) < j∧j < 2 ^ 64)
theorem CMul.ok {i j:Int} (h:CMul i j):IntMulOk i j:=by
  rcases h with ⟨h1,h2⟩|⟨h1,h2⟩
  · exact .of_left (intBits_le_64 h1 h2)
  · exact .of_right (intBits_le_64 h1 h2)
theorem cy:OpR X (binaryOp .Add) (rI0 fun i j=>.int (i+j)):=ya fun _ _ _ _ _ _ _ q=>add_int q
theorem bX:OpR X (binaryOp .Sub) (rI0 fun i j=>.int (i - j)):=ya fun _ _ _ _ _ _ _ q=>sub_int q
theorem gF:OpR X (binaryOp .Mult) (rI CMul fun i j=>.int (i * j)):=opI fun _ _ _ _ _ _ _ hc q=>mul_int q hc.ok
theorem gG:OpR X (binaryOp .Mod) (rI (fun _ j=>0 < j) fun i j=>.int (i % j)):=opI fun i j _ _ _ _ _ hc q=>by
  have h1:(0:Int) < j:=hc;exact mod_int' (by lia) (by rw [Int.fmod_eq_emod_of_nonneg i (by lia)];exact q)
theorem eQ:OpR X (binaryOp .Pow) (rI xK fun i j=>.int (i ^ j.toNat)):=opI fun _ _ _ _ _ _ _ hc q=>pow_int_small hc.1 hc.2.1 hc.2.2 q
theorem unI {f:Value→Sem Value} {g:Int→Int}
    (rule:∀ (i:Int) (t:Tok) (s:Shared) (Q:Value→Shared→Prop) (E:Value→Shared→Prop),Q (.int (g i) s.toks) { s with toks:=s.toks+1 }→wpAny (model X.prog X.w) X.A (f (.int i t)) Q E s) :
    UnR X f (rU fun i=>.int (g i)):=by
  intro pins s σ H x v Q I rx h;obtain ⟨i,rfl,q⟩:=h;obtain ⟨t,rfl⟩:=rx;exact rule i t s _ _ ⟨.int (g i),H,I.tok _,⟨_,rfl⟩,q⟩
theorem jP:UnR X (unaryOp .USub) (rU fun i=>.int (-i)):=unI fun _ _ _ _ _ q=>neg_int q
end
def xX:V→V→Bool
  | .non,.non=>true|.non,.int _=>true|.int _,.non=>true|.non,.bl _=>true|.bl _,.non=>true|.non,.str _=>true|.str _,.non=>true
  | .int _,.int _=>true|.bl _,.bl _=>true|.str _,.str _=>true|.byt _,.byt _=>true
  | .int _,.str _=>true|.str _,.int _=>true|.bl _,.str _=>true|.str _,.bl _=>true
  | _,_=>false
def rEq:R2:=fun x y H Q=>xX x y=true∧Q (.bl (decide (x=y))) H
def rNe:R2:=fun x y H Q=>xX x y=true∧Q (.bl (!decide (x=y))) H
theorem rE {i j:Int}:decide (V.int i=V.int j)=(i == j):=by
  rw [abL];simp
theorem uR {i j:Bool}:decide (V.bl i=V.bl j)=(i == j):=by
  rw [abL];simp
theorem rD {i j:Str}:decide (V.str i=V.str j)=(i == j):=by
  rw [abL];simp
theorem rF {i j:Array UInt8}:decide (V.byt i=V.byt j)=(i.toList == j.toList):=by
  rw [abL];cases i;cases j;simp
section
variable {X:Cx} {a b c:Expr} {ta tb tc:TE} {pos:Pos}
theorem a_ {pins:List (Addr × Obj)} {σ:St} {H:Hp} {s:Shared} {Q:VK} {k k':Bool} (I:Inv X pins σ H s) (q:Q (.bl k) H) (e:k=k'):EP X pins σ Q (.bool k') s:=by
  subst e;exact ⟨.bl k,H,I,rfl,q⟩
theorem eU:OpR X (compareOp .Eq) rEq:=by
  intro pins s σ H x y v u Q I rx ry h;obtain ⟨hs,q⟩:=h;cases x with
  | non =>
    cases rx;cases y with
    | non=>cases ry;exact PySem.EqNone.eq_none_none (a_ I q (by simp))
    | bl j=>cases ry;exact PySem.EqNone.eq_none_bool (a_ I q (by simp))
    | int j=>obtain ⟨t',rfl⟩:=ry;exact PySem.EqNone.eq_none_int (a_ I q (by simp))
    | str j=>obtain ⟨t',rfl⟩:=ry;exact PySem.EqNone.eq_none_str (a_ I q (by simp))
    | _=>exact absurd (show false=true from hs) aar
  | bl i =>
    cases rx;cases y with
    | non=>cases ry;exact PySem.EqNone.eq_bool_none (a_ I q (by simp))
    | bl j=>cases ry;exact eq_bool (a_ I q uR)
    | str j=>obtain ⟨t',rfl⟩:=ry;exact PySem.EqMixed.eq_bool_str (a_ I q (by simp))
    | _=>exact absurd (show false=true from hs) aar
  | int i =>
    obtain ⟨t,rfl⟩:=rx;cases y with
    | non=>cases ry;exact PySem.EqNone.eq_int_none (a_ I q (by simp))
    | int j=>obtain ⟨t',rfl⟩:=ry;exact eq_int (a_ I q rE)
    | str j=>obtain ⟨t',rfl⟩:=ry;exact PySem.EqMixed.eq_int_str (a_ I q (by simp))
    | _=>exact absurd (show false=true from hs) aar
  | str i =>
    obtain ⟨t,rfl⟩:=rx;cases y with
    | non=>cases ry;exact PySem.EqNone.eq_str_none (a_ I q (by simp))
    | bl j=>cases ry;exact PySem.EqMixed.eq_str_bool (a_ I q (by simp))
    | int j=>obtain ⟨t',rfl⟩:=ry;exact PySem.EqMixed.eq_str_int (a_ I q (by simp))
    | str j=>obtain ⟨t',rfl⟩:=ry;exact eq_str (a_ I q rD)
    | _=>exact absurd (show false=true from hs) aar
  | byt i =>
    obtain ⟨t,rfl⟩:=rx;cases y with
    | byt j=>obtain ⟨t',rfl⟩:=ry;exact PySem.W.eq_bytes (a_ I q rF)
    | _=>exact absurd (show false=true from hs) aar
  | _=>cases y <;> exact absurd (show false=true from hs) aar
theorem jv:OpR X (compareOp .NotEq) rNe:=by
  intro pins s σ H x y v u Q I rx ry h;obtain ⟨hs,q⟩:=h;cases x with
  | non =>
    cases rx;cases y with
    | non=>cases ry;exact PySem.EqNone.ne_none_none (a_ I q (by simp))
    | bl j=>cases ry;exact PySem.EqNone.ne_none_bool (a_ I q (by simp))
    | int j=>obtain ⟨t',rfl⟩:=ry;exact PySem.EqNone.ne_none_int (a_ I q (by simp))
    | str j=>obtain ⟨t',rfl⟩:=ry;exact PySem.EqNone.ne_none_str (a_ I q (by simp))
    | _=>exact absurd (show false=true from hs) aar
  | bl i =>
    cases rx;cases y with
    | non=>cases ry;exact PySem.EqNone.ne_bool_none (a_ I q (by simp))
    | bl j=>cases ry;exact ne_bool (a_ I q (congrArg not uR))
    | str j=>obtain ⟨t',rfl⟩:=ry;exact PySem.EqMixed.ne_bool_str (a_ I q (by simp))
    | _=>exact absurd (show false=true from hs) aar
  | int i =>
    obtain ⟨t,rfl⟩:=rx;cases y with
    | non=>cases ry;exact PySem.EqNone.ne_int_none (a_ I q (by simp))
    | int j=>obtain ⟨t',rfl⟩:=ry;exact ne_int (a_ I q (congrArg not rE))
    | str j=>obtain ⟨t',rfl⟩:=ry;exact PySem.EqMixed.ne_int_str (a_ I q (by simp))
    | _=>exact absurd (show false=true from hs) aar
  | str i =>
    obtain ⟨t,rfl⟩:=rx;cases y with
    | non=>cases ry;exact PySem.EqNone.ne_str_none (a_ I q (by simp))
    | bl j=>cases ry;exact PySem.EqMixed.ne_str_bool (a_ I q (by simp))
    | int j=>obtain ⟨t',rfl⟩:=ry;exact PySem.EqMixed.ne_str_int (a_ I q (by simp))
    | str j=>obtain ⟨t',rfl⟩:=ry;exact ne_str (a_ I q (congrArg not rD))
    | _=>exact absurd (show false=true from hs) aar
  | byt i =>
    obtain ⟨t,rfl⟩:=rx;cases y with
    | byt j=>obtain ⟨t',rfl⟩:=ry;exact PySem.W.ne_bytes (a_ I q (congrArg not rF))
    | _=>exact absurd (show false=true from hs) aar
  | _=>cases y <;> exact absurd (show false=true from hs) aar
theorem j_:OpR X (compareOp .Lt) (rI0 fun i j=>.bl (decide (i < j))):=vA fun _ _ _ _ _ _ _ q=>lt_int q
theorem kc:OpR X (compareOp .LtE) (rI0 fun i j=>.bl (decide (i≤j))):=vA fun _ _ _ _ _ _ _ q=>le_int q
theorem qV:OpR X (compareOp .Gt) (rI0 fun i j=>.bl (decide (j < i))):=vA fun _ _ _ _ _ _ _ q=>gt_int q
theorem v9:OpR X (compareOp .GtE) (rI0 fun i j=>.bl (decide (j≤i))):=vA fun _ _ _ _ _ _ _ q=>ge_int q
theorem xc:OpR X (compareOp .Is) (fun x y H Q=>y=.non∧Q (.bl (decide (x=.non))) H):=by
  intro pins s σ H x y v u Q I rx ry h;obtain ⟨rfl,q⟩:=h;cases ry;refine is_none_gen (a_ I q ?_);cases x <;> first
    | (cases rx;rfl)
    | (obtain ⟨t,rfl⟩:=rx;rfl)
theorem aX (b:Expr) {op:CmpOp} (h:op≠.In:=by decide) (h2:op≠.NotIn:=by decide):behindInMarks op b=false:=by
  have e1:(op == CmpOp.In)=false:=by cases op <;> first|rfl|exact absurd rfl h
  have e2:(op == CmpOp.NotIn)=false:=by cases op <;> first|rfl|exact absurd rfl h2
  cases b <;> simp [behindInMarks,e1,e2]
theorem jL {op:CmpOp} {r:R2} (ho:OpR X (compareOp op) r) (ha:PE X a ta) (hb:PE X b tb) (hm:behindInMarks op b=false):PE X (.Compare a [op] [b] pos) (tOp r ta tb):=by
  intro pins s σ H Q I h;exact wpAny_Compare1 (xB ha hb I h fun v u s2 x y H2 I2 rx ry q=>ho pins s2 σ H2 x y v u Q I2 rx ry q) hm
def v5 (t:TE):TT:=fun σ H Q=>t σ H fun x H'=>∃ k,x=.bl k∧Q k H'
theorem aJ {op:CmpOp} {r:R2} (ho:OpR X (compareOp op) r) (ha:PE X a ta) (hb:PE X b tb) (hm:behindInMarks op b=false):PT X (.Compare a [op] [b] pos) (v5 (tOp r ta tb)):=by
  intro pins s σ H Q I h;refine wpAny_isTrue_Compare1 (thn (ha pins s σ H _ I h) fun v s1 ⟨x,H1,I1,r1,q1⟩=>thn (hb pins s1 σ H1 _ I1 q1) fun u s2 ⟨y,H2,I2,r2,q2⟩ =>
    thn (ho pins s2 σ H2 x y v u _ I2 r1 r2 q2) fun c s3 ⟨z,H3,I3,r3,k,e,q3⟩=>?_) hm
  subst e;cases r3;exact wpAny_truthy_bool ⟨H3,I3,q3⟩
def sY (r r':R2) (ta tb tc:TE):TE:=fun σ H Q=>ta σ H fun x H1=>tb σ H1 fun y H2=>r x y H2 fun z H3=>∃ k,z=.bl k ∧
  (if k=true then tc σ H3 fun w' H4=>r' y w' H4 Q else Q (.bl false) H3)
theorem tS {op op':CmpOp} {r r':R2} (ho:OpR X (compareOp op) r) (ho':OpR X (compareOp op') r') (ha:PE X a ta) (hb:PE X b tb) (hc:PE X c tc)
    (hm:lastMarks [op,op'] [b,c]=false:=by with_unfolding_all rfl):PE X (.Compare a [op,op'] [b,c] pos) (sY r r' ta tb tc):=by
  intro pins s σ H Q I h;refine Compare_chain (thn (ha pins s σ H _ I h) fun v s1 ⟨x,H1,I1,r1,q1⟩=>chain_link (thn (hb pins s1 σ H1 _ I1 q1) fun u s2 ⟨y,H2,I2,r2,q2⟩ =>
    thn (ho pins s2 σ H2 x y v u _ I2 r1 r2 q2) fun d s3 ⟨z,H3,I3,r3,k,e,q3⟩=>?_)) hm
  subst e;cases r3;refine wpAny_truthy_bool ?_;cases k with
  | false=>exact ite_ff ⟨.bl false,H3,I3,rfl,q3⟩
  | true=>exact ite_tt (chain_last (thn (hc pins s3 σ H3 _ I3 q3) fun w' s4 ⟨z',H4,I4,r4,q4⟩=>ho' pins s4 σ H4 y z' u w' Q I4 r2 r4 q4))
theorem tJ {op op':CmpOp} {r r':R2} (ho:OpR X (compareOp op) r) (ho':OpR X (compareOp op') r') (ha:PE X a ta) (hb:PE X b tb) (hc:PE X c tc)
    (hm:lastMarks [op,op'] [b,c]=false:=by with_unfolding_all rfl):PT X (.Compare a [op,op'] [b,c] pos) (v5 (sY r r' ta tb tc)):=by
  intro pins s σ H Q I h;refine isTrue_chain (thn (ha pins s σ H _ I h) fun v s1 ⟨x,H1,I1,r1,q1⟩=>test_link (thn (hb pins s1 σ H1 _ I1 q1) fun u s2 ⟨y,H2,I2,r2,q2⟩ =>
    thn (ho pins s2 σ H2 x y v u _ I2 r1 r2 q2) fun d s3 ⟨z,H3,I3,r3,k,e,q3⟩=>?_)) hm
  subst e;cases r3;refine wpAny_truthy_bool ?_;cases k with
  | false =>
    obtain ⟨k',e',q'⟩:=q3;cases e';exact ite_ff ⟨H3,I3,q'⟩
  | true =>
    refine ite_tt (test_last (thn (hc pins s3 σ H3 _ I3 q3) fun w' s4 ⟨z',H4,I4,r4,q4⟩=>thn (ho' pins s4 σ H4 y z' u w' _ I4 r2 r4 q4) fun d' s5 ⟨z2,H5,I5,r5,k2,e2,q5⟩=>?_));subst e2;cases r5;exact wpAny_truthy_bool ⟨H5,I5,q5⟩
def xE (K:aaa) (x:V) (H:Hp) (k:Bool):Prop :=
  match x with
  | .non=>k=false
  | .bl b=>k=b
  | .int i=>k=(i != 0)
  | .str y=>y.length≤sizeLine∧k=((y.length:Int) != 0)
  | .byt y=>y.size≤sizeLine∧k=((y.size:Int) != 0)
  | .ref p=>(∃ xs,SqL K H p xs∧k=!xs.isEmpty)∨(∃ xs,SqT K H p xs∧k=!xs.isEmpty)∨∃ kvs,H p=some (.dK kvs)∧k=!kvs.isEmpty
  | _=>False
theorem qu {κ:Type} {kvs:List (κ × V)} {vs:List (κ × Value)} (r:KV kvs vs):(!vs.isEmpty)=!kvs.isEmpty:=by
  cases r <;> rfl
theorem kP {xs:List V} {its:List Value} (r:Vals xs its):(!its.toArray.isEmpty)=!xs.isEmpty:=by
  cases r <;> simp
theorem ir:(sizeLine:Nat) < 2 ^ 63:=by rw [sizeLine_eq];decide
theorem wD:y7 X (fun x H Q=>∃ k,xE X.K x H k∧Q k H):=by
  intro pins s σ H x v Q I rx h;obtain ⟨k,e,q⟩:=h;have hl:=ir;have hs:sizeLine=16777216:=sizeLine_eq;cases x with
  | non =>
    cases rx;have e':k=false:=e;subst e';exact truthy_none ⟨H,I,q⟩
  | bl b =>
    cases rx;have e':k=b:=e;subst e';exact wpAny_truthy_bool ⟨H,I,q⟩
  | int i =>
    obtain ⟨t,rfl⟩:=rx;have e':k=(i != 0):=e;subst e';exact PySem.P.truthy_int ⟨H,I,q⟩
  | str y =>
    obtain ⟨t,rfl⟩:=rx;obtain ⟨hy,e'⟩:y.length≤sizeLine∧k=((y.length:Int) != 0):=e;subst e';exact PySem.P.truthy_str (by lia) ⟨H,I.tok _,q⟩
  | byt y =>
    obtain ⟨t,rfl⟩:=rx;obtain ⟨hy,e'⟩:y.size≤sizeLine∧k=((y.size:Int) != 0):=e;subst e';exact PySem.W.truthy_bytes (by lia) ⟨H,I.tok _,q⟩
  | ref p =>
    cases rx;have e':(∃ xs,SqL X.K H p xs∧k=!xs.isEmpty)∨(∃ xs,SqT X.K H p xs∧k=!xs.isEmpty)∨∃ kvs,H p=some (.dK kvs)∧k=!kvs.isEmpty:=e;rcases e' with ⟨xs,hx,e'⟩|⟨xs,hx,e'⟩|⟨kvs,hx,e'⟩
    · subst e';obtain ⟨its,r,pl,hz⟩:=I.list hx;have hlen:=r.length;exact wpAny_truthy_list pl.isList (by simp only [aah];lia) ⟨H,I.tok _,by rw [kP r];exact q⟩
    · subst e';obtain ⟨its,r,pl,hz⟩:=I.tuple hx;have hlen:=r.length;exact truthy_tuple pl (by simp only [aah];lia) ⟨H,I.tok _,by rw [kP r];exact q⟩
    · subst e';obtain ⟨hz,hS,vs,r,m⟩:kvs.length≤sizeLine∧(p == sysModules)=false∧∃ vs,KV kvs vs∧s.heap.DictOf (bA X.prog X.w) p vs:=I.hok p _ hx;have hlen:kvs.length=vs.length:=ab6 r;exact wpAny_truthy_dict hS m (by lia) ⟨H,I.tok _,by rw [qu r];exact q⟩
  | _=>exact (show False from e).elim
theorem eI (ha:PE X a ta) (he:∀ whole,isTrue a X.env whole=(do let v ← whole;standAt a.pos;holding [v] (truthy v))) :
    PT X a (fun σ H Q=>ta σ H fun x H'=>∃ k,xE X.K x H' k∧Q k H'):=by
  intro pins s σ H Q I h;exact isTrue_plain (thn (ha pins s σ H _ I h) fun v s1 ⟨x,H1,I1,r1,q1⟩=>wD pins s1 σ H1 x v Q I1 r1 q1) (he _)
theorem gm {x:V} {us:List Value} (r:Vals [x] us):∃ u,us=[u]∧RelV x u:=by
  cases r with
  | cons r1 r2=>cases r2;exact ⟨_,rfl,r1⟩
theorem nV {x y:V} {us:List Value} (r:Vals [x,y] us):∃ u w',us=[u,w']∧RelV x u∧RelV y w':=by
  cases r with
  | cons r1 r2 =>
    cases r2 with
    | cons r3 r4=>cases r4;exact ⟨_,_,rfl,r1,r3⟩
theorem my:dG X (.type "int") (fun xs H Q=>(∃ i,xs=[.int i]∧Q (.int i) H)∨∃ k,xs=[.bl k]∧Q (.int (if k then 1 else 0)) H):=by
  intro pins s σ H xs us Q I r h;rcases h with ⟨i,rfl,q⟩|⟨k,rfl,q⟩
  · obtain ⟨u,rfl,t,rfl⟩:=gm r;exact call_int_int ⟨.int i,H,I,⟨_,rfl⟩,q⟩
  · obtain ⟨u,rfl,r1⟩:=gm r;cases r1;exact call_int_bool ⟨.int (if k then 1 else 0),H,I.tok _,⟨_,rfl⟩,q⟩
theorem jA:dG X (.builtin "divmod") (fun xs H Q=>∃ i j,xs=[.int i,.int j]∧za i j∧∀ p,H p=none→Q (.ref p) (upd H p (.tup [.int (i / j),.int (i % j)]))):=by
  intro pins s σ H xs us Q I r h;obtain ⟨i,j,rfl,⟨h1,h2⟩,q⟩:=h;obtain ⟨u,w',rfl,⟨t,rfl⟩,⟨t',rfl⟩⟩:=nV r;refine divmod_int (by lia) ?_ (.inl (PyProof.noPylong_small (by lia)));rw [Int.fdiv_eq_ediv_of_nonneg i (by lia),Int.fmod_eq_emod_of_nonneg i (by lia)];have hn:H s.heap.objs.size=none:=I.hok.fresh (aae _);refine ⟨.ref s.heap.objs.size,_,?_,rfl,q _ hn⟩;refine I.laid (fun b o e=>aac _ e) (aae _) ⟨by simp only [aaF,aa7];rw [sizeLine_eq];decide,[.int (i / j) s.toks,.int (i % j) (s.toks+1)],.cons ⟨_,rfl⟩ (.cons ⟨_,rfl⟩ .nil),?_⟩;exact ⟨_,aaB s.heap rfl,rfl,0,rfl⟩
end
open PySem PySem.Spec PyProof.Rows
structure ObjM (h:Heap) (x dx C:Addr) (mA:Str→Option Value):Prop where
  obj:h.get? x=some (PySem.W.instObj C dx)
  ns:h.Ns1 dx mA
  ne:dx≠x
theorem sy {h:Heap} {dx:Addr} {mA:Str→Option Value} (n:h.Ns1 dx mA):∃ od,h.get? dx=some od∧∀ name,PySem.W.lookIn name od=some (mA name):=by
  obtain ⟨o,es,ep,ho,hd,hk,_,hm⟩:=n;refine ⟨o,ho,fun name=>?_⟩;have e:=hm name;unfold nsFind findBy at e;rw [← Array.find?_toList] at e;unfold PySem.W.lookIn;rw [hd];dsimp only;split
  · rename_i y q;rw [q] at e;exact congrArg some e
  · rename_i q;rw [q] at e;have a:es.toList.any (·.refKey)=false:=by
      rw [List.any_eq_false];intro y hy;obtain ⟨z,t,hkey⟩:=hk y (Array.mem_toList_iff.mp hy);simp [DictEntry.refKey,hkey]
    have a':¬ es.toList.any (·.refKey)=true:=by rw [a];exact aar
    rw [if_neg a'];exact congrArg some e
theorem ObjM.look {h:Heap} {x dx C:Addr} {mA:Str→Option Value} (I:ObjM h x dx C mA):∃ od,PySem.W.InstAt h x (PySem.W.instObj C dx) C (some od)∧∀ name,PySem.W.lookIn name od=some (mA name) :=
  let ⟨od,ho,hl⟩:=sy I.ns
  ⟨od,⟨I.obj,rfl,rfl,ho⟩,hl⟩
section
variable {prog:Program} {w:World} {A:Around} {E:Value→Shared→Prop} {s:Shared} {K:aaa} {x dx C f:Addr} {mA:Str→Option Value} {name:Str} {v:Value}
end
theorem RelO.some_of {v:V} {o:Option Value} (r:RelO (some v) o):∃ u,o=some u∧RelV v u:=by
  cases o with
  | none=>exact (show False from r).elim
  | some u=>exact ⟨u,rfl,r⟩
section
variable {P:Program} {w:World} {H H':Hp} {h h':Heap} {a C dx:Addr} {fs fs':List (Str × V)}
theorem vM (hok:HOk P w H h) (e:H a=some (.ins C dx fs)):∃ mA,ObjM h a dx C mA∧(∀ f,RelO (fs.lookup f) (mA f))∧PySem.Within mA (fs.map (·.1))∧fs.length≤1000∧H dx=some (.own a):=by
  obtain ⟨d,z,ne,ob,mA,n,r,q⟩:=(show ObjOk P w H h a (.ins C dx fs) from hok a _ e)
  exact ⟨mA,⟨ob,n,ne⟩,r,q,z,d⟩
end
structure Cls (K:aaa) (C:Addr):Prop where
  pg:PySem.W.plainGet K C Str.empty=true
  hd:PySem.W.hasDictIn K C=true
  po:PySem.W.plainOver K C=true
  sa:aaW K (.ref C) "__setattr__" = some (some (.builtin "object.__setattr__"))
theorem Cls.get {K:aaa} {C:Addr} (c:Cls K C) (f:Str):PySem.W.plainGet K C f=true:=c.pg
structure Con (K:aaa) (C:Addr) (f:Str) (v:V) (u:Value):Prop where
  at_:aaW K (.ref C) f=some (some u)
  rel:RelV v u
  get:PySem.W.specialIn K u "__get__" = some none
  cp:PySem.W.copiedNames.contains f=false
structure Meth (K:aaa) (C:Addr) (m:Str) (f:Addr):Prop where
  at_:aaW K (.ref C) m=some (some (.ref f))
  fn:PySem.W.isFn K (.ref f)=true
  kp:aaZ K (.ref f)=true
section
variable {X:Cx} {pins:List (Addr × Obj)} {σ:St} {H:Hp} {s:Shared} {a C dx:Addr} {fs:List (Str × V)} {f:Str} {v:V} {A:Around} {E:Value→Shared→Prop}
end
section
variable {X:Cx} {o e value:Expr} {f:Str} {pos pos' tpos:Pos} {ta tv:TE}
end
section
variable {X:Cx} {pins:List (Addr × Obj)} {σ:St} {H:Hp} {s:Shared} {A:Around} {E:Value→Shared→Prop} {Q:Value→Shared→Prop} {c:Value} {b:Bool}
inductive TyOf (K:aaa) (H:Hp):V→Value→Prop where
  | non:TyOf K H .non (.type "NoneType")
  | bl (x:Bool):TyOf K H (.bl x) (.type "bool")
  | int (i:Int):TyOf K H (.int i) (.type "int")
  | str (x:Str):TyOf K H (.str x) (.type "str")
  | flt (x:UInt64):TyOf K H (.flt x) (.type "float")
  | lst {a:Addr} {xs:List V} (e:H a=some (.lst xs)):TyOf K H (.ref a) (.type "list")
  | frz {a:Addr} {o:Obj} {xs:List V} (e:H a=some (.frz o (.lst xs))):TyOf K H (.ref a) (.type "list")
  | tup {a:Addr} {xs:List V} (e:H a=some (.tup xs)):TyOf K H (.ref a) (.type "tuple")
  | dK {a:Addr} {kvs:List (Key × V)} (e:H a=some (.dK kvs)):TyOf K H (.ref a) (.type "dict")
  | dT {a:Addr} {kvs:List (List Key × V)} (e:H a=some (.dT kvs)):TyOf K H (.ref a) (.type "dict")
  | ins {a C dx:Addr} {fs:List (Str × V)} (e:H a=some (.ins C dx fs)) (cl:Cls K C) (ha:aaW K (.ref C) "__class__" = some (some (.builtin "object.__class__")))
      (hn:PySem.W.specialIn K (.builtin "object.__class__") "__get__" = some (some (.builtin "getset_descriptor.__get__"))) (htk:PySem.W.takesIn K (.builtin "object.__class__")=some true)
      (hm:PySem.W.mroIn K C (.type "object")=some true):TyOf K H (.ref a) (.ref C)
theorem sL {x:V} {u t:Value} (I:Inv X pins σ H s) (rx:RelV x u) (ty:TyOf X.K H x t) (e:aaJ X.K t c=some b) (h:∀ tk,Q (.bool b) { s with toks:=tk }) :
    wpAny (model X.prog X.w) A (call (.builtin "isinstance") [u,c]) Q E s:=by
  cases ty with
  | non=>cases (show u=Value.none from rx);exact aa6 PySem.W.kitx_none I.kIn True.intro e (fun z=>nomatch z) h
  | bl y=>cases (show u=Value.bool y from rx);exact aa6 PySem.W.kitx_bool I.kIn True.intro e (fun z=>nomatch z) h
  | int i=>obtain ⟨t,q⟩:=(show ∃ t,u=Value.int i t from rx);cases q;exact aa6 PySem.W.kitx_int I.kIn True.intro e (fun z=>nomatch z) h
  | str y=>obtain ⟨t,q⟩:=(show ∃ t,u=Value.str y t from rx);cases q;exact aa6 PySem.W.kitx_str I.kIn True.intro e (fun z=>nomatch z) h
  | flt y=>obtain ⟨t,q⟩:=(show ∃ t,u=Value.float y t from rx);cases q;exact aa6 PySem.W.kitx_float I.kIn True.intro e (fun z=>nomatch z) h
  | @lst a xs ea =>
    cases (show u=Value.ref a from rx);obtain ⟨_,_,n,_,h1⟩:=(show ObjOk X.prog X.w H s.heap a (.lst xs) from I.hok a _ ea)
    exact aa6 PySem.W.kitx_list I.kIn ⟨_,h1,rfl⟩ e (fun z=>nomatch z) h
  | @frz a ob xs ea =>
    cases (show u=Value.ref a from rx);obtain ⟨_,_,_,n,_,h1⟩:=(show ObjOk X.prog X.w H s.heap a (.frz ob (.lst xs)) from I.hok a _ ea)
    exact aa6 PySem.W.kitx_list I.kIn ⟨_,h1,rfl⟩ e (fun z=>nomatch z) h
  | @tup a xs ea =>
    cases (show u=Value.ref a from rx);obtain ⟨_,_,_,p⟩:=(show ObjOk X.prog X.w H s.heap a (.tup xs) from I.hok a _ ea)
    obtain ⟨o,h1,h2,_⟩:=p;exact aa6 PySem.W.kitx_tuple I.kIn ⟨o,h1,h2⟩ e (fun z=>nomatch z) h
  | @dK a kvs ea =>
    cases (show u=Value.ref a from rx);obtain ⟨_,_,vs,_,p⟩:=(show ObjOk X.prog X.w H s.heap a (.dK kvs) from I.hok a _ ea)
    obtain ⟨o,es,ep,h1,h2,_⟩:=p;exact aa6 PySem.W.kitx_dict I.kIn ⟨o,h1,h2.1⟩ e (fun z=>nomatch z) h
  | @dT a kvs ea =>
    cases (show u=Value.ref a from rx);obtain ⟨_,_,xs,_,o,es,ep,h1,h2,_⟩:=(show ObjOk X.prog X.w H s.heap a (.dT kvs) from I.hok a _ ea)
    exact aa6 PySem.W.kitx_dict I.kIn ⟨o,h1,h2.1⟩ e (fun z=>nomatch z) h
  | @ins a C dx fs ea cl ha hn htk hm =>
    cases (show u=Value.ref a from rx);obtain ⟨mA,O,_⟩:=vM I.hok ea;obtain ⟨od,J,_⟩:=O.look;exact aa6 (PySem.W.kitx_own (cl.get _) cl.hd ha hn htk hm) I.kIn J e (fun z=>nomatch z) h
end
open PySem PySem.Spec PyProof.Rows
structure Room (k:Nat) (A:Around):Prop where
  hd:A.handled=none
  dp:A.depth+3 * k+5 < recursionLimit
  un:A.units+16 * k+200 < cLine
  gd:A.guards=some []
theorem Room.mono {j k:Nat} {A:Around} (r:Room k A) (h:j≤k):Room j A:=⟨r.hd,by have:=r.dp;lia,by have:=r.un;lia,r.gd⟩
theorem Room.deeper {k:Nat} {A:Around} (r:Room (k+1) A) (env:Env):Room k (A.deeper env) :=
  ⟨r.hd,by have:=r.dp;show A.depth+1+3 * k+5 < _;lia,by have:=r.un;show A.units+3+16 * k+200 < _;lia,r.gd⟩
theorem Room.in1 {k:Nat} {A:Around} (r:Room (k+1) A):Room k A.in1 :=
  ⟨r.hd,by have:=r.dp;show A.depth+3 * k+5 < _;lia,by have:=r.un;show A.units+1+16 * k+200 < _;lia,r.gd⟩
theorem Room.depth {k:Nat} {A:Around} (r:Room k A):A.depth < recursionLimit:=by have:=r.dp;lia
theorem Room.units {k:Nat} {A:Around} (r:Room k A):A.units+64 < cLine:=by have:=r.un;lia
theorem Room.units0 {k:Nat} {A:Around} (r:Room k A):A.units < cLine:=by have:=r.un;lia
def wH:TA:=fun _ H Q=>Q [] H
def xT (ta:TE) (tr:TA):TA:=fun σ H Q=>ta σ H fun x H1=>tr σ H1 fun xs H2=>Q (x :: xs) H2
section
variable {X:Cx} {e:Expr} {es:List Expr} {te:TE} {t:TA} {pos:Pos}
theorem ac:PA X [] wH:=fun _ _ _ _ H Q I h=>Calls.spliced_nil ⟨[],H,I,.nil,h⟩
theorem aa (ha:PE X e te) (hr:PA X es t) (hs:starEach (e :: es) X.env=(false,eval e X.env) :: starEach es X.env:=by rfl):PA X (e :: es) (xT te t):=by
  intro pos pins s σ H Q I h;rw [hs];show wpAny _ _ (spliced ((false,eval e X.env) :: backTo pos (starEach es X.env))) _ _ s;refine Calls.spliced_cons (thn (ha pins s σ H _ I h) fun u s1 ⟨x,H1,I1,r1,q1⟩=>?_);exact thn (hr pos pins s1 σ H1 _ I1 q1) fun us s2 ⟨xs,H2,I2,r2,q2⟩=>⟨x :: xs,H2,I2,.cons r1 r2,q2⟩
def yx (t:TA):TE:=fun σ H Q=>t σ H fun xs H1=>xs.length≤sizeLine∧∀ p,H1 p=none→Q (.ref p) (upd H1 p (.tup xs))
def yC (t:TA):TE:=fun σ H Q=>t σ H fun xs H1=>xs.length≤sizeLine∧∀ p,H1 p=none→Q (.ref p) (upd H1 p (.lst xs))
theorem aB {x1} (h:PA X es t):PE X (.Tuple es x1 pos) (yx t):=by
  intro pins s σ H Q I hq;refine wpAny_Tuple_spliced (thn (h pos pins s σ H _ I hq) fun us s1 ⟨xs,H1,I1,r,z,q⟩=>⟨by rw [← r.length];exact z,?_⟩);have hf:H1 s1.heap.objs.size=none:=I1.hok.fresh (aae _);refine ⟨.ref s1.heap.objs.size,upd H1 s1.heap.objs.size (.tup xs),I1.laid (t':=s1.toks) (fun b u e=>aac _ e) (aae _) ?_,rfl,q _ hf⟩;exact ⟨z,us,r,⟨_,aaB _ rfl,rfl,_,rfl⟩⟩
theorem au (h:PA X es t):PE X (.List es pos) (yC t):=by
  intro pins s σ H Q I hq;refine wpAny_List_spliced (thn (h pos pins s σ H _ I hq) fun us s1 ⟨xs,H1,I1,r,z,q⟩=>⟨by rw [← r.length];exact z,?_⟩);have hf:H1 s1.heap.objs.size=none:=I1.hok.fresh (aae _);refine ⟨.ref s1.heap.objs.size,upd H1 s1.heap.objs.size (.lst xs),I1.laid (t':=s1.toks) (fun b u e=>aac _ e) (aae _) ?_,rfl,q _ hf⟩;exact ⟨z,us,0,r,aaB _ rfl⟩
end
abbrev Sp:=List V→Hp→VK→XK→Prop
abbrev CXT:=List Env→Hp→Shared→XK→Value→Shared→Prop
structure Env0 (P:Program) (w:World) (K:aaa) (mg:Str→Option Value) (base:Heap) (A:Around) (outer:List Env) (s:Shared) (H:Hp):Prop where
  frames:A.frames=some outer
  mod:Mod K mg base
  bs:∀ b o,base.get? b=some o→s.heap.get? b=some o∧H b=none
  bsz:base.objs.size≤s.heap.objs.size
  funs:s.heap.FunFrames base outer
  frf:∀ b∈frs outer,H b=none
  hok:HOk P w H s.heap
  bare:AllBare s.gens
def CE (outer:List Env) (P:Program) (w:World) (H:Hp) (s:Shared) (Q:VK) (u:Value) (s':Shared):Prop :=
  ∃ v H',s'.os=s.os∧AllBare s'.gens∧Un (frs outer) [] H H' s.heap s'.heap∧HOk P w H' s'.heap∧RelV v u∧Q v H'
def CR (CX:CXT) (outer:List Env) (P:Program) (w:World) (H:Hp) (s:Shared) (Q:VK) (E:XK) (r:Result) (s':Shared):Prop :=
  match r with
  | .ok (.ret u)=>CE outer P w H s Q u s'
  | .ok _=>False
  | .error e=>CX outer H s E e s'
structure FnOk (P:Program) (w:World) (K:aaa) (mg:Str→Option Value) (base:Heap) (CX:CXT) (k:Nat) (f:Addr) (fd:FuncData) (ps:List Str) (sp:Sp):Prop where
  len:∀ vs H Q E,sp vs H Q E→vs.length=ps.length
  run:∀ (A:Around) (outer:List Env) (s:Shared) (H:Hp) (args:Args) (us:List Value) (vs:List V) (Q:VK) (E:XK),Room k A→Env0 P w K mg base A outer s H→BindsTo s fd args (ps.zip us)→Vals vs us→sp vs H Q E →
    codeAny (model P w) A (.call (.ref f) args) (CR CX outer P w H s Q E) s
theorem Env0.in1 {P:Program} {w:World} {K:aaa} {mg:Str→Option Value} {base:Heap} {A:Around} {outer:List Env} {s:Shared} {H:Hp} (e:Env0 P w K mg base A outer s H) :
    Env0 P w K mg base A.in1 outer s H:=⟨e.frames,e.mod,e.bs,e.bsz,e.funs,e.frf,e.hok,e.bare⟩
section
variable {X:Cx} {pins:List (Addr × Obj)} {σ:St} {H:Hp} {s s':Shared}
theorem Inv.env0 (I:Inv X pins σ H s):Env0 X.prog X.w X.K X.mg X.base X.A X.stack s H :=
  ⟨I.ok.frames,I.ok.mod,I.bs,aaT I.ok.bsz I.sz,I.stack,I.stkFree,I.hok,I.bare⟩
theorem Inv.after {Q:VK} {u:Value} (I:Inv X pins σ H s) (h:CE X.stack X.prog X.w H s Q u s'):EP X pins σ Q u s':=by
  obtain ⟨v,H',os,bare,un,hok,r,q⟩:=h;obtain ⟨hh,g,d,t,os'⟩:=s';obtain rfl:os'=s.os:=os;exact ⟨v,H',I.call (h':=hh) (g':=g) (d':=d) (t':=t) (ch:=[]) un hok bare (fun b z=>absurd z (by simp)),r,q⟩
end
def nX (sp:Sp) (dvs:List V) (E:XK) (t:TA):TE:=fun σ H Q=>t σ H fun vs H1=>sp (vs++dvs) H1 Q E
def Binds (K:aaa) (fd:FuncData) (ps:List Str) (ds:List Value):Prop :=
  ∀ (s:Shared) (us:List Value),K.In s.heap→(us++ds).length=ps.length→BindsTo s fd ⟨us,[]⟩ (ps.zip (us++ds))
theorem Binds.all {K:aaa} {fd:FuncData} {ps:List Str} (h:∀ us:List Value,us.length=ps.length→bindArgs fd ⟨us,[]⟩=pure (ps.zip us)):Binds K fd ps []:=fun s us _ hl=>by
  rw [abM] at hl ⊢;exact .of_eq (h us hl)
def jq (CX:CXT) (X:Cx) (E:XK):Prop:=∀ (pins:List (Addr × Obj)) (σ:St) (H:Hp) (s:Shared) (e:Value) (s':Shared),Inv X pins σ H s→CX X.stack H s E e s'→X.xe e s'
section
variable {X:Cx} {CX:CXT} {k:Nat} {f C:Addr} {fd:FuncData} {ps:List Str} {sp:Sp} {dvs:List V} {ds:List Value} {E:XK} {x m:Str} {p pos apos:Pos} {e o:Expr} {es:List Expr} {ta:TE} {t:TA}
theorem tG {pins:List (Addr × Obj)} {σ:St} {H:Hp} {s:Shared} {Q:VK} {us:List Value} {vs:List V} (F:FnOk X.prog X.w X.K X.mg X.base CX k f fd ps sp) (hr:Room k X.A) (hb:Binds X.K fd ps ds) (hd:Vals dvs ds) (hx:jq CX X E)
    (I:Inv X pins σ H s) (r:Vals vs us) (h:sp (vs++dvs) H Q E):wpAny (model X.prog X.w) X.A (call (.ref f) us) (EP X pins σ Q) X.xe s:=by
  have r2:Vals (vs++dvs) (us++ds):=r.append hd;have hl:(us++ds).length=ps.length:=by rw [← r2.length];exact F.len _ _ _ _ h
  refine wpAny_call (codeAny_mono (F.run X.A X.stack s H ⟨us,[]⟩ (us++ds) (vs++dvs) Q E hr I.env0 (hb s us I.kIn hl) r2 h) fun r s' hq=>?_);cases r with
  | error e=>exact hx pins σ H s e s' I hq
  | ok fl =>
    cases fl with
    | ret u=>exact I.after hq
    | next=>exact abc hq
    | brk=>exact abc hq
    | cont=>exact abc hq
theorem qS (F:FnOk X.prog X.w X.K X.mg X.base CX k f fd ps sp) (hr:Room k X.A) (hg:Gl X x) (hm:X.mg x=some (.ref f)) (hk:aaZ X.K (.ref f)=true) (hb:Binds X.K fd ps ds) (hd:Vals dvs ds) (hx:jq CX X E)
    (ha:PA X (e :: es) t) (hdb:(x == ("__debug__":Str))=false:=by decide) (he:starEach (e :: es) X.env=(false,eval e X.env) :: starEach es X.env:=by rfl) (hpl:(backTo pos (starEach es X.env)).any (·.1)=false:=by rfl) :
    PE X (.Call (.Name x p) (e :: es) [] pos) (nX sp dvs E t):=by
  intro pins s σ H Q I h;refine wpAny_Call_Name_kw (gR I hg hm ?_ hdb);refine PySem.W.callWith_K (h₀:=X.base) I.ok.mod.kin hk (thn (ha pos pins s σ H _ I h) fun us s1 ⟨vs,H1,I1,r,q⟩=>⟨I1.kIn,?_⟩) he hpl;exact tG F hr hb hd hx I1 r q
theorem tU (F:FnOk X.prog X.w X.K X.mg X.base CX k f fd ps sp) (hr:Room k X.A) (hg:Gl X x) (hm:X.mg x=some (.ref f)) (hk:aaZ X.K (.ref f)=true) (hb:Binds X.K fd ps ds) (hd:Vals dvs ds) (hx:jq CX X E)
    (hdb:(x == ("__debug__":Str))=false:=by decide):PE X (.Call (.Name x p) [] [] pos) (nX sp dvs E wH):=by
  intro pins s σ H Q I h;refine wpAny_Call_Name_kw (gR I hg hm ?_ hdb);exact PySem.W.callWith_K0 I.kIn hk (tG (us:=[]) F hr hb hd hx I .nil h)
structure Mk (K:aaa) (C f:Addr):Prop where
  makes:PySem.W.makesIn K C=true
  init:aaW K (.ref C) "__init__" = some (some (.ref f))
  fn:PySem.W.isFn K (.ref f)=true
  kp:aaZ K (.ref C)=true
end
section
variable {X:Cx} {CX:CXT} {k:Nat} {f C:Addr} {fd:FuncData} {ps ks:List Str} {sp:Sp} {E:XK} {x m:Str} {p pos apos kpos:Pos} {e o:Expr} {es:List Expr} {kws:List Keyword} {te ta:TE} {t tk:TA} {nm:Option Str}
structure KBinds (K:aaa) (fd:FuncData) (ps ks:List Str) (g:List Value→List Value→List Value) (gV:List V→List V→List V):Prop where
  to:∀ (s:Shared) (us ws:List Value),K.In s.heap→(g us ws).length=ps.length→BindsTo s fd ⟨us,ks.zip ws⟩ (ps.zip (g us ws))
  rel:∀ {vs:List V} {us:List Value} {zs:List V} {ws:List Value},Vals vs us→Vals zs ws→Vals (gV vs zs) (g us ws)
variable {g:List Value→List Value→List Value} {gV:List V→List V→List V}
end
structure FnScope (N P:List Str) (sc:Scope):Prop where
  kind:sc.kind=.function
  co:sc.isCoroutine=false
  gen:sc.isGenerator=false
  nd:N.Nodup
  pre:N.take P.length=P
  par:∀ x∈P,sc.names.lookup x=some .local∨sc.names.lookup x=some .cell
  nofree:∀ y∈sc.names,y.2≠.free
theorem mz {kindOf:Str→Option NameKind} {x:Str}:∀ {binds:List (Str × Value)} {m:Str→Option Value},(∀ v,(x,v)∉binds)→bindL kindOf binds m x=m x
  | [],_,_=>rfl
  | (n,v) :: r,m,h=>by
    unfold bindL;rw [mz fun w hw=>h w (aai _ hw)];split
    · have : x≠n:=by rintro rfl;exact h v aav
      simp [this]
    · rfl
theorem mC {kindOf:Str→Option NameKind} {x:Str}:∀ {binds:List (Str × Value)} {m:Str→Option Value},(∀ v,(x,v)∉binds)→bindC kindOf binds m x=m x
  | [],_,_=>rfl
  | (n,v) :: r,m,h=>by
    unfold bindC;rw [mC fun w hw=>h w (aai _ hw)];split
    · rfl
    · have : x≠n:=by rintro rfl;exact h v aav
      simp [this]
theorem mB {kindOf:Str→Option NameKind} {x:Str} {v:Value}:∀ {P:List Str} {vs:List Value} {i:Nat} {m:Str→Option Value},P.Nodup→P[i]?=some x→vs[i]?=some v→kindOf x=some .local →
    bindL kindOf (P.zip vs) m x=some v
  | [],_,_,_,_,h,_,_=>by simp at h
  | _ :: _,[],_,_,_,_,h,_=>by simp at h
  | p :: P,w :: vs,0,m,nd,h1,h2,hk=>by
    simp at h1 h2;subst h1;subst h2;show bindL kindOf ((p,w) :: P.zip vs) m p=_;unfold bindL;rw [mz fun v hv=>(acq.mp nd).1 (List.of_mem_zip hv).1,if_pos hk];simp
  | p :: P,w :: vs,i+1,m,nd,h1,h2,hk=>by
    show bindL kindOf ((p,w) :: P.zip vs) m x=_;unfold bindL;exact mB (i:=i) (acq.mp nd).2 (by simpa using h1) (by simpa using h2) hk
theorem mD {kindOf:Str→Option NameKind} {x:Str} {v:Value}:∀ {P:List Str} {vs:List Value} {i:Nat} {m:Str→Option Value},P.Nodup→P[i]?=some x→vs[i]?=some v→kindOf x≠some .local →
    bindC kindOf (P.zip vs) m x=some v
  | [],_,_,_,_,h,_,_=>by simp at h
  | _ :: _,[],_,_,_,_,h,_=>by simp at h
  | p :: P,w :: vs,0,m,nd,h1,h2,hk=>by
    simp at h1 h2;subst h1;subst h2;show bindC kindOf ((p,w) :: P.zip vs) m p=_;unfold bindC;rw [mC fun v hv=>(acq.mp nd).1 (List.of_mem_zip hv).1,if_neg hk];simp
  | p :: P,w :: vs,i+1,m,nd,h1,h2,hk=>by
    show bindC kindOf ((p,w) :: P.zip vs) m x=_;unfold bindC;exact mD (i:=i) (acq.mp nd).2 (by simpa using h1) (by simpa using h2) hk
def start (N:List Str) (vs:List V):St:=vs.map some++aaf (N.length - vs.length) none
def gY (CX:CXT) (P:Program) (w:World) (K:aaa) (mg:Str→Option Value) (base:Heap) (N:List Str) (qual:Str) (scope:Scope) (f:Addr) (cd:Value) (A:Around) (outer:List Env) (s:Shared) (H:Hp) (E:XK):Cx where
  prog:=P
  w:=w
  K:=K
  mg:=mg
  base:=base
  A:=A.deeper (envOfC qual scope s.heap.objs.size f cd)
  N:=N
  s₀:=s
  H₀:=H
  env:=envOfC qual scope s.heap.objs.size f cd
  outer:=outer
  stack:=envOfC qual scope s.heap.objs.size f cd :: outer
  ex:=[]
  calm:=true
  fn:=fun _=>true
  pn:=[]
  xe:=fun e s'=>wpAny (model P w) (A.deeper (envOfC qual scope s.heap.objs.size f cd)) (leaving (envOfC qual scope s.heap.objs.size f cd) e) (fun _ s''=>CX outer H s E e s'') (fun e' s''=>CX outer H s E e' s'') s'
theorem pw {sc:Scope} {n:Nat} {x:Str} (h:sc.names.lookup x=some .cell):∃ c,(cellsFrom n sc.names []).lookup x=some c:=by
  have q:=aca sc.names n [] (.inl h);exact abG.mp q
theorem mq {CX:CXT} {P:Program} {w:World} {K:aaa} {mg:Str→Option Value} {base:Heap} {N ps:List Str} {qual:Str} {scope:Scope} {f:Addr} {cd:Value} {A:Around} {outer:List Env} {s s1:Shared} {H:Hp} {E:XK} {us:List Value} {vs:List V}
    (S:FnScope N ps scope) (hd:A.handled=none) (e0:Env0 P w K mg base A outer s H) (hl:vs.length=ps.length) (r:Vals vs us)
    (x:InCallC s s.heap.objs.size (bindL (envOfC qual scope s.heap.objs.size f cd).kindOf (ps.zip us) fun _=>none) (cellsFrom (s.heap.objs.size+1) scope.names []) (bindC (envOfC qual scope s.heap.objs.size f cd).kindOf (ps.zip us) fun _=>none) s1) :
    Inv (gY CX P w K mg base N qual scope f cd A outer s H E) [] (start N vs) H s1:=by
  have hpl:ps.length≤N.length:=by have:=congrArg List.length S.pre;rw [aaz] at this;lia
  obtain ⟨h1,tk,rfl,hk⟩:=x.done;have noA:∀ b:Addr,b∉(gY CX P w K mg base N qual scope f cd A outer s H E).ex:=fun b z=>absurd (show b∈([]:List Addr) from z) (by simp);refine ⟨⟨e0.mod,S.kind,rfl,rfl,aae _,fun y z c h1 h2=>?_,fun y hy=>?_,fun y c _ h=>?_,fun _=>hd,Around.frames_deeper e0.frames,.inr ⟨rfl,rfl⟩,fun b z=>absurd z (noA b),e0.bs,e0.bsz,fun b _ _=>noA b,fun b z=>absurd z (noA b),e0.funs,e0.frf⟩,
    rfl,e0.bare,Un.kept hk,⟨_,x.toInCall.ns,fun i y v h1 h2 h3=>?_⟩,fun y c h=>⟨_,x.cell y c h⟩,e0.hok.fresh (aae _),fun y c h=>?_,fun p hp=>absurd (show p∈([]:List (Addr × Obj)) from hp) (by simp),e0.hok.kept hk,?_⟩
  · exact name_of_addr x.apart (abg h1) (abg h2)
  · have hy:scope.names.lookup y=some .cell∨scope.names.lookup y=some .free:=hy;rcases hy with hy|hy
    · exact pw hy
    · exact absurd rfl (S.nofree _ (abg hy))
  · exact abo (x.above y c (abg h))
  · have hi:i < vs.length:=by
      unfold start at h2;by_cases hi:i < vs.length
      · exact hi
      · rw [List.getElem?_append_right (by simpa using hi)] at h2;rw [List.getElem?_replicate] at h2;split at h2 <;> cases h2
    have ha:vs[i]?=some v:=by
      unfold start at h2;rw [List.getElem?_append_left (by simpa using hi),aaX] at h2;cases e:vs[i]? with
      | none=>rw [e] at h2;cases h2
      | some a=>rw [e] at h2;cases h2;rfl
    obtain ⟨u,hu,rv⟩:=r.get ha;have hp:ps[i]?=some y:=by
      rw [← S.pre,abZ (by lia)];exact h1
    have ndP:ps.Nodup:=by rw [← S.pre];exact S.nd.sublist (List.take_sublist _ _)
    refine ⟨u,rv,?_⟩;rcases S.par y (aax hp) with k|k
    · exact .inl ⟨k,mB ndP hp hu k⟩
    · obtain ⟨c,e⟩:=pw (n:=s.heap.objs.size+1) k;refine .inr ⟨.inl k,c,e,?_⟩;have q:=x.cell y c e;rw [mD ndP hp hu (by show scope.names.lookup y≠_;rw [k];decide)] at q;exact q
  · exact e0.hok.fresh (abo (x.above y c (abg h)))
  · unfold start;show _=N.length;rw [aal,aak,abO];lia
theorem rq {CX:CXT} {P:Program} {w:World} {K:aaa} {mg:Str→Option Value} {base:Heap} {k:Nat} {f:Addr} {name qual:Str} {params:Arguments} {body:List Stmt} {scope:Scope} {dV kV doc pm cdv ct oc:Value} {an od:Option Addr}
    {osl:Array (Option Value)} {N ps:List Str} {sp:Sp} (lk:K.lookup f=some ⟨oc,od,.func (aaY name qual params body scope dV kV doc pm an cdv ct),osl⟩) (hcd:abl K cdv qual=true) (S:FnScope N ps scope)
    (len:∀ vs H Q E,sp vs H Q E→vs.length=ps.length)
    (hbody:∀ (A:Around) (outer:List Env) (s:Shared) (H:Hp) (vs:List V) (Q:VK) (E:XK),Room k (A.deeper (envOfC qual scope s.heap.objs.size f cdv))→sp vs H Q E →
      ∃ t,PSs (gY CX P w K mg base N qual scope f cdv A outer s H E) body t∧t { nx:=fun _ H'=>Q .non H',rt:=Q } (start N vs) H) :
    FnOk P w K mg base CX (k+1) f (aaY name qual params body scope dV kV doc pm an cdv ct) ps sp:=by
  refine ⟨len,fun A outer s H args us vs Q E hr e0 hb r hsp=>?_⟩;have hl:=len _ _ _ _ hsp;have KX:K.In s.heap:=e0.mod.kin.keeps fun b o e=>(e0.bs b o e).1;have lim:s.heap.NoLimit:=e0.mod.nolimit.keeps fun b o e=>(e0.bs b o e).1;have hkind:∀ y∈ps.zip us,scope.names.lookup y.1=some .local∨(scope.names.lookup y.1=some .cell∧((cellsFrom (s.heap.objs.size+1) scope.names []).lookup y.1).isSome=true):=fun ⟨n,v⟩ hy=>by
    rcases S.par n (List.of_mem_zip hy).1 with q|q
    · exact .inl q
    · exact .inr ⟨q,aca _ _ _ (.inl q)⟩
  refine codeAny_call_function hr.depth (KX _ _ lk) rfl S.co S.gen rfl (PySem.W.codeRec_of KX hcd) (hb _ _ _ _ ?_);refine wpAny_newFunctionEnv_cells S.kind hkind fun env he s1 x=>?_;subst he;refine ⟨lim.keeps x.toInCall.keep,codeAny_func ?_⟩;obtain ⟨t,ht,hq⟩:=hbody A outer s H vs Q E (hr.deeper _) hsp;have I:Inv (gY CX P w K mg base N qual scope f cdv A outer s H E) [] (start N vs) H s1:=mq S hr.hd e0 hl r x;refine wpAny_mono (ht [] s1 (start N vs) H _ I hq) (fun fl s' hs=>?_) fun e s' hs=>hs;have fin:∀ {σ':St} {H':Hp} {v:V} {u:Value},Inv (gY CX P w K mg base N qual scope f cdv A outer s H E) [] σ' H' s'→RelV v u→Q v H'→CE outer P w H s Q u s' :=
    fun {σ' H' v u} J rv q=>⟨v,H',J.os,J.bare,J.base,J.hok,rv,q⟩
  cases fl with
  | ret u =>
    obtain ⟨v,σ',H',J,rv,q⟩:=hs;exact fin J rv q
  | next =>
    obtain ⟨σ',H',J,q⟩:=hs;exact fin (v:=V.non) (u:=Value.none) J rfl q
  | brk =>
    obtain ⟨_,_,_,q⟩:=hs;exact abc q
  | cont =>
    obtain ⟨_,_,_,q⟩:=hs;exact abc q
open PySem PySem.Spec PyProof.Rows
section
variable {X:Cx} {x:Str} {p pos:Pos} {e:Expr} {es:List Expr} {t:TA} {id T:String} {r:List V→Hp→VK→Prop}
def tCB (r:List V→Hp→VK→Prop) (t:TA):TE:=fun σ H Q=>t σ H fun vs H1=>r vs H1 Q
theorem am (hc:dG X (.builtin id) r) (hg:Gl X x) (hm:X.mg x=none) (hv:bootBuiltins x=some (.builtin id)) (ha:PA X (e :: es) t) (hn:x ≠ "__name__":=by decide) (hdb:(x == ("__debug__":Str))=false:=by decide)
    (he:starEach (e :: es) X.env=(false,eval e X.env) :: starEach es X.env:=by rfl) (hpl:(backTo pos (starEach es X.env)).any (·.1)=false:=by rfl):PE X (.Call (.Name x p) (e :: es) [] pos) (tCB r t):=by
  intro pins s σ H Q I h;refine wpAny_Call_Name_kw (jj I hg hm hv ?_ hn hdb);exact PyProof.Rows.callWith_builtin1 (thn (ha pos pins s σ H _ I h) fun us s1 ⟨vs,H1,I1,r1,q1⟩=>hc pins s1 σ H1 vs us Q I1 r1 q1) he hpl
theorem fB (hc:dG X (.type T) r) (hg:Gl X x) (hm:X.mg x=none) (hv:bootBuiltins x=some (.type T)) (ha:PA X (e :: es) t) (hn:x ≠ "__name__":=by decide) (hdb:(x == ("__debug__":Str))=false:=by decide)
    (he:starEach (e :: es) X.env=(false,eval e X.env) :: starEach es X.env:=by rfl) (hpl:(backTo pos (starEach es X.env)).any (·.1)=false:=by rfl):PE X (.Call (.Name x p) (e :: es) [] pos) (tCB r t):=by
  intro pins s σ H Q I h;refine wpAny_Call_Name_kw (jj I hg hm hv ?_ hn hdb);exact abQ (thn (ha pos pins s σ H _ I h) fun us s1 ⟨vs,H1,I1,r1,q1⟩=>hc pins s1 σ H1 vs us Q I1 r1 q1) he hpl
end
end L2
namespace HT
open PySem PyProof.Rows
def lexLt:List Int→List Int→Bool
  | [],[]=>false
  | [],_ :: _=>true
  | _ :: _,[]=>false
  | x :: xs,y :: ys=>if x=y then lexLt xs ys else decide (x < y)
theorem qm (x y:Int) (xs ys:List Int):lexLt (x :: xs) (y :: ys)=if x=y then lexLt xs ys else decide (x < y):=rfl
theorem lexLt_nil_nil:lexLt [] []=false:=rfl
theorem kE (y:Int) (ys:List Int):lexLt [] (y :: ys)=true:=rfl
theorem kG (x:Int) (xs:List Int):lexLt (x :: xs) []=false:=rfl
theorem uK (A:Around) (s:Shared) (a:Int) (t:Tok) (c:Int) (u:Tok):∃ e,SeqAt.EqAt A s (.int a t) (.int c u) e∧(e=true↔a=c) :=
  ⟨(a == c),ab8 a t c u,by simp⟩
theorem tH (A:Around) (s:Shared) (a:Int) (t:Tok) (c:Int) (u:Tok) (prog:Program) (w:World) (E:Value→Shared→Prop) (Q:Value→Shared→Prop) (h:Q (.bool (decide (a < c))) s) :
    wpAny (model prog w) A (richCompare .Lt (.int a t) (.int c u)) Q E s :=
  (PyProof.Rows.lt_int h:wpAny (model prog w) A (compareOp .Lt (.int a t) (.int c u)) Q E s)
section
open PySem.SeqAt
open PySem.AutoSeq1 (wpAny_loadPart')
open PySem.MeetsSeq PySem.MeetsSeq2 PySem.MeetsSeq3
theorem lC (l b:Addr) (items items2:Array Value) (n n2:Nat) (dd dd2:Option Addr) (sl sl2:Array (Option Value)) (ns ms:List Int) (hi:IntsAre items.toList ns) (hj:IntsAre items2.toList ms) :
    Meets (Builtin.«tuple.__lt__» ⟨[.ref l,.ref b],[]⟩)
      (fun _ R s=>s.heap.get? l=some { cls:=.type "tuple",dict:=dd,data:=.seq items n,slots:=sl }∧s.heap.get? b=some { cls:=.type "tuple",dict:=dd2,data:=.seq items2 n2,slots:=sl2 } ∧
        R (.ok (.ret (.bool (lexLt ns ms)))) s) :=
  .of_wp fun prog w A R s h=>by
    obtain ⟨hp,g,d,tk,os⟩:=s;obtain ⟨hl,hb,h⟩:=h;have f2:=AutoSeq1.sub_tuple_tuple;have z1:items.size=ns.length:=by rw [← hi.length];simp
    have z2:items2.size=ms.length:=by rw [← hj.length];simp
    wp_walk using wpAny_loadPart' hl,wpAny_loadPart' hb,wpAny_forIn_list _ (fun dz b s'=>b.1=none∧s'=⟨hp,g,d,tk,os⟩∧∃ (vs ws:List Value) (ns' ms':List Int),dz=vs.zip ws ∧
      IntsAre vs ns'∧IntsAre ws ms'∧ns'.length+items2.size=ms'.length+items.size∧R (.ok (.ret (.bool (lexLt ns' ms')))) ⟨hp,g,d,tk,os⟩) _
    case turn =>
      rintro ⟨y,x⟩ dz b s' ⟨hb',rfl,vs,ws,ns',ms',hz,hvi,hwi,hlen,hR⟩;cases hvi with
      | nil=>rw [List.zip_nil_left] at hz;cases hz
      | cons a t hvi' =>
        cases hwi with
        | nil=>rw [List.zip_nil_right] at hz;cases hz
        | cons c u hwi' =>
          rw [List.zip_cons_cons] at hz;injection hz with hyx hrest
          injection hyx with hy hx
          subst hy hx;rw [qm] at hR;simp only [aaF] at hlen;obtain ⟨e,he,hiff⟩:=uK A.in1 ⟨hp,g,d,tk,os⟩ a t c u;refine wpAny_bind (he prog w _ _ ?_);cases e with
          | true =>
            rw [if_pos (hiff.mp rfl)] at hR
            wp_walk
            exact ⟨rfl,rfl,_,_,_,_,hrest,hvi',hwi',by lia,hR⟩
          | false =>
            rw [if_neg (fun q=>absurd (hiff.mpr q) aar)] at hR;have hri:=tH A.in1 ⟨hp,g,d,tk,os⟩ a t c u prog w
            wp_walk using hri
            exact ⟨_,rfl,by simpa using hR⟩
    case fin =>
      rintro ⟨b1,b2⟩ s' ⟨hb',rfl,vs,ws,ns',ms',hz,hvi,hwi,hlen,hR⟩;simp only at hb';subst hb';have hv:lexLt ns' ms'=decide (items.size < items2.size):=by
        cases hvi with
        | nil =>
          cases hwi with
          | nil =>
            simp only [aa7] at hlen;rw [lexLt_nil_nil];exact (decide_eq_false (by lia)).symm
          | cons c u hw =>
            simp only [aa7,aaF] at hlen;rw [kE];exact (decide_eq_true (by lia)).symm
        | cons a t hv =>
          cases hwi with
          | nil =>
            simp only [aa7,aaF] at hlen;rw [kG];exact (decide_eq_false (by lia)).symm
          | cons c u hw =>
            rw [List.zip_cons_cons] at hz;cases hz
      rw [hv] at hR
      wp_walk
      exact ⟨_,rfl,by simpa [Builtin.Tuple.tupleCompareSizes] using hR⟩
    case h =>
      exact ⟨rfl,rfl,items.toList,items2.toList,ns,ms,rfl,hi,hj,by lia,h⟩
end
section
variable {prog:Program} {w:World} {A:Around} {E:Value→Shared→Prop} {s:Shared}
theorem lt_tupInts {l b:Addr} {items items2:Array Value} {ns ms:List Int} {Q:Value→Shared→Prop} (hl:IsTup s.heap l items) (hb:IsTup s.heap b items2) (hi:IntsAre items.toList ns) (hj:IntsAre items2.toList ms)
    (hu:A.units < cLine) (h:Q (.bool (lexLt ns ms)) s):wpAny (model prog w) A (compareOp .Lt (.ref l) (.ref b)) Q E s:=by
  obtain ⟨⟨cls,dd,data,sl⟩,ho,hc,n,hd⟩:=id hl;obtain ⟨⟨cls2,dd2,data2,sl2⟩,ho2,hc2,n2,hd2⟩:=id hb;simp only at hc hd hc2 hd2;subst hc hd hc2 hd2;exact richCompare_meets_room (op:=.Lt) ⟨_,ho,rfl⟩ ⟨_,ho2,rfl⟩ PySem.F.slot_tuple_lt PySem.F.entry_tuple_lt (PySem.F.args_tuple_lt_2 _ _) (lC l b items items2 n n2 dd dd2 sl sl2 ns ms hi hj)
    ⟨ho,ho2,show Value.bool (lexLt ns ms)≠Value.notImplemented∧Q (.bool (lexLt ns ms)) s from ⟨(fun x=>nomatch x),h⟩⟩ hu
def sIx (n d:Nat):Option Int→Nat
  | none=>d
  | some v=>if v < 0 then (v+(n:Int)).toNat else min v.toNat n
end
end HT
namespace L2
open PySem PySem.Spec PyProof.Rows
abbrev TO:=St→Hp→(Option Int→Hp→Prop)→Prop
def PO (X:Cx) (e:Option Expr) (t:TO):Prop :=
  ∀ (pins:List (Addr × Obj)) (s:Shared) (σ:St) (H:Hp) (Q:Option Int→Hp→Prop),Inv X pins σ H s→t σ H Q →
    wpAny (model X.prog X.w) X.A (evalPart e X.env) (fun u s'=>∃ o H',Inv X pins σ H' s'∧IsPart u o∧Q o H') X.xe s
def vg:TO:=fun _ H Q=>Q none H
def xM (t:TE):TO:=fun σ H Q=>t σ H fun x H1=>∃ i,x=.int i∧Q (some i) H1
theorem gk {ns:List Int}:∀ {us:List Value},Vals (ns.map V.int) us→IntsAre us ns:=by
  induction ns with
  | nil=>intro us r;rw [abh] at r;cases r;exact .nil
  | cons n ns ih =>
    intro us r;rw [aaH] at r;cases r with
    | cons r1 r2 =>
      obtain ⟨t,e⟩:=r1;subst e;exact .cons n t (ih r2)
section
variable {X:Cx} {e:Expr} {te:TE} {lo hi:Option Expr} {tl th:TO} {pos p2:Pos}
theorem dv:PO X none vg:=by
  intro pins s σ H Q I h;rw [evalPart_none];exact wpAny_pure ⟨none,H,I,.none,h⟩
theorem du (h:PE X e te):PO X (some e) (xM te):=by
  intro pins s σ H Q I hw;rw [evalPart_some];refine thn (h pins s σ H _ I hw) fun u s1 ⟨x,H1,I1,r1,q1⟩=>?_;obtain ⟨i,rfl,q⟩:=q1;obtain ⟨t,rfl⟩:=r1;exact ⟨some i,H1,I1,.int i t,q⟩
def SlR (X:Cx) (r:V→Option Int→Option Int→Hp→VK→Prop):Prop :=
  ∀ (pins:List (Addr × Obj)) (s:Shared) (σ:St) (H:Hp) (x:V) (v vl vu:Value) (lo hi:Option Int) (sl:Addr) (Q:VK),Inv X pins σ H s→RelV x v→s.heap.IsSliceOf sl vl vu .none→IsPart vl lo→IsPart vu hi→r x lo hi H Q →
    ∃ T id,typeLookup (.type T) "__getitem__" = pure (some (.builtin id))∧s.TypeIs v T∧wpAny (model X.prog X.w) X.A (getItem v (.ref sl)) (EP X pins σ Q) X.xe s
def tSl (r:V→Option Int→Option Int→Hp→VK→Prop) (te:TE) (tl th:TO):TE:=fun σ H Q=>te σ H fun x H1=>tl σ H1 fun l H2=>th σ H2 fun u H3=>r x l u H3 Q
theorem cZ {r:V→Option Int→Option Int→Hp→VK→Prop} (hr:SlR X r) (he:PE X e te) (hl:PO X lo tl) (hu:PO X hi th):PE X (.Subscript e (.Slice lo hi none p2) pos) (tSl r te tl th):=by
  intro pins s σ H Q I h;refine Subscript_ (thn (he pins s σ H _ I h) fun v s1 ⟨x,H1,I1,r1,q1⟩=>?_);refine wpAny_Slice (thn (hl pins s1 σ H1 _ I1 q1) fun vl s2 ⟨l,H2,I2,pl,q2⟩=>thn (hu pins s2 σ H2 _ I2 q2) fun vu s3 ⟨u,H3,I3,pu,q3⟩=>?_);rw [evalPart_none];refine wpAny_pure ?_;have I4:Inv X pins σ H3 { s3 with heap:=s3.heap.push { cls:=.type "slice",data:=.fields #[vl,vu,.none] } }:=I3.kept (t':=s3.toks) fun b ob q=>aac _ q;obtain ⟨T,id,hT,ht,hg⟩:=hr pins { s3 with heap:=s3.heap.push { cls:=.type "slice",data:=.fields #[vl,vu,.none] } } σ H3 x v vl vu l u s3.heap.objs.size Q I4 r1 (Heap.IsSliceOf.new ..) pl pu q3;show wpAny (model X.prog X.w) X.A (subscriptTail e (.Slice lo hi none p2) v (.ref s3.heap.objs.size)) (EP X pins σ Q) X.xe { s3 with heap:=s3.heap.push { cls:=.type "slice",data:=.fields #[vl,vu,.none] } };exact tail_any (ops:=[.ref s3.heap.objs.size,v]) ht hT hg (by with_unfolding_all rfl)
def fm (xs:List V) (lo hi:Option Int):List V:=(xs.drop (HT.sIx xs.length 0 lo)).take (HT.sIx xs.length xs.length hi - HT.sIx xs.length 0 lo)
theorem o_ (xs:List V) (lo hi:Option Int):(fm xs lo hi).length≤xs.length:=by
  unfold fm;rw [aaz,aba];lia
end
open PySem PySem.Spec PyProof.Rows
def ixN (n:Nat) (i:Int):Option Nat:=if 0≤i then (if i < n then some i.toNat else none) else if -(n:Int)≤i then some (i+n).toNat else none
def atI {α:Type} (xs:List α) (i:Int):Option α:=(ixN xs.length i).bind fun j=>xs[j]?
theorem re {n:Nat} {i:Int} {j:Nat} (h:ixN n i=some j):seqIndex? i n=some j∧j < n∧-(n:Int)≤i∧i < n:=by
  unfold ixN at h;by_cases h0:0≤i
  · rw [if_pos h0] at h;by_cases h1:i < n
    · rw [if_pos h1] at h;have e:i.toNat=j:=aa1 h;exact ⟨by rw [seqIndex_of h0 h1,e],by lia,by lia,h1⟩
    · rw [if_neg h1] at h;cases h
  · rw [if_neg h0] at h;by_cases h1:-(n:Int)≤i
    · rw [if_pos h1] at h;have e:(i+n).toNat=j:=aa1 h;exact ⟨by rw [seqIndex_neg (by lia) h1,e],by lia,h1,by lia⟩
    · rw [if_neg h1] at h;cases h
theorem nO {α:Type} {xs:List α} {i:Int} {v:α} (h:atI xs i=some v):∃ j,seqIndex? i xs.length=some j∧xs[j]?=some v∧j < xs.length∧-(xs.length:Int)≤i∧i < xs.length:=by
  unfold atI at h;cases e:ixN xs.length i with
  | none=>rw [e] at h;cases h
  | some j =>
    rw [e] at h;obtain ⟨h1,h2,h3,h4⟩:=re e;exact ⟨j,h1,h,h2,h3,h4⟩
theorem iR {α:Type} {xs:List α} {j:Nat} {v:α} (h:xs[j]?=some v):atI xs (j:Int)=some v:=by
  have hj:j < xs.length:=(aan.mp h).1;have e:ixN xs.length (j:Int)=some j:=by
    unfold ixN;rw [if_pos (by lia),if_pos (by lia)];simp
  unfold atI;rw [e];exact h
def vX (b:Expr):Prop:=∀ o i,subscripted b false o i=operate [o,i] (getItem o i)
def IxR (X:Cx) (r:R2):Prop :=
  ∀ (value slice:Expr) (pins:List (Addr × Obj)) (s:Shared) (σ:St) (H:Hp) (x y:V) (v u:Value) (Q:VK),Inv X pins σ H s→RelV x v→RelV y u→r x y H Q →
    subscripted slice false v u=operate [v,u] (getItem v u)→wpAny (model X.prog X.w) X.A (subscriptTail value slice v u) (EP X pins σ Q) X.xe s
def MtR (X:Cx) (id:String) (r:V→List V→Hp→VK→Prop):Prop :=
  ∀ (pins:List (Addr × Obj)) (s:Shared) (σ:St) (H:Hp) (x:V) (xs:List V) (v:Value) (us:List Value) (Q:VK),Inv X pins σ H s→RelV x v→Vals xs us→r x xs H Q →
    wpAny (model X.prog X.w) X.A (call (.builtin id) (v :: us)) (EP X pins σ Q) X.xe s
section
variable {X:Cx} {a b:Expr} {ta tb:TE} {pos:Pos}
theorem aY {r:R2} (hr:IxR X r) (ha:PE X a ta) (hb:PE X b tb) (hs:vX b):PE X (.Subscript a b pos) (tOp r ta tb):=by
  intro pins s σ H Q I h;exact Subscript_ (xB ha hb I h fun v u s2 x y H2 I2 rx ry q=>hr a b pins s2 σ H2 x y v u Q I2 rx ry q (hs _ _))
def yO (K:aaa):R2:=fun x y H Q=>∃ p xs i v,x=.ref p∧y=.int i∧SqL K H p xs∧atI xs i=some v∧Q v H
def wR (K:aaa):R2:=fun x y H Q=>∃ p xs i v,x=.ref p∧y=.int i∧SqT K H p xs∧atI xs i=some v∧Q v H
def yN:R2:=fun x y H Q=>∃ z i c,x=.str z∧y=.int i∧z.length≤sizeLine∧atI z.cps.toList i=some c∧Q (.str ⟨#[c]⟩) H
theorem bc:IxR X (yO X.K):=by
  intro value slice pins s σ H x y v u Q I rx ry h hs;obtain ⟨p,xs,i,z,rfl,rfl,hq,he,q⟩:=h;cases rx;obtain ⟨t,rfl⟩:=ry;obtain ⟨its,r,pl,hz⟩:=I.list hq;obtain ⟨j,h1,h2,h3,h4,h5⟩:=nO he;obtain ⟨w,ew,rw'⟩:=r.get h2;have hl:=r.length;have hn:=ir;have fin:EP X pins σ Q w s:=⟨z,H,I,rw',q⟩
  by_cases h0:0≤i
  · have hj:i.toNat=j:=by
      rw [seqIndex_of h0 h5] at h1;exact aa1 h1
    exact item_listR pl.isList h0 (by lia) (by rw [hj];simpa using ew) fin hs
  · have hj:(i+(its.toArray.size:Int)).toNat=j:=by
      rw [seqIndex_neg (by lia) h4] at h1;rw [aah,← hl];exact aa1 h1
    exact subscriptTail_builtinR (x:=w) pl.isList.typeIs slot_list_getitem.lookup
      (wpAny_getItem_list_neg (Q:=fun r s'=>r=w∧EP X pins σ Q r s') pl.isList (by lia) (by rw [aah] <;> lia) (by lia) (by rw [hj];simpa using ew) ⟨rfl,fin⟩) hs
theorem bv:IxR X (wR X.K):=by
  intro value slice pins s σ H x y v u Q I rx ry h hs;obtain ⟨p,xs,i,z,rfl,rfl,hq,he,q⟩:=h;cases rx;obtain ⟨t,rfl⟩:=ry;obtain ⟨its,r,pl,hz⟩:=I.tuple hq;obtain ⟨j,h1,h2,h3,h4,h5⟩:=nO he;obtain ⟨w,ew,rw'⟩:=r.get h2;have hl:=r.length;have hn:=ir;have fin:EP X pins σ Q w s:=⟨z,H,I,rw',q⟩
  exact subscriptTail_builtinR (x:=w) pl.typeIs slot_tuple_getitem.lookup
    (getItem_tuple (j:=j) (Q:=fun r s'=>r=w∧EP X pins σ Q r s') pl (by lia) (by lia) (by rw [aah,← hl];exact h1) (by simpa using ew) ⟨rfl,fin⟩) hs
theorem xt:IxR X yN:=by
  intro value slice pins s σ H x y v u Q I rx ry h hs;obtain ⟨z,i,c,rfl,rfl,hz,he,q⟩:=h;obtain ⟨t,rfl⟩:=rx;obtain ⟨t',rfl⟩:=ry;obtain ⟨j,h1,h2,h3,h4,h5⟩:=nO he;have hl:z.cps.toList.length=z.length:=by simp [Str.length]
  rw [hl] at h1 h4 h5;have hn:=ir;exact tail_any (typeIs_str s z t) slot_str_getitem.lookup (getItem_str (c:=c) (by
    have e1:decide (i < -(2 ^ 63:Int))=false:=decide_eq_false (by lia);have e2:decide (i ≥ 2 ^ 63)=false:=decide_eq_false (by lia);rw [e1,e2,Bool.or_false]) (by rw [h1];simpa using h2) ⟨.str ⟨#[c]⟩,H,I.tok _,⟨_,rfl⟩,q⟩) hs
theorem ql (its:List Value) (n j:Nat) (u:Value):aaU (·.setIfInBounds j u) { cls:=.type "list",data:=.seq its.toArray n }={ cls:=.type "list",data:=.seq (its.set j u).toArray n }:=by
  simp [aaU]
theorem Inv.lst {pins:List (Addr × Obj)} {σ:St} {H:Hp} {s:Shared} {p:Addr} {xs:List V} (I:Inv X pins σ H s) (h:H p=some (.lst xs)) :
    ∃ (its:List Value) (n:Nat),Vals xs its∧s.heap.get? p=some { cls:=.type "list",data:=.seq its.toArray n }∧xs.length≤sizeLine:=by
  obtain ⟨z,its,n,r,e⟩:=I.hok p _ h;exact ⟨its,n,r,e,z⟩
theorem Inv.lstUpd {pins:List (Addr × Obj)} {σ:St} {H:Hp} {s:Shared} {p:Addr} {xs ys:List V} {its its':List Value} {n n':Nat} {f:Obj→Obj} (I:Inv X pins σ H s) (h:H p=some (.lst xs))
    (ho:s.heap.get? p=some { cls:=.type "list",data:=.seq its.toArray n }) (hf:f { cls:=.type "list",data:=.seq its.toArray n }={ cls:=.type "list",data:=.seq its'.toArray n' }) (r:Vals ys its') (hz:ys.length≤sizeLine) (t:Nat) :
    Inv X pins σ (upd H p (.lst ys)) { s with heap:=s.heap.update p f,toks:=t }:=by
  have e:(s.heap.update p f).get? p=some { cls:=.type "list",data:=.seq its'.toArray n' }:=by
    rw [Heap.get?_update_self f ho (by rw [hf] <;> rfl),hf]
  refine I.write (x:=p) (e:=p) (by rw [h];trivial) (.inl rfl) (fun b u hb q=>(Heap.get?_update_other _ _ (abC hb)).trans q) ⟨_,e⟩ ?_;exact ⟨hz,its',n',r,e⟩
def x4:V→V→V→Hp→(Hp→Prop)→Prop:=fun o i v H Q=>∃ p xs k j,o=.ref p∧i=.int k∧H p=some (.lst xs)∧ixN xs.length k=some j∧Q (upd H p (.lst (xs.set j v)))
theorem n_:yu X x4:=by
  intro pins s σ H o i v ov iv u Q I ro ri rv h;obtain ⟨p,xs,k,j,rfl,rfl,hp,hj,q⟩:=h;cases ro;obtain ⟨t,rfl⟩:=ri;obtain ⟨its,n,r,ho,hz⟩:=I.lst hp;obtain ⟨h1,h2,h3,h4⟩:=re hj;have hl:=r.length;have hn:=ir;have I':Inv X pins σ (upd H p (.lst (xs.set j v))) { s with heap:=s.heap.update p (aaU (·.setIfInBounds j u)) } :=
    I.lstUpd hp ho (ql its n j u) (r.set rv j) (by rw [List.length_set];exact hz) s.toks
  by_cases h0:0≤k
  · have hk:k.toNat=j:=by
      rw [seqIndex_of h0 h4] at h1;exact aa1 h1
    exact PySem.W.ki_setAt ho h0 (by lia) (by rw [aah,← hl];exact h4) (by rw [hk];exact ⟨_,I',q⟩)
  · have hk:(k+(its.toArray.size:Int)).toNat=j:=by
      rw [seqIndex_neg (by lia) h3] at h1;rw [aah,← hl];exact aa1 h1
    exact PySem.W.ki_setBack ho (by lia) (by rw [aah,← hl];exact h3) (by lia) (by rw [hk];exact ⟨_,I',q⟩)
theorem mQ (lo hi:Option Int) (n:Nat):(sliceBounds lo hi none n).1=((HT.sIx n 0 lo:Nat):Int)∧(sliceBounds lo hi none n).2.1=((HT.sIx n n hi:Nat):Int)∧(sliceBounds lo hi none n).2.2=1:=by
  refine ⟨?_,?_,rfl⟩
  · cases lo with
    | none=>simp [sliceBounds,HT.sIx]
    | some i =>
      simp only [sliceBounds,HT.sIx,Option.getD_none,show (1:Int) > 0 by decide,if_true];by_cases h:i < 0
      · simp only [h,if_true] <;> lia
      · simp only [h,if_false] <;> lia
  · cases hi with
    | none=>simp [sliceBounds,HT.sIx]
    | some i =>
      simp only [sliceBounds,HT.sIx,Option.getD_none,show (1:Int) > 0 by decide,if_true];by_cases h:i < 0
      · simp only [h,if_true] <;> lia
      · simp only [h,if_false] <;> lia
theorem lF (its:List Value) (lo hi:Option Int):slicePick its.toArray lo hi none=((its.drop (HT.sIx its.length 0 lo)).take (HT.sIx its.length its.length hi - HT.sIx its.length 0 lo)).toArray:=by
  obtain ⟨h1,h2,h3⟩:=mQ lo hi its.toArray.size;unfold slicePick;rw [h1,h2,h3];simp only [sliceRange_one,pick_run,aah] <;> rfl
def xZ (K:aaa):V→Option Int→Option Int→Hp→VK→Prop:=fun x lo hi H Q=>∃ a xs,x=.ref a∧SqL K H a xs∧∀ p,H p=none→Q (.ref p) (upd H p (.lst (fm xs lo hi)))
theorem dS:SlR X (xZ X.K):=by
  intro pins s σ H x v vl vu lo hi sl Q I rx hs pl pu h;obtain ⟨a,xs,rfl,hx,q⟩:=h;cases rx;obtain ⟨its,r,ht,hz⟩:=I.list hx;have hlen:=r.length;refine ⟨"list",_,slot_list_getitem.lookup,ht.isList.typeIs,?_⟩;refine wpAny_getItem_list_slice ht.isList hs pl pu .none (by simp) ?_ (by rw [aah] <;> lia);rw [lF,← hlen];refine ⟨.ref s.heap.objs.size,_,I.laid (t':=s.toks) (o:=.lst (fm xs lo hi)) (fun b ob q=>aac _ q) (aae _) ?_,rfl,q _ (I.hok.fresh (aae _))⟩;exact ⟨aaT (o_ xs lo hi) hz,_,0,(r.drop (HT.sIx xs.length 0 lo)).take (HT.sIx xs.length xs.length hi - HT.sIx xs.length 0 lo),aaB _ rfl⟩
def gL:V→Bool
  | .non=>true
  | .bl _=>true
  | .int _=>true
  | .str _=>true
  | _=>false
def eqV:V→V→Bool
  | .non,.non=>true
  | .bl a,.bl b=>a == b
  | .bl a,.int b=>(if a then 1 else 0) == b
  | .int a,.bl b=>a == (if b then 1 else 0)
  | .int a,.int b=>a == b
  | .str a,.str b=>a == b
  | _,_=>false
theorem uL {A:Around} {s:Shared} {y x:V} {u v:Value} (ry:RelV y u) (rx:RelV x v) (fy:gL y=true) (fx:gL x=true):SeqAt.EqAt A s u v (eqV y x):=by
  cases y with
  | non =>
    cases ry;cases x with
    | non=>cases rx;exact SeqAt.EqAt.same _
    | bl b=>cases rx;exact SeqAt.EqAt.none_bool b
    | int b=>obtain ⟨t,rfl⟩:=rx;exact SeqAt.EqAt.none_int b t
    | str b=>obtain ⟨t,rfl⟩:=rx;exact SeqAt.EqAt.none_str b t
    | _=>exact absurd (show false=true from fx) aar
  | bl a =>
    cases ry;cases x with
    | non=>cases rx;exact SeqAt.EqAt.bool_none a
    | bl b=>cases rx;exact SeqAt.EqAt.bool_bool a b
    | int b=>obtain ⟨t,rfl⟩:=rx;exact SeqAt.EqAt.bool_int a b t
    | str b=>obtain ⟨t,rfl⟩:=rx;exact SeqAt.EqAt.bool_str a b t
    | _=>exact absurd (show false=true from fx) aar
  | int a =>
    obtain ⟨t',rfl⟩:=ry;cases x with
    | non=>cases rx;exact SeqAt.EqAt.int_none a t'
    | bl b=>cases rx;exact SeqAt.EqAt.int_bool a t' b
    | int b=>obtain ⟨t,rfl⟩:=rx;exact ab8 a t' b t
    | str b=>obtain ⟨t,rfl⟩:=rx;exact SeqAt.EqAt.int_str a t' b t
    | _=>exact absurd (show false=true from fx) aar
  | str a =>
    obtain ⟨t',rfl⟩:=ry;cases x with
    | non=>cases rx;exact SeqAt.EqAt.str_none a t'
    | bl b=>cases rx;exact SeqAt.EqAt.str_bool a t' b
    | int b=>obtain ⟨t,rfl⟩:=rx;exact SeqAt.EqAt.str_int a t' b t
    | str b=>obtain ⟨t,rfl⟩:=rx;exact SeqAt.EqAt.str_str a t' b t
    | _=>exact absurd (show false=true from fx) aar
  | _=>exact absurd (show false=true from fy) aar
def eqU (x:V) (u:Value):Bool:=match u with
  | .none=>eqV .non x
  | .bool b=>eqV (.bl b) x
  | .int i _=>eqV (.int i) x
  | .str z _=>eqV (.str z) x
  | _=>false
theorem uJ {x y:V} {u:Value} (r:RelV y u) (f:gL y=true):eqU x u=eqV y x:=by
  cases y with
  | non=>cases r;rfl
  | bl b=>cases r;rfl
  | int i=>obtain ⟨t,rfl⟩:=r;rfl
  | str z=>obtain ⟨t,rfl⟩:=r;rfl
  | _=>exact absurd (show false=true from f) aar
theorem nQ {x:V}:∀ {xs:List V} {us:List Value},Vals xs us→xs.all gL=true→us.any (eqU x)=xs.any fun y=>eqV y x
  | _,_,.nil,_=>rfl
  | y :: xs,u :: us,.cons r t,f=>by
    rw [List.all_cons,abt] at f;rw [ab3,ab3,uJ r f.1,nQ t f.2]
theorem kD {A:Around} {s:Shared} {x:V} {v:Value} (rx:RelV x v) (fx:gL x=true):∀ {xs:List V} {us:List Value},Vals xs us→xs.all gL=true→∀ u∈us,SeqAt.EqAt A s u v (eqU x u)
  | _,_,.nil,_=>fun u hu=>by cases hu
  | y :: xs,u :: us,.cons r t,f=>fun u' hu=>by
    rw [List.all_cons,abt] at f;rcases aao.mp hu with rfl|hu
    · rw [uJ r f.1];exact uL r rx f.1 fx
    · exact kD rx fx t f.2 u' hu
def inV (x:V) (xs:List V):Bool:=xs.any fun y=>eqV y x
def rIn (K:aaa) (neg:Bool):R2:=fun x y H Q=>∃ p xs,y=.ref p∧(SqL K H p xs∨SqT K H p xs)∧gL x=true∧xs.all gL=true∧Q (.bl (if neg then !inV x xs else inV x xs)) H
theorem rY:OpR X (compareOp .In) (rIn X.K false):=by
  intro pins s σ H x y v u Q I rx ry h;obtain ⟨p,xs,rfl,hq,fx,fs,q⟩:=h;cases ry;rcases hq with hq|hq
  · obtain ⟨its,r,pl,hz⟩:=I.list hq;refine SeqAt.in_listAt (eqU x) pl.isList (fun w hw=>kD rx fx r fs w (by simpa using hw)) ⟨.bl _,H,I,rfl,?_⟩;rw [show its.toArray.any (eqU x)=its.any (eqU x) by simp,nQ r fs];exact q
  · obtain ⟨its,r,pl,hz⟩:=I.tuple hq;refine SeqAt.in_tupleAt (eqU x) pl (fun w hw=>kD rx fx r fs w (by simpa using hw)) ⟨.bl _,H,I,rfl,?_⟩;rw [show its.toArray.any (eqU x)=its.any (eqU x) by simp,nQ r fs];exact q
theorem aK:dG X (.builtin "len") (fun xs H Q=>∃ p ys,xs=[.ref p]∧(SqL X.K H p ys∨SqT X.K H p ys)∧Q (.int ys.length) H):=by
  intro pins s σ H xs us Q I r h;obtain ⟨p,ys,rfl,hq,q⟩:=h;obtain ⟨u,rfl,rx⟩:=gm r;cases rx;have hn:=ir;rcases hq with hq|hq
  · obtain ⟨its,r',pl,hz⟩:=I.list hq;have hlen:=r'.length;exact Calls.call_len_list pl.isList (by simp only [aah] <;> lia) ⟨.int ys.length,H,I.tok _,⟨s.toks+1,by rw [aah,hlen]⟩,q⟩
  · obtain ⟨its,r',pl,hz⟩:=I.tuple hq;have hlen:=r'.length;exact len_tuple pl (by simp only [aah] <;> lia) ⟨.int ys.length,H,I.tok _,⟨s.toks+1,by rw [aah,hlen]⟩,q⟩
theorem iQ:dG X (.builtin "len") (fun xs H Q=>∃ z,xs=[.str z]∧z.length≤sizeLine∧Q (.int z.length) H):=by
  intro pins s σ H xs us Q I r h;obtain ⟨z,rfl,hz,q⟩:=h;obtain ⟨u,rfl,t,rfl⟩:=gm r;have hn:=ir;exact len_str (by lia) ⟨.int z.length,H,I.tok _,⟨_,rfl⟩,q⟩
theorem fo:dG X (.type "tuple") (fun xs H Q=>∃ p ys,xs=[.ref p]∧((SqL X.K H p ys∧∀ l,H l=none→Q (.ref l) (upd H l (.tup ys)))∨(SqT X.K H p ys∧Q (.ref p) H))):=by
  intro pins s σ H xs us Q I r h;obtain ⟨p,ys,rfl,h⟩:=h;obtain ⟨u,rfl,rx⟩:=gm r;cases rx;rcases h with ⟨hq,q⟩|⟨hq,q⟩
  · obtain ⟨its,r',pl,hz⟩:=I.list hq;have hlen:=r'.length;refine call_tuple_list pl.isList (fun h' kp=>?_) (by simp only [aah] <;> lia);have I1:Inv X pins σ H { s with heap:=h' }:=I.kept (t':=s.toks) kp;have I2:Inv X pins σ (upd H h'.objs.size (.tup ys)) { s with heap:=h'.push { cls:=.type "tuple",data:=.seq its.toArray } } :=
      I1.laid (t':=s.toks) (fun b o e=>aac _ e) (aae _) (show ObjOk X.prog X.w _ _ _ (.tup ys) from ⟨hz,its,r',IsTup.new _ _⟩)
    exact ⟨.ref h'.objs.size,_,I2,rfl,q _ (I1.hok.fresh (aae _))⟩
  · obtain ⟨its,r',pl,hz⟩:=I.tuple hq;exact call_tuple_same pl ⟨.ref p,H,I,rfl,q⟩
def tyV (K:aaa) (T:String) (x:V) (H:Hp):Prop:=match x with
  | .str _=>T = "str"
  | .int _=>T = "int"
  | .ref p=>(T = "list"∧∃ xs,SqL K H p xs)∨(T = "tuple"∧∃ o,K.lookup p=some o∧o.cls=.type "tuple"∧o.dict=none) ∨
      (T = "dict"∧((∃ kvs,H p=some (.dK kvs))∨∃ kvs,H p=some (.dT kvs)))∨(T = "set"∧∃ S n,H p=some (.set S n))
  | _=>False
theorem wB {pins:List (Addr × Obj)} {σ:St} {H:Hp} {s:Shared} {T:String} {x:V} {v:Value} (I:Inv X pins σ H s) (r:RelV x v) (ty:tyV X.K T x H) :
    s.TypeIs v T∧∀ a,v=.ref a→∃ ob,s.heap.get? a=some ob∧ob.dict=none:=by
  cases x with
  | str z =>
    obtain ⟨t,rfl⟩:=r;cases (show T = "str" from ty);exact ⟨typeIs_str s z t,fun _ e=>nomatch e⟩
  | int i =>
    obtain ⟨t,rfl⟩:=r;cases (show T = "int" from ty);exact ⟨typeIs_int s i t,fun _ e=>nomatch e⟩
  | ref p =>
    cases r;rcases ty with ⟨rfl,xs,hq⟩|⟨rfl,o,hk,hc,hd⟩|⟨rfl,hk⟩|⟨rfl,S,n,hk⟩
    · obtain ⟨its,_,pl,_⟩:=I.list hq;refine ⟨pl.isList.typeIs,fun a e=>?_⟩;cases e;obtain ⟨o,n,e,c,hd,_⟩:=pl;exact ⟨o,e,hd⟩
    · refine ⟨⟨o,I.kIn p o hk,hc⟩,fun a e=>?_⟩;cases e;exact ⟨o,I.kIn _ o hk,hd⟩
    · have z:∃ o,s.heap.get? p=some o∧o.ExactDict:=by
        rcases hk with ⟨kvs,hk⟩|⟨kvs,hk⟩
        · obtain ⟨_,_,_,_,o,_,_,e,ex,_⟩:=I.hok p _ hk;exact ⟨o,e,ex⟩
        · obtain ⟨_,_,_,_,o,_,_,e,ex,_⟩:=I.hok p _ hk;exact ⟨o,e,ex⟩
      obtain ⟨o,e,ex⟩:=z;refine ⟨⟨o,e,ex.1⟩,fun a e2=>?_⟩;cases e2;exact ⟨o,e,ex.2.1⟩
    · obtain ⟨o,_,_,_,e,ex,_⟩:=I.hok p _ hk;refine ⟨⟨o,e,ex.1⟩,fun a e2=>?_⟩;cases e2;exact ⟨o,e,ex.2.1⟩
  | _=>exact abc ty
def tBM (K:aaa) (T:String) (r:V→List V→Hp→VK→Prop) (to:TE) (t:TA):TE:=fun σ H Q=>to σ H fun x H1=>tyV K T x H1∧t σ H1 fun xs H2=>r x xs H2 Q
variable {o e:Expr} {es:List Expr} {to:TE} {t:TA} {name:Str} {apos cpos:Pos} {T id:String} {r:V→List V→Hp→VK→Prop}
theorem ju (pa:PlainAttrs T) (slot:Slot T name id) (hty:typeOf (.builtin id)=pure (.type "method_descriptor")) (hm:MtR X id r) (ho:PE X o to) (ha:PA X (e :: es) t)
    (hbase:attributeBase o name X.env (eval o X.env)=eval o X.env:=by rfl)
    (hfew:((backTo cpos (starEach (e :: es) X.env)).all (fun x=>!x.1) && (backToKw cpos (keywordEach [] X.env)).all (fun x=>x.1.isSome)
      && decide ((e :: es).length+([]:List Keyword).length+(if ([]:List Keyword).isEmpty then 0 else 1) < 30))=true:=by rfl)
    (hline:(apos.endLine == cpos.line)=true:=by rfl) (hs:starEach (e :: es) X.env=(false,eval e X.env) :: starEach es X.env:=by rfl) (hplain:(backTo cpos (starEach es X.env)).any (·.1)=false:=by rfl) :
    PE X (.Call (.Attribute o name apos) (e :: es) [] cpos) (tBM X.K T r to t):=by
  intro pins s σ H Q I h;refine wpAny_Call_method_late hbase hfew hline rfl (thn (ho pins s σ H _ I h) fun v s1 ⟨x,H1,I1,r1,ty,q1⟩=>?_);obtain ⟨h1,h2⟩:=wB I1 r1 ty;refine ⟨T,id,pa,slot,hty,h1,h2,?_⟩;have hA:=ha cpos pins s1 σ H1 _ I1 q1;rw [hs] at hA ⊢;refine Calls.callWith_builtin (by show (false || (backTo cpos (starEach es X.env)).any (·.1))=false;rw [hplain] <;> rfl) (Calls.evalArgs_plain ?_);exact thn hA fun us s2 ⟨vs,H2,I2,r2,q2⟩=>hm pins s2 σ H2 x vs v us Q I2 r1 r2 q2
end
open PySem PySem.Spec PyProof.Rows
def MtM (X:Cx) (id:String) (r:V→List V→Hp→VK→Prop):Prop :=
  ∀ (pins:List (Addr × Obj)) (s:Shared) (σ:St) (H:Hp) (x:V) (xs:List V) (v:Value) (us:List Value) (Q:VK),Inv X pins σ H s→RelV x v→Vals xs us→r x xs H Q →
    wpAny (model X.prog X.w) X.A (call (.builtin id) (v :: us)) (EP X pins σ Q) X.xe s
theorem Vals.one {x:V} {us:List Value} (h:Vals [x] us):∃ u,us=[u]∧RelV x u:=by
  cases h with
  | cons r t=>cases t;exact ⟨_,rfl,r⟩
theorem Vals.rep {xs:List V} {us:List Value} (h:Vals xs us):∀ k:Nat,Vals (aaf k xs).flatten (aaf k us).flatten
  | 0=>.nil
  | k+1=>by
    rw [aa9,aa9,abF,abF];exact Vals.append h (Vals.rep h k)
theorem mt (its:List Value):∀ (k:Nat) (acc:List Value),
    List.foldl (fun x1 x2=>x1++x2) acc.toArray (aaf k its.toArray)=(acc++(aaf k its).flatten).toArray
  | 0,acc=>by simp
  | k+1,acc=>by
    have e:acc.toArray++its.toArray=(acc++its).toArray:=by simp
    have e2:(acc++its)++(aaf k its).flatten=acc++(aaf (k+1) its).flatten:=by
      rw [aa9,abF,abE]
    rw [← e2,← mt its k (acc++its),← e,aa9,List.foldl_cons]
section
variable {X:Cx} {pins:List (Addr × Obj)} {σ:St} {H:Hp} {s:Shared} {l b:Addr} {xs ys zs:List V}
theorem Inv.lset {its its':List Value} {n:Nat} {f:Array Value→Array Value} {t':Nat} (I:Inv X pins σ H s) (hH:H l=some (.lst xs))
    (e:s.heap.get? l=some { cls:=.type "list",data:=.seq its.toArray n }) (hf:f its.toArray=its'.toArray) (hv:Vals ys its') (hz:ys.length≤sizeLine) :
    Inv X pins σ (upd H l (.lst ys)) { s with heap:=s.heap.update l (aaU f),toks:=t' }:=by
  have q:=PySem.IsL.update e f;rw [hf] at q;refine I.write (x:=l) (e:=l) (by rw [hH];exact trivial) (.inl rfl) (fun b' u hb hu=>(Heap.get?_update_other s.heap (aaU f) (abC hb)).trans hu) ⟨_,q⟩ ?_;exact ⟨hz,its',_,hv,q⟩
theorem Inv.lnew {its:List Value} {t':Nat} (I:Inv X pins σ H s) (hv:Vals ys its) (hz:ys.length≤sizeLine) :
    Inv X pins σ (upd H s.heap.objs.size (.lst ys)) { s with heap:=s.heap.push { cls:=.type "list",data:=.seq its.toArray },toks:=t' } :=
  I.laid (fun _ _ q=>aac _ q) (aae _) ⟨hz,its,0,hv,aaB _ rfl⟩
theorem Inv.fresh (I:Inv X pins σ H s):H s.heap.objs.size=none:=I.hok.fresh (aae _)
theorem Inv.lstM (I:Inv X pins σ H s) (hH:H l=some (.lst xs)):xs.length≤sizeLine∧∃ (its:List Value) (n:Nat),Vals xs its∧xs.length=its.length∧s.heap.get? l=some { cls:=.type "list",data:=.seq its.toArray n }:=by
  obtain ⟨z,its,n,r,e⟩:=I.hok l _ hH;exact ⟨z,its,n,r,r.length,e⟩
theorem ug {n:Nat} (h:n≤sizeLine):abW n=false:=by
  unfold abW;exact decide_eq_false (by lia)
end
section
variable {X:Cx}
def vo:V→List V→Hp→VK→Prop:=fun x vs H Q=>∃ l xs y,x=.ref l∧vs=[y]∧H l=some (.lst xs)∧xs.length < sizeLine∧Q .non (upd H l (.lst (xs++[y])))
theorem dZ:MtM X "list.append" vo:=by
  intro pins s σ H x vs v us Q I rx rv h;obtain ⟨l,xs,y,rfl,rfl,hH,hz,q⟩:=h;cases rx;obtain ⟨u,rfl,ru⟩:=rv.one;obtain ⟨z,its,n,r,hl,e⟩:=I.lstM hH;refine call_meets F.slot_list_append ⟨_,e,rfl⟩ F.entry_list_append (F.args_list_append_2 _ _) (PySem.list_append l its.toArray n u (by rw [aah];lia)) ⟨e,?_⟩;refine ⟨.non,_,I.lset (its':=its++[u]) hH e (by simp) (r.append (.cons ru .nil)) ?_,rfl,q⟩;rw [aal,aa8];lia
def yQ:R2:=fun x y H Q=>∃ l b xs zs,x=.ref l∧y=.ref b∧H l=some (.lst xs)∧H b=some (.lst zs)∧xs.length+zs.length≤sizeLine∧∀ p,H p=none→Q (.ref p) (upd H p (.lst (xs++zs)))
theorem bT:OpR X (binaryOp .Add) yQ:=by
  intro pins s σ H x y v u Q I rx ry h;obtain ⟨l,b,xs,zs,rfl,rfl,hH,hB,hz,q⟩:=h;cases rx;cases ry;obtain ⟨z,its,n,r,hl,e⟩:=I.lstM hH;obtain ⟨z2,its2,n2,r2,hl2,e2⟩:=I.lstM hB;refine PySem.P.add_list e e2 ?_ (by rw [aah,aah];lia);have ea:its.toArray++its2.toArray=(its++its2).toArray:=by simp
  rw [ea];exact ⟨.ref _,_,I.lnew (t':=s.toks) (r.append r2) (by rw [aal];lia),rfl,q _ I.fresh⟩
def yM:R2:=fun x y H Q=>∃ l k xs,x=.ref l∧y=.int k∧H l=some (.lst xs)∧-(2 ^ 63)≤k∧k < 2 ^ 63∧xs.length * k.toNat≤sizeLine ∧
  ∀ p,H p=none→Q (.ref p) (upd H p (.lst (aaf k.toNat xs).flatten))
theorem qY {α:Type} (xs:List α) (k:Nat):(aaf k xs).flatten.length=k * xs.length:=by
  induction k with
  | zero=>simp
  | succ k ih=>rw [aa9,abF,aal,ih,Nat.succ_mul,Nat.add_comm]
theorem je:OpR X (binaryOp .Mult) yM:=by
  intro pins s σ H x y v u Q I rx ry h;obtain ⟨l,k,xs,rfl,rfl,hH,h1,h2,hz,q⟩:=h;cases rx;obtain ⟨t,rfl⟩:=ry;obtain ⟨z,its,n,r,hl,e⟩:=I.lstM hH;have hlen:its.toArray.size * k.toNat≤sizeLine:=by rw [aah,← hl];exact hz
  have hcap:¬ its.toArray.size * k.toNat > (2 ^ 63 - 1) / 8:=by
    have : (sizeLine:Nat)≤(2 ^ 63 - 1) / 8:=by decide
    lia
  have hfit:¬ (!Builtin.List.listFitsIndex k)=true:=by
    rw [fitsIndex_both h1 h2];exact aar
  have hlong:¬ abW (its.toArray.size * k.toNat)=true:=by
    rw [ug hlen];exact aar
  have hnew:List.foldl (fun x1 x2=>x1++x2) #[] (aaf (if its.toArray.isEmpty=true then 0 else k.toNat) its.toArray)=(aaf k.toNat its).flatten.toArray:=by
    have f0:∀ m:Nat,List.foldl (fun x1 x2=>x1++x2) #[] (aaf m its.toArray)=(aaf m its).flatten.toArray:=fun m=>by
      have:=mt its m [];rw [abP] at this;exact this
    rw [f0];cases its with
    | nil=>simp
    | cons a r'=>rw [if_neg (by simp)]
  refine wpAny_binaryOp_repeat_ref (T:="list") (U:="int") (by decide) ⟨_,e,rfl⟩ (fun s'=>typeIs_int s' k t) noFill_list_mul F.fills_int_mul F.slot_int_rmul repeat_list F.slot_int_index.lookup
    (call_meets F.slot_int_rmul (typeIs_int s k t) F.entry_int_rmul (F.args_int_rmul_2 _ _) (int___rmul___int_list k t l its.toArray n)
      ⟨e,rfl,⟨_,e,rfl⟩,call_meets F.slot_list_mul ⟨_,e,rfl⟩ F.entry_list_mul (F.args_list_mul_2 _ _) (AutoListH.list___mul___list_int_3 l its.toArray n k t hfit hcap hlong) ⟨e,?_⟩⟩)
  rw [hnew];exact ⟨.ref _,_,I.lnew (t':=s.toks) (r.rep k.toNat) (by rw [qY,Nat.mul_comm];exact hz),rfl,q _ I.fresh⟩
end
section
variable {prog:Program} {w:World} {A:Around} {E:Value→Shared→Prop} {s:Shared}
end
section
variable {X:Cx}
end
end L2
namespace Att
open PySem PySem.W PySem.Calls PyProof.Rows
theorem jH {P:Params} {h:Heap}:∀ (ns:List Int) (vs:List Value),WellAll P h vs (ns.map WData.int)→IntsAre vs ns:=by
  intro ns
  induction ns with
  | nil =>
    intro vs w;rw [abh] at w;cases w;exact .nil
  | cons n ns ih =>
    intro vs w;rw [aaH] at w;cases w with
    | cons a b =>
      cases a;exact .cons _ _ (ih _ b)
theorem rS {l:OpenLaw} {n:Nat} (hn:l.most=some n) {P:Params} {h:Heap} {args:List WData} {vals:List Value}
    (hpre:l.row.toRowW.claim.pre args=true) (hwl:WellAll P h vals args) :
    ∃ a vs ns,vals=[Value.ref a]∧args=[WData.list (ns.map WData.int)]∧h.get? a=some { cls:=.type "list",data:=.seq vs.toArray }∧IntsAre vs ns∧ns.length≤n:=by
  have hsh:WShape.hasAll [] args [.list .int]=true:=(pre_splitW hpre).1;have hc:l.pre.holds [] { args:=args }=true:=(pre_splitW hpre).2;obtain ⟨d,r,rfl,h1,h2⟩:=hasAllW_cons hsh;obtain rfl:=hasAllW_nil h2;obtain ⟨xs,rfl,h3⟩:=hasW_list h1;obtain ⟨ns,rfl⟩:=items_int h3;have hlen:ns.length≤n:=by
    unfold OpenLaw.pre at hc;have h4:(WTm.not (.lt (.lit (.int (n:Int))) (.len (.arg 0)))).holds [] { args:=[.list (ns.map .int)] }=true:=by
      have h4:=(holds_andW hc).1;rw [hn] at h4;exact h4
    have h5:=condW_of h4 (w_not (w_lt w_lit (w_len_list (w_arg rfl))));rw [aak] at h5;refine Nat.le_of_not_lt fun q=>?_;have q':(n:Int) < ((ns.length:Nat):Int):=by lia
    first
      | (rw [decide_eq_true q'] at h5;exact absurd h5 (by decide))
      | (simp at h5;lia)
  cases hwl with
  | cons w1 w2 =>
    cases w2;cases w1 with
    | list ho hall=>exact ⟨_,_,ns,rfl,rfl,ho,jH ns _ hall,hlen⟩
theorem rW (l:OpenLaw) (args:List WData):l.row.toRowW.claim.post args (.bool true) args=true :=
  postW_of (r:=l.row.toRowW) (X:=(true == true))
    (show WShape.has [] (.bool true) .bool=true by first|rfl|decide|simp [WShape.has,WShape.arms,WShape.armsAll])
    (show (WTm.eq .res (.lit (.bool true))).value [] { args:=args,res:=some (.bool true),after:=args }=some (.bool (true == true)) from w_eq_bool (w_res rfl) w_lit) rfl
theorem attach_call {l:OpenLaw} {n:Nat} {q:Program} {loose:List Str} {XP:(Str→Option Value)→Heap→Prop} {YP:World→Heap→Prop} {d:DefRec}
    (hn:l.most=some n) (hdf:d.params.defaults=[])
    (call:∀ (w:World) (s₀ s₁:Shared) (mg mb:Str→Option Value) (fa:Addr) (o:Obj) (pm cd doc:Value) (a:Addr) (vs:List Value) (ns:List Int),
      Ground q loose [] XP w s₀ mg mb s₁.heap→YP w s₁.heap →
      s₁.heap.get? fa=some o→o.data=.func (docDef d.name d.params d.body d.scope pm cd doc)→s₁.heap.CodeRec cd d.name→mg d.name=some (.ref fa) →
      s₁.heap.get? a=some { cls:=.type "list",data:=.seq vs.toArray }→IntsAre vs ns→ns.length≤n→s₁.gens=#[] →
      codeAny (model l.prog w) callerA (.call (.ref fa) ⟨[.ref a],[]⟩) (fun r s'=>r=.ok (.ret (.bool true))∧OldK s₁.heap s'.heap∧s'.os=s₁.os∧AllBare s'.gens) s₁) :
    WalkO q loose XP YP l.row.toRowW d [] (fun f vs=>PySem.call f vs):=by
  intro w s₀ s₁ mg mb G Y fa o pm cd doc dV kV ho hd hcd hD hmg hg args vals as hpre hlay hrd hwl hlo;obtain rfl:dV=.none:=Dflts.none hD hdf;obtain rfl:kV=.none:=Dflts.noKw hD;obtain ⟨a,vs,ns,rfl,rfl,hobj,hints,hlen⟩:=rS hn hpre hwl;refine enter_call (codeAny_mono (call w s₀ s₁ mg mb fa o pm cd doc a vs ns G Y ho (fd_plain hd) hcd hmg hobj hints hlen hg) fun r s' hq=>?_);obtain ⟨rfl,h2,h3,h4⟩:=hq;exact ⟨.inl ⟨.bool true,.bool true,[],rfl,fun _=>rfl,.bool true,rW l _,fun _=>⟨List.Pairwise.nil,fun _ hm=>(nomatch hm)⟩⟩,h2,h3,h4⟩
section
variable {prog:Program} {w:World} {A:Around} {E:Value→Shared→Prop} {s:Shared} {K:Frag}
end
end Att
namespace L2
open PySem PySem.Spec PyProof.Rows
theorem lZ:∀ {vs:List Value} {ns:List Int},IntsAre vs ns→Vals (ns.map V.int) vs
  | _,_,.nil=>.nil
  | _,_,.cons n t h=>.cons ⟨t,rfl⟩ (lZ h)
def y_ (H:Hp):Prop:=∀ b,H b=none∨∃ o xs,H b=some (.frz o (.lst xs))
open PySem PySem.Spec PyProof.Rows
open PySem PySem.Spec PyProof.Rows
def bU (s:Stmt):Arguments:=match s with
  | .FunctionDef _ a _ _ _ _ _ _ _ _=>a
  | _=>{ posonlyargs:=[],args:=[],vararg:=none,kwonlyargs:=[],kw_defaults:=[],kwarg:=none,defaults:=[] }
def bn (s:Stmt):List Stmt:=match s with
  | .FunctionDef _ _ b _ _ _ _ _ _ _=>b
  | _=>[]
def aj (s:Stmt):Scope:=match s with
  | .FunctionDef _ _ _ _ _ _ sc _ _ _=>sc
  | _=>{ kind:=.function,names:=[],isGenerator:=false,isCoroutine:=false }
abbrev CX0:CXT:=fun _ _ _ _ _ _=>False
abbrev E0:XK:=fun _ _ _=>False
theorem v8 {X:Cx}:jq CX0 X E0:=fun _ _ _ _ _ _ _ h=>h.elim
structure Fun (K:aaa) (x qual:Str) (st:Stmt) (f:Addr) (fd:FuncData):Prop where
  ex:∃ (oc:Value) (od:Option Addr) (kV doc pm:Value) (an:Option Addr) (cdv ct:Value) (osl:Array (Option Value)),
    fd=aaY x qual (bU st) (bn st) (aj st) .none kV doc pm an cdv ct∧K.lookup f=some ⟨oc,od,.func fd,osl⟩∧abl K cdv qual=true
  kp:aaZ K (.ref f)=true
section
variable {P:Program} {w:World} {K:aaa} {mg:Str→Option Value} {base:Heap}
theorem Fun.ok {x qual:Str} {st:Stmt} {f:Addr} {fd:FuncData} {N ps:List Str} {k:Nat} {sp:Sp} (F:Fun K x qual st f fd) (S:FnScope N ps (aj st)) (len:∀ vs H Q E,sp vs H Q E→vs.length=ps.length)
    (hbody:∀ (cdv:Value) (A:Around) (outer:List Env) (s:Shared) (H:Hp) (vs:List V) (Q:VK) (E:XK),Room k (A.deeper (envOfC qual (aj st) s.heap.objs.size f cdv))→sp vs H Q E →
      ∃ t,PSs (gY CX0 P w K mg base N qual (aj st) f cdv A outer s H E).nox (bn st) t∧t { nx:=fun _ H'=>Q .non H',rt:=Q } (start N vs) H):FnOk P w K mg base CX0 (k+1) f fd ps sp:=by
  obtain ⟨oc,od,kV,doc,pm,an,cdv,ct,osl,rfl,lk,hcd⟩:=F.ex;refine rq lk hcd S len fun A outer s H vs Q E hr hsp=>?_;obtain ⟨t,h,q⟩:=hbody cdv A outer s H vs Q E hr hsp;exact ⟨t,h.nox,q⟩
theorem Fun.binds {x qual:Str} {st:Stmt} {f:Addr} {fd:FuncData} {ps:List Str} (F:Fun K x qual st f fd)
    (h:∀ (kV doc pm:Value) (an:Option Addr) (cdv ct:Value) (us:List Value),us.length=ps.length→bindArgs (aaY x qual (bU st) (bn st) (aj st) .none kV doc pm an cdv ct) ⟨us,[]⟩=pure (ps.zip us)):Binds K fd ps []:=by
  obtain ⟨oc,od,kV,doc,pm,an,cdv,ct,osl,rfl,lk,hcd⟩:=F.ex;exact .all (h kV doc pm an cdv ct)
theorem uH {x qual:Str} {st:Stmt} {f:Addr} {oc:Value} {od an:Option Addr} {osl:Array (Option Value)} {kV doc pm cdv ct:Value} (l:K.lookup f=some ⟨oc,od,.func (aaY x qual (bU st) (bn st) (aj st) .none kV doc pm an cdv ct),osl⟩)
    (c:abl K cdv qual=true) (k:aaZ K (.ref f)=true):Fun K x qual st f (aaY x qual (bU st) (bn st) (aj st) .none kV doc pm an cdv ct):=⟨⟨oc,od,kV,doc,pm,an,cdv,ct,osl,rfl,l,c⟩,k⟩
end
theorem aU {n:Nat} (h:n≤1000):n < sizeLine:=abA h (by decide)
section
variable {X:Cx}
theorem pv (i:Nat) {x:Str} {pos:Pos} (hN:X.N[i]?=some x:=by rfl) (hv:Vis X.env.scope x:=by first|exact Or.inl rfl|exact Or.inr (Or.inl rfl)|exact Or.inr (Or.inr rfl)) (hd:(x == ("__debug__":Str))=false:=by decide)
    (hcd:(x == ("__classdict__":Str))=false:=by decide):PE X (.Name x pos) (wG i):=wX hN hv hd hcd
end
theorem aV {A B:Prop} (h:B):if false=true then A else B:=by
  rw [if_neg aar];exact h
theorem cD {A B:Prop} (h:A):if true=true then A else B:=by
  rw [if_pos rfl];exact h
theorem dQ {c A B:Prop} [Decidable c] (h1:c→A) (h2:¬ c→B):if c then A else B:=by
  by_cases h:c
  · rw [if_pos h];exact h1 h
  · rw [if_neg h];exact h2 h
theorem yi {c A B:Prop} [Decidable c] (hc:c) (h:B):if (!decide c)=true then A else B:=by
  rw [decide_eq_true hc];exact aV h
def Same (H H':Hp):Prop:=∀ b o,H b=some o→H' b=some o
theorem Same.refl (H:Hp):Same H H:=fun _ _ h=>h
theorem Same.trans {H H1 H2:Hp} (a:Same H H1) (b:Same H1 H2):Same H H2:=fun c o h=>b c o (a c o h)
theorem Same.free {H H':Hp} (e:Same H H') {l:Addr} (h:H' l=Option.none):H l=Option.none:=by
  cases q:H l with
  | none=>rfl
  | some o =>
    rw [e l o q] at h;cases h
theorem Same.seq {K:aaa} {H H':Hp} {a:Addr} {xs:List V} (e:Same H H') (h:SqL K H a xs):SqL K H' a xs:=by
  rcases h with (h|⟨o,h⟩)|h
  · exact .inl (.inl (e _ _ h))
  · exact .inl (.inr ⟨o,e _ _ h⟩)
  · exact .inr h
open PySem PySem.Spec PyProof.Rows
section
variable {κ:Type} [DecidableEq κ]
def dR (kvs:List (κ × V)) (k:κ):Option V:=(kvs.find? fun kv=>decide (kv.1=k)).map (·.2)
def eW (kvs:List (κ × V)) (k:κ) (v:V):List (κ × V) :=
  if (kvs.any fun kv=>decide (kv.1=k))=true then kvs.map (fun kv=>if kv.1=k then (kv.1,v) else kv) else kvs++[(k,v)]
theorem cJ {p:κ × V} {r:List (κ × V)} {k:κ} (e:p.1=k):dR (p :: r) k=some p.2:=by simp [dR,abN,e]
theorem cK {p:κ × V} {r:List (κ × V)} {k:κ} (e:¬ p.1=k):dR (p :: r) k=dR r k:=by simp [dR,abN,e]
theorem iy (k:κ):∀ kvs:List (κ × V),(kvs.any fun kv=>decide (kv.1=k))=(dR kvs k).isSome
  | []=>rfl
  | p :: r=>by
    rw [ab3];by_cases e:p.1=k
    · simp only [cJ e,decide_eq_true e,Bool.true_or,Option.isSome_some]
    · rw [cK e,decide_eq_false e,Bool.false_or];exact iy k r
theorem nW (k j:κ) (y:V):∀ kvs:List (κ × V),dR (kvs.map fun kv=>if kv.1=k then (kv.1,y) else kv) j=(dR kvs j).map fun x=>if j=k then y else x
  | []=>rfl
  | p :: r=>by
    have ih:=nW k j y r;rw [aaH];by_cases h:p.1=k
    · rw [if_pos h];by_cases e:p.1=j
      · rw [cJ (p:=(p.1,y)) e,cJ e,ab5,if_pos (e.symm.trans h)]
      · rw [cK (p:=(p.1,y)) e,cK e,ih]
    · rw [if_neg h];by_cases e:p.1=j
      · rw [cJ (p:=p) e,cJ e,ab5,if_neg (fun z=>h (e.trans z))]
      · rw [cK (p:=p) e,cK e,ih]
theorem l0 (k j:κ) (y:V):∀ kvs:List (κ × V),dR kvs k=none→dR (kvs++[(k,y)]) j=if j=k then some y else dR kvs j
  | [],_=>by
    by_cases e:k=j
    · rw [if_pos e.symm];exact cJ (p:=(k,y)) e
    · rw [if_neg (fun z=>e z.symm)];exact cK (p:=(k,y)) e
  | p :: r,hn=>by
    rw [abf];have hk:¬ p.1=k:=fun z=>by rw [cJ z] at hn;cases hn
    rw [cK hk] at hn;have ih:=l0 k j y r hn;by_cases e:p.1=j
    · rw [cJ e,cJ e,if_neg (fun z=>hk (e.trans z))]
    · rw [cK e,cK e,ih]
theorem jO (kvs:List (κ × V)) (k j:κ) (y:V):dR (eW kvs k y) j=if j=k then some y else dR kvs j:=by
  unfold eW;by_cases a:(kvs.any fun kv=>decide (kv.1=k))=true
  · rw [if_pos a,nW];rw [iy] at a;by_cases e:j=k
    · obtain ⟨x,hx⟩:=abG.mp a;rw [if_pos e,e,hx,ab5,if_pos rfl]
    · rw [if_neg e];cases dR kvs j with
      | none=>rfl
      | some x=>rw [ab5,if_neg e]
  · rw [if_neg a];refine l0 k j y kvs ?_;rw [iy] at a;cases q:dR kvs k with
    | none=>rfl
    | some x=>rw [q] at a;exact (a rfl).elim
theorem e_ (kvs:List (κ × V)) (k:κ) (v:V):(eW kvs k v).length≤kvs.length+1:=by
  unfold eW;split
  · rw [aak];lia
  · rw [aal,aaF,aa7];lia
theorem RelO.isSome_eq {o:Option V} {u:Option Value} (r:RelO o u):o.isSome=u.isSome:=by
  cases o with
  | none=>cases u with
    | none=>rfl
    | some _=>exact (show False from r).elim
  | some _=>cases u with
    | none=>exact (show False from r).elim
    | some _=>rfl
theorem KV.val {kvs:List (κ × V)} {vs:List (κ × Value)} (r:KV kvs vs) (k:κ):RelO (dR kvs k) (valueAt vs k):=by
  unfold KV at r
  induction r with
  | nil=>exact True.intro
  | @cons p q ps qs h t ih =>
    obtain ⟨h1,h2⟩:=h;by_cases e:p.1=k
    · have e':q.1=k:=h1.symm.trans e;have b:valueAt (q :: qs) k=some q.2:=by simp [valueAt,abN,e']
      rw [cJ e,b];exact h2
    · have e':¬ q.1=k:=fun z=>e (h1.trans z);have b:valueAt (q :: qs) k=valueAt qs k:=by simp [valueAt,abN,e']
      rw [cK e,b];exact ih
theorem KV.any {kvs:List (κ × V)} {vs:List (κ × Value)} (r:KV kvs vs) (k:κ):(kvs.any fun kv=>decide (kv.1=k))=vs.any fun kv=>decide (kv.1=k):=by
  unfold KV at r
  induction r with
  | nil=>rfl
  | cons h t ih=>rw [ab3,ab3,ih,h.1]
theorem KV.repl {kvs:List (κ × V)} {vs:List (κ × Value)} (r:KV kvs vs) (k:κ) {y:V} {u:Value} (ry:RelV y u) :
    KV (kvs.map fun kv=>if kv.1=k then (kv.1,y) else kv) (vs.map fun kv=>if kv.1=k then (kv.1,u) else kv):=by
  unfold KV at r ⊢
  induction r with
  | nil=>exact .nil
  | @cons p q ps qs h t ih =>
    rw [aaH,aaH];refine .cons ?_ ih;obtain ⟨h1,h2⟩:=h;by_cases e:p.1=k
    · rw [if_pos e,if_pos (h1.symm.trans e)];exact ⟨h1,ry⟩
    · rw [if_neg e,if_neg (fun z=>e (h1.trans z))];exact ⟨h1,h2⟩
theorem KV.put {kvs:List (κ × V)} {vs:List (κ × Value)} (r:KV kvs vs) (k:κ) {y:V} {u:Value} (ry:RelV y u):KV (eW kvs k y) (stored vs k u):=by
  unfold eW stored;rw [r.any k];by_cases e:(vs.any fun kv=>decide (kv.1=k))=true
  · rw [if_pos e,if_pos e];exact r.repl k ry
  · rw [if_neg e,if_neg e];exact Paired.snoc r ⟨rfl,ry⟩
theorem KV.length {kvs:List (κ × V)} {vs:List (κ × Value)} (r:KV kvs vs):kvs.length=vs.length:=ab6 r
end
theorem rd {P:Program} {w:World} {k:Key} {u:Value} (r:RelV (kV k) u):(bA P w).is k u=true:=by
  cases k with
  | inl i=>obtain ⟨t,e⟩:=(show ∃ t,u=Value.int i t from r);subst e;exact oU P w i t
  | inr x=>obtain ⟨t,e⟩:=(show ∃ t,u=Value.str x t from r);subst e;exact oS P w x t
theorem mn {P:Program} {w:World}:∀ {ks:List Key} {us:List Value},Vals (ks.map kV) us→ItemsAre (bA P w) ks us
  | [],_,r=>by rw [abh] at r;cases r;exact .nil
  | k :: ks,_,r=>by
    rw [aaH] at r;cases r with
    | cons h t=>exact .cons (rd h) (mn t)
abbrev KT (H:Hp):List (List Key × V)→List (List Key × Addr × Value)→Prop:=Paired fun p q=>p.1=q.1∧H q.2.1=some (.tup (p.1.map kV))∧RelV p.2 q.2.2
theorem KT.val {H:Hp} {kvs:List (List Key × V)} {xs:List (List Key × Addr × Value)} (r:KT H kvs xs) (k:List Key):RelO (dR kvs k) ((atKey xs k).map (·.2)):=by
  induction r with
  | nil=>exact True.intro
  | @cons p q ps qs h t ih =>
    obtain ⟨h1,_,h2⟩:=h;by_cases e:p.1=k
    · have e':q.1=k:=h1.symm.trans e;have b:atKey (q :: qs) k=some q.2:=by simp [atKey,abN,e']
      rw [cJ e,b];exact h2
    · have e':¬ q.1=k:=fun z=>e (h1.trans z);have b:atKey (q :: qs) k=atKey qs k:=by simp [atKey,abN,e']
      rw [cK e,b];exact ih
theorem KT.repl {H:Hp} {kvs:List (List Key × V)} {xs:List (List Key × Addr × Value)} (r:KT H kvs xs) (k:List Key) {y:V} {u:Value} (ry:RelV y u) :
    KT H (kvs.map fun kv=>if kv.1=k then (kv.1,y) else kv) (xs.map (putAt k u)):=by
  induction r with
  | nil=>exact .nil
  | @cons p q ps qs h t ih =>
    rw [aaH,aaH];refine .cons ?_ ih;obtain ⟨h1,h2,h3⟩:=h;unfold putAt;by_cases e:p.1=k
    · rw [if_pos e,if_pos (h1.symm.trans e)];exact ⟨h1,h2,ry⟩
    · rw [if_neg e,if_neg (fun z=>e (h1.trans z))];exact ⟨h1,h2,h3⟩
theorem KT.put {H:Hp} {kvs:List (List Key × V)} {xs:List (List Key × Addr × Value)} (r:KT H kvs xs) (k:List Key) {b:Addr} {y:V} {u:Value} (hb:H b=some (.tup (k.map kV))) (ry:RelV y u) :
    KT H (eW kvs k y) (storedH xs k b u):=by
  have e:(kvs.any fun kv=>decide (kv.1=k))=(atKey xs k).isSome:=by
    rw [iy,(r.val k).isSome_eq,Option.isSome_map]
  unfold eW storedH;rw [e];by_cases q:(atKey xs k).isSome=true
  · rw [if_pos q,if_pos q];exact r.repl k ry
  · rw [if_neg q,if_neg q];exact Paired.snoc r ⟨rfl,hb,ry⟩
theorem KT.keeps {H H':Hp} {kvs:List (List Key × V)} {xs:List (List Key × Addr × Value)} (r:KT H kvs xs) (ht:∀ b ys,H b=some (.tup ys)→H' b=some (.tup ys)):KT H' kvs xs :=
  Paired.mapP r fun _ _ z=>⟨z.1,ht _ _ z.2.1,z.2.2⟩
section
variable {P:Program} {w:World} {H:Hp} {h:Heap} {a:Addr}
theorem v7 {u:HO} (ok:HOk P w H h) (e:Rd H a u):ObjOk P w H h a u:=e.ok ok
theorem uO {kvs:List (Key × V)} (ok:HOk P w H h) (e:Rd H a (.dK kvs)):kvs.length≤sizeLine∧(a == sysModules)=false∧∃ vs,KV kvs vs∧h.DictOf (bA P w) a vs :=
  show ObjOk P w H h a (.dK kvs) from v7 ok e
theorem uP {kvs:List (Key × V)} (ok:HOk P w H h) (e:H a=some (.dK kvs)):kvs.length≤sizeLine∧(a == sysModules)=false∧∃ vs,KV kvs vs∧h.DictOf (bA P w) a vs:=uO ok (.inl e)
theorem qt {ks:List Key} (ok:HOk P w H h) (e:H a=some (.tup (ks.map kV))):(tupleKind (bA P w)).is h ks a:=by
  obtain ⟨_,its,r,o,h1,h2,n,h3⟩:=(show ObjOk P w H h a (.tup (ks.map kV)) from ok a _ e)
  exact ⟨o,its.toArray,n,h1,h2,h3,by simpa using mn r⟩
theorem uM {kvs:List (List Key × V)} (ok:HOk P w H h) (e:Rd H a (.dT kvs)):kvs.length≤sizeLine∧(a == sysModules)=false ∧
    ∃ xs,KT H kvs xs∧h.DictOfH (tupleKind (bA P w)) a xs:=by
  obtain ⟨z,y,xs,r,o,es,ep,h1,h2,h3,h4,h5⟩:=(show ObjOk P w H h a (.dT kvs) from v7 ok e)
  refine ⟨z,y,xs,r,o,es,ep,h1,h2,h3,h4,fun x hx=>?_,h5⟩;have all:∀ {l:List (List Key × V)} {m:List (List Key × Addr × Value)},KT H l m→∀ x∈m,(tupleKind (bA P w)).is h x.1 x.2.1:=by
    intro l m q
    induction q with
    | nil=>intro x hx;exact nomatch hx
    | @cons p q ps qs hq t ih =>
      intro x hx;rcases aao.mp hx with e|hx
      · subst e;exact qt ok (by rw [← hq.1];exact hq.2.1)
      · exact ih x hx
  exact all r x hx
theorem yp {kvs:List (List Key × V)} (ok:HOk P w H h) (e:H a=some (.dT kvs)):kvs.length≤sizeLine∧(a == sysModules)=false ∧
    ∃ xs,KT H kvs xs∧h.DictOfH (tupleKind (bA P w)) a xs:=uM ok (.inl e)
end
def DGet (H:Hp) (a:Addr) (y:V) (r:Option V):Prop :=
  (∃ kvs k,Rd H a (.dK kvs)∧y=kV k∧r=dR kvs k)∨∃ kvs k b,Rd H a (.dT kvs)∧y=.ref b∧H b=some (.tup (k.map kV))∧r=dR kvs k
def DPut (H:Hp) (a:Addr) (y v:V) (H':Hp):Prop :=
  (∃ kvs k,H a=some (.dK kvs)∧y=kV k∧kvs.length < sizeLine∧H'=upd H a (.dK (eW kvs k v))) ∨
  ∃ kvs k b,H a=some (.dT kvs)∧y=.ref b∧H b=some (.tup (k.map kV))∧kvs.length < sizeLine∧H'=upd H a (.dT (eW kvs k v))
theorem DGet.t {H:Hp} {a b:Addr} {kvs:List (List Key × V)} {k:List Key} (e:H a=some (.dT kvs)) (eb:H b=some (.tup (k.map kV))):DGet H a (.ref b) (dR kvs k):=.inr ⟨kvs,k,b,.inl e,rfl,eb,rfl⟩
theorem DPut.t {H:Hp} {a b:Addr} {kvs:List (List Key × V)} {k:List Key} {v:V} (e:H a=some (.dT kvs)) (eb:H b=some (.tup (k.map kV))) (hl:kvs.length < sizeLine) :
    DPut H a (.ref b) v (upd H a (.dT (eW kvs k v))):=.inr ⟨kvs,k,b,e,rfl,eb,hl,rfl⟩
section
variable {X:Cx} {pins:List (Addr × Obj)} {σ:St} {H:Hp} {s:Shared} {a:Addr} {y v:V} {u r:Value} {o:Option V} {A:Around} {E:Value→Shared→Prop}
theorem Inv.big (I:Inv X pins σ H s):sysModules < s.heap.objs.size:=by
  have h:mainGlobals < s.heap.objs.size:=(I.mod.glob.keeps I.bk).lt;exact ab1 (by decide) h
theorem sP {Q:Value→Shared→Prop} (hu:A.units+1 < cLine) (I:Inv X pins σ H s) (g:DGet H a y (some v)) (ry:RelV y u) (h:∀ w' s',Inv X pins σ H s'→RelV v w'→Q w' s') :
    wpAny (model X.prog X.w) A (getItem (.ref a) u) Q E s:=by
  rcases g with ⟨kvs,k,e,ey,l⟩|⟨kvs,k,b,e,ey,eb,l⟩
  · subst ey;obtain ⟨z,hd,vs,rel,dd⟩:=uO I.hok e;obtain ⟨w',hw,rw'⟩:=RelO.some_of (v:=v) (o:=valueAt vs k) (by rw [l];exact rel.val k);exact wpAny_getItem_of (rd ry) dd.mapOf hw (h w' _ (I.tok _) rw')
  · subst ey;cases (show u=Value.ref b from ry);obtain ⟨z,hd,xs,rel,dd⟩:=uM I.hok e;obtain ⟨w',hw,rw'⟩:=RelO.some_of (v:=v) (o:=(atKey xs k).map (·.2)) (by rw [l];exact rel.val k);obtain ⟨p,hp,hp2⟩:=ab9.mp hw;refine wpAny_getItem_heap (tupleKind_room_in1 hu) (qt I.hok eb) dd hp ?_;rw [hp2];exact h w' _ (I.tok _) rw'
theorem nH {h':Heap} {t':Nat} {ob:HO} (I:Inv X pins σ H s) (mu:Mut (H a)) (hs:Heap.SameBut a s.heap h') (he:∃ q,h'.get? a=some q) (new:ObjOk X.prog X.w (upd H a ob) h' a ob) :
    Inv X pins σ (upd H a ob) { s with heap:=h',toks:=t' } :=
  I.write (x:=a) (e:=a) mu (.inl rfl) (fun b q hb z=>(hs.2 b hb).trans z) he new
theorem uQ {P:Program} {w:World} {H':Hp} {h':Heap} {kvs:List (Key × V)} {vs:List (Key × Value)} (z:kvs.length≤sizeLine) (hd:(a == sysModules)=false) (rel:KV kvs vs) (dd:h'.DictOf (bA P w) a vs) :
    ObjOk P w H' h' a (.dK kvs):=⟨z,hd,vs,rel,dd⟩
theorem sO {H':Hp} {Q:Unit→Shared→Prop} (hu:A.units+1 < cLine) (I:Inv X pins σ H s) (g:DPut H a y v H') (ry:RelV y u) (rv:RelV v r) (h:∀ s',Inv X pins σ H' s'→Q () s') :
    wpAny (model X.prog X.w) A (setItem (.ref a) u r) Q E s:=by
  rcases g with ⟨kvs,k,e,ey,l,eH⟩|⟨kvs,k,b,e,ey,eb,l,eH⟩
  · subst ey eH;obtain ⟨z,hd,vs,rel,dd⟩:=uP I.hok e;have hz:vs.length≤sizeLine:=by rw [← rel.length];exact z
    have hl:(eW kvs k v).length≤sizeLine:=by have:=e_ kvs k v;lia
    refine wpAny_setItem_pairs (hsz:=hz) (rd ry) dd fun h' dd' hs=>h _ ?_;have he:∃ q,h'.get? a=some q:=let ⟨q,_,_,hq,_⟩:=dd';⟨q,hq⟩;exact nH I (by rw [e];exact True.intro) hs he (uQ hl hd (rel.put k rv) dd')
  · subst ey eH;cases (show u=Value.ref b from ry);obtain ⟨z,hd,xs,rel,dd⟩:=yp I.hok e;have hz:xs.length≤sizeLine:=by rw [← ab6 rel];exact z
    have hl:(eW kvs k v).length≤sizeLine:=by have:=e_ kvs k v;lia
    refine wpAny_setItem_heap (hsz:=hz) (tupleKind_room_in1 hu) (qt I.hok eb) dd fun h' dd' hs=>h _ ?_;obtain ⟨q,es,ep,hq,h2,h3,h4,_,h5⟩:=dd';refine nH I (by rw [e];exact True.intro) hs ⟨q,hq⟩ ⟨hl,hd,_,(rel.put k eb rv).keeps fun c ys ec=>?_,q,es,ep,hq,h2,h3,h4,h5⟩;rw [aw (yd ec e (fun z=>nomatch z))];exact ec
end
section
variable {X:Cx} {pins:List (Addr × Obj)} {σ:St} {H:Hp} {s:Shared} {a:Addr} {kvs:List (Key × V)} {k:Key} {u:Value} {A:Around} {E:Value→Shared→Prop}
end
def yv (i:Expr):Prop:=∀ ov iv,subscripted i false ov iv=operate [ov,iv] (getItem ov iv)
theorem vj {prog:Program} {w:World} {A:Around} {E:Value→Shared→Prop} {s:Shared} {env:Env} {value slice:Expr} {pos:Pos} {T id:String} {Q:Value→Shared→Prop}
    (hl:typeLookup (.type T) "__getitem__" = pure (some (.builtin id))) (hs:yv slice)
    (h:wpAny (model prog w) A (eval value env) (fun o s₁=>wpAny (model prog w) A (eval slice env) (fun i s₂=>s₂.TypeIs o T∧wpAny (model prog w) A (getItem o i) Q E s₂) E s₁) E s) :
    wpAny (model prog w) A (eval (.Subscript value slice pos) env) Q E s:=by
  refine Subscript_ (wpAny_mono h (fun o s₁ h₁=>wpAny_mono h₁ (fun i s₂ h₂=>?_) fun _ _ x=>x) fun _ _ x=>x);obtain ⟨hT,h₂⟩:=h₂;unfold subscriptTail;refine wpAny_bind ?_;rw [getitemInPython_of_ne hT.not_modules];refine wpAny_bind (wpAny_specialOf hT hl ?_);have fin:wpAny (model prog w) A (subscripted slice false o i) (fun r s₃=>wpAny (model prog w) A (letTemporaryGo value o r >>= fun _=>pure r) Q E s₃) E s₂:=by
    rw [hs o i];exact wpAny_operating (wpAny_mono h₂ (fun r s₃ h₃=>wpAny_bind (wpAny_letTemporaryGo (wpAny_pure h₃))) fun _ _ x=>x)
  first
    | exact wpAny_pure (wpAny_bind fin)
    | exact wpAny_bind (wpAny_pure (wpAny_bind fin))
    | exact wpAny_bind fin
theorem o6 {X:Cx} {pins:List (Addr × Obj)} {σ:St} {H:Hp} {s:Shared} {a:Addr} {y:V} {o:Option V} (I:Inv X pins σ H s) (g:DGet H a y o):s.TypeIs (.ref a) "dict":=by
  rcases g with ⟨kvs,k,e,_,_⟩|⟨kvs,k,b,e,_,_,_⟩
  · obtain ⟨_,_,vs,_,dd⟩:=uO I.hok e;exact dd.typeIs
  · obtain ⟨_,_,xs,_,dd⟩:=uM I.hok e;exact dd.typeIs
def xS (td ty:TE):TE:=fun σ H Q=>td σ H fun x H1=>ty σ H1 fun y H2=>∃ a v,x=.ref a∧DGet H2 a y (some v)∧Q v H2
def xY (td ty tv:TE):TS:=fun D σ H=>tv σ H fun v H1=>td σ H1 fun x H2=>ty σ H2 fun y H3=>∃ a H4,x=.ref a∧DPut H3 a y v H4∧D.nx σ H4
section
variable {X:Cx} {o i e value:Expr} {pos pos' tpos:Pos} {td ty tv:TE}
theorem gQ (hu:X.A.units+1 < cLine) (ho:PE X o td) (hi:PE X i ty) (hs:yv i):PE X (.Subscript o i pos) (xS td ty):=by
  intro pins s σ H Q I h;refine vj PySem.F.slot_dict_getitem.lookup hs (thn (ho pins s σ H _ I h) fun u s1 ⟨x,H1,I1,rx,q1⟩=>thn (hi pins s1 σ H1 _ I1 q1) fun iv s2 ⟨y,H2,I2,ry,a,v,ex,g,q2⟩=>?_);subst ex;obtain rfl:u=Value.ref a:=rx;exact ⟨o6 I2 g,sP hu I2 g ry fun w' s3 I3 rw'=>⟨v,H2,I3,rw',q2⟩⟩
theorem jK (hu:X.A.units+1 < cLine) (ho:PE X o td) (hi:PE X i ty) (hv:PE X value tv) (hs:swapsWith value (some (.Subscript o i pos')) pos.line X.env=pure false) :
    PS X (.Assign [.Subscript o i pos'] value pos) (xY td ty tv):=by
  intro pins s σ H D I h;refine wpAny_Assign_Subscript (thn (hv pins s σ H _ I h) fun r s1 ⟨v,H1,I1,rv,q1⟩=>thn (ho pins s1 σ H1 _ I1 q1) fun u s2 ⟨x,H2,I2,rx,q2⟩=>thn (hi pins s2 σ H2 _ I2 q2) fun iv s3 ⟨y,H3,I3,ry,a,H4,ex,g,q3⟩=>?_) hs;subst ex;obtain rfl:u=Value.ref a:=rx;exact sO hu I3 g ry rv fun s4 I4=>⟨σ,H4,I4,q3⟩
end
theorem o5 {P:Program} {w:World} {H:Hp} (h:Heap) (hb:sysModules < h.objs.size):ObjOk P w H (h.push { cls:=.type "dict",data:=.dict #[] }) h.objs.size (.dK []) :=
  ⟨aaO _,beq_eq_false_iff_ne.mpr (abC (aaE hb)),[],.nil,Heap.DictOf.new h⟩
theorem uN {P:Program} {w:World} {H:Hp} (h:Heap) (hb:sysModules < h.objs.size):ObjOk P w H (h.push { cls:=.type "dict",data:=.dict #[] }) h.objs.size (.dT []) :=
  ⟨aaO _,beq_eq_false_iff_ne.mpr (abC (aaE hb)),[],.nil,_,#[],0,aaB _ rfl,⟨rfl,rfl,rfl⟩,rfl,rfl,List.nodup_nil⟩
def wJ:TE:=fun _ H Q=>∀ p,H p=none→Q (.ref p) (upd H p (.dK []))
def wI:TE:=fun _ H Q=>∀ p,H p=none→Q (.ref p) (upd H p (.dT []))
section
variable {X:Cx} {pos:Pos}
theorem dD:PE X (.Dict [] [] pos) wJ:=fun pins s σ H Q I h =>
  wpAny_Dict_empty ⟨.ref s.heap.objs.size,_,I.laid (a:=s.heap.objs.size) (o:=.dK []) (t':=s.toks) (fun _ _ q=>aac _ q) (aae _) (o5 s.heap I.big),rfl,h _ (I.hok.fresh (aae _))⟩
theorem oy:PE X (.Dict [] [] pos) wI:=fun pins s σ H Q I h =>
  wpAny_Dict_empty ⟨.ref s.heap.objs.size,_,I.laid (a:=s.heap.objs.size) (o:=.dT []) (t':=s.toks) (fun _ _ q=>aac _ q) (aae _) (uN s.heap I.big),rfl,h _ (I.hok.fresh (aae _))⟩
end
def pI:List (TE × TE)→St→Hp→(List (V × V)→Hp→Prop)→Prop
  | [],_,H,Q=>Q [] H
  | (tk,tv) :: r,σ,H,Q=>tk σ H fun x H1=>tv σ H1 fun y H2=>pI r σ H2 fun ps H3=>Q ((x,y) :: ps) H3
abbrev VV:List (V × V)→List (Value × Value)→Prop:=Paired fun p q=>RelV p.1 q.1∧RelV p.2 q.2
def PPs (X:Cx) (pos:Pos) (keys:List (Option Expr)) (values:List Expr) (trs:List (TE × TE)):Prop :=
  ∀ (pins:List (Addr × Obj)) (s:Shared) (σ:St) (H:Hp) (Q:List (V × V)→Hp→Prop),Inv X pins σ H s→pI trs σ H Q →
    wpAny (model X.prog X.w) X.A (evalPairs (pairTrees keys values X.env pos)) (fun vs s'=>∃ ps H',Inv X pins σ H' s'∧VV ps vs∧Q ps H') X.xe s
theorem vq {X:Cx} {pos:Pos}:PPs X pos [] [] []:=fun pins s σ H Q I h=>pairTrees_nil_walk ⟨[],H,I,.nil,h⟩
theorem tM {X:Cx} {pos:Pos} {k v:Expr} {ks:List (Option Expr)} {vs:List Expr} {tk tv:TE} {trs:List (TE × TE)} (hk:PE X k tk) (hv:PE X v tv) (hr:PPs X pos ks vs trs) :
    PPs X pos (some k :: ks) (v :: vs) ((tk,tv) :: trs):=fun pins s σ H Q I h =>
  pairTrees_cons_walk (thn (hk pins s σ H _ I h) fun u s1 ⟨x,H1,I1,rx,q1⟩=>thn (hv pins s1 σ H1 _ I1 q1) fun w2 s2 ⟨y,H2,I2,ry,q2⟩ =>
    thn (hr pins s2 σ H2 _ I2 q2) fun ws s3 ⟨ps,H3,I3,rel,q3⟩=>⟨(x,y) :: ps,H3,I3,.cons ⟨rx,ry⟩ rel,q3⟩)
def ji (kvs more:List (Key × V)):List (Key × V):=more.foldl (fun acc kv=>eW acc kv.1 kv.2) kvs
theorem KV.merge:∀ {more:List (Key × V)} {rs:List (Key × Value)} {kvs:List (Key × V)} {vs:List (Key × Value)},KV more rs→KV kvs vs→KV (ji kvs more) (merged vs rs):=by
  intro more rs kvs vs r;unfold KV at r
  induction r generalizing kvs vs with
  | nil=>intro q;exact q
  | @cons p q ps qs h t ih =>
    intro r0;have e:KV (eW kvs p.1 p.2) (stored vs q.1 q.2):=by
      have:=r0.put p.1 h.2;rw [← h.1];exact this
    exact ih e
theorem hU:∀ (more kvs:List (Key × V)),(ji kvs more).length≤kvs.length+more.length
  | [],kvs=>by show kvs.length≤kvs.length+0;lia
  | p :: r,kvs=>by
    have h1:=hU r (eW kvs p.1 p.2);have h2:=e_ kvs p.1 p.2;show (ji (eW kvs p.1 p.2) r).length≤_;rw [aaF];lia
theorem lg {P:Program} {w:World}:∀ {kvs:List (Key × V)} {ws:List (Value × Value)},VV (kvs.map fun kv=>(kV kv.1,kv.2)) ws→∃ rs,Carries (bA P w) ws rs∧KV kvs rs
  | [],_,r=>by rw [abh] at r;cases r;exact ⟨[],True.intro,.nil⟩
  | p :: kvs,_,r=>by
    rw [aaH] at r;cases r with
    | @cons a b as bs h t =>
      obtain ⟨rs,c,q⟩:=lg (P:=P) (w:=w) t;obtain ⟨b1,b2⟩:=b;exact ⟨(p.1,b2) :: rs,⟨rd h.1,rfl,c⟩,.cons ⟨rfl,h.2⟩ q⟩
def xR (trs:List (TE × TE)):TE:=fun σ H Q=>∀ p,H p=none→pI trs σ (upd H p (.dK [])) fun ps H2=>H2 p=some (.dK [])∧∃ kvs:List (Key × V),ps=kvs.map (fun kv=>(kV kv.1,kv.2))∧kvs.length≤15∧Q (.ref p) (upd H2 p (.dK (ji [] kvs)))
theorem vw {X:Cx} {pos:Pos} {keys:List (Option Expr)} {values:List Expr} {trs:List (TE × TE)} (h:PPs X pos keys values trs) (hall:keys.all (·.isSome)=true) (hl:keys.length=values.length) (h0:keys≠[])
    (h15:keys.length≤15):PE X (.Dict keys values pos) (xR trs):=by
  intro pins s σ H Q I q;have hn:=I.hok.fresh (aae s.heap.objs.size);have I1:=I.laid (a:=s.heap.objs.size) (o:=.dK []) (h':=s.heap.push { cls:=.type "dict",data:=.dict #[] }) (t':=s.toks) (fun _ _ q=>aac _ q) (aae _) (o5 s.heap I.big);refine wpAny_Dict_walk (knd:=bA X.prog X.w) hall hl h0 h15 (thn (h pins _ σ _ _ I1 (q _ hn)) fun ws s2 ⟨ps,H2,I2,rel,e,kvs,ep,lk,q2⟩=>?_);subst ep;obtain ⟨rs,c,rk⟩:=lg (P:=X.prog) (w:=X.w) rel;obtain ⟨z,hd,vs0,r0,dd⟩:=uP I2.hok e;cases r0;refine ⟨rs,c,dd,fun h' dd' hs=>⟨.ref s.heap.objs.size,_,?_,rfl,q2⟩⟩;have hz:(ji [] kvs).length≤sizeLine:=by
    have h1:=hU kvs [];rw [aa7] at h1;rw [sizeLine_eq];lia
  have he:∃ q,h'.get? s.heap.objs.size=some q:=let ⟨q,_,_,hq,_⟩:=dd';⟨q,hq⟩;exact nH I2 (by rw [e];exact True.intro) hs he (uQ hz hd (rk.merge .nil) dd')
structure M1 (X:Cx) (o:Expr) (m:Str) (apos:Pos) (e:Expr) (cpos:Pos):Prop where
  base:attributeBase o m X.env (eval o X.env)=eval o X.env
  few:((backTo cpos (starEach [e] X.env)).all (fun x=>!x.1) && (backToKw cpos (keywordEach [] X.env)).all (fun x=>x.1.isSome)
    && decide (([e]:List Expr).length+([]:List Keyword).length+(if ([]:List Keyword).isEmpty then 0 else 1) < 30))=true
  line:(apos.endLine == cpos.line)=true
  trees:backTo cpos (starEach [e] X.env)=[(false,eval e X.env)]
structure M2 (X:Cx) (o:Expr) (m:Str) (apos:Pos) (e f:Expr) (cpos:Pos):Prop where
  base:attributeBase o m X.env (eval o X.env)=eval o X.env
  few:((backTo cpos (starEach [e,f] X.env)).all (fun x=>!x.1) && (backToKw cpos (keywordEach [] X.env)).all (fun x=>x.1.isSome)
    && decide (([e,f]:List Expr).length+([]:List Keyword).length+(if ([]:List Keyword).isEmpty then 0 else 1) < 30))=true
  line:(apos.endLine == cpos.line)=true
  trees:backTo cpos (starEach [e,f] X.env)=[(false,eval e X.env),(false,eval f X.env)]
section
variable {X:Cx} {pins:List (Addr × Obj)} {σ:St} {H:Hp} {s:Shared} {a:Addr} {y d:V} {u r:Value} {o:Option V} {A:Around} {E:Value→Shared→Prop}
end
section
variable {X:Cx} {o e f:Expr} {apos cpos:Pos} {td ty tx:TE}
end
section
variable {X:Cx} {pins:List (Addr × Obj)} {σ:St} {H:Hp} {s:Shared} {a:Addr} {kvs:List (Key × V)} {A:Around} {E:Value→Shared→Prop}
end
section
variable {X:Cx} {pins:List (Addr × Obj)} {σ:St} {H:Hp} {s:Shared} {a:Addr} {y:V} {u:Value} {A:Around} {E:Value→Shared→Prop}
end
open PySem PySem.Spec PyProof.Rows
section
variable {X:Cx}
end
section
variable {κ:Type} [DecidableEq κ]
end
end L2
set_option maxHeartbeats 4000000
namespace L2
open PySem PySem.Spec PyProof.Rows
theorem Inv.adopt {X:Cx} {pins:List (Addr × Obj)} {σ:St} {H:Hp} {s:Shared} {a:Addr} {o:HO} (I:Inv X pins σ H s) (hn:H a=none) (hs:X.s₀.heap.objs.size≤a) (hL:a≠X.env.locals) (hC:∀ x c,X.env.cells.lookup x=some c→c≠a) (hp:∀ p∈X.pn++pins,p.1≠a)
    (new:ObjOk X.prog X.w (upd H a o) s.heap a o):Inv X pins σ (upd H a o) s:=by
  have ne:∀ b u,X.s₀.heap.get? b=some u→b≠a:=fun b u e=>aaE (aas (aat e) hs);refine ⟨I.ok,I.os,I.bare,⟨I.base.keep,I.base.slot,fun b u e n hx=>?_,I.base.there,fun b xs e=>?_,fun b u xs e=>?_,fun b ps e=>?_⟩,I.loc,I.cell,?_,fun x c e=>?_,fun p hq=>?_,fun b u e=>?_,I.len⟩
  · rw [aw (ne b u e)];exact I.base.free b u e n hx
  · have q:=I.base.tups b xs e;rw [aw (ak q hn)];exact q
  · have q:=I.base.frzs b u xs e;rw [aw (ak q hn)];exact q
  · obtain ⟨m,q⟩:=I.base.tbls b ps e;exact ⟨m,by rw [aw (ak q hn)];exact q⟩
  · rw [aw (abC hL)];exact I.free
  · rw [aw (hC x c e)];exact I.freeC x c e
  · obtain ⟨h1,h2,h3⟩:=I.pin p hq;exact ⟨h1,by rw [aw (hp p hq)];exact h2,h3⟩
  · by_cases hb:b=a
    · subst hb;rw [ae] at e;cases e;exact new
    · rw [aw hb] at e;exact (I.hok b u e).stay (fun c v _ q=>q) (fun c q=>by rw [aw (ak q hn)];exact q) fun c xs q=>by rw [aw (ak q hn)];exact q
def CellsIn (E:Env):List (Str × Addr)→Prop
  | []=>True
  | p :: r=>E.cells.lookup p.1=some p.2∧CellsIn E r
theorem CellsIn.get {E:Env}:∀ {cl:List (Str × Addr)} {x:Str} {c:Addr},CellsIn E cl→cl.lookup x=some c→E.cells.lookup x=some c:=by
  intro cl x c h e;have hm:=abg e;clear e
  induction cl with
  | nil=>exact nomatch hm
  | cons p r ih =>
    rcases aao.mp hm with q|q
    · have:=h.1;rw [← q] at this;exact this
    · exact ih h.2 q
def CapOk (XE:Env) (sc:Scope) (XN:List Str):List Str→List (Option Nat)→Prop
  | [],[]=>True
  | _ :: n,none :: c=>CapOk XE sc XN n c
  | x :: n,some i :: c=>(XN[i]?=some x∧(XE.kindOf x=some .cell∨XE.kindOf x=some .free)∧(sc.names.lookup x=some .cell∨sc.names.lookup x=some .free))∧CapOk XE sc XN n c
  | _,_=>False
def yr (σ:St) (o:Option Nat):Option V:=match o with
  | none=>none
  | some i=>(σ[i]?).join
def da (cap:List (Option Nat)) (σ:St):St:=cap.map (yr σ)
theorem CapOk.len {XE:Env} {sc:Scope} {XN:List Str}:∀ {n:List Str} {c:List (Option Nat)},CapOk XE sc XN n c→c.length=n.length
  | [],[],_=>rfl
  | _ :: _,none :: _,h=>congrArg (·+1) (CapOk.len (n:=_) (c:=_) h)
  | _ :: _,some _ :: _,h=>congrArg (·+1) (CapOk.len h.2)
  | [],_ :: _,h=>(show False from h).elim
  | _ :: _,[],h=>(show False from h).elim
theorem CapOk.get {XE:Env} {sc:Scope} {XN:List Str} {σ:St} {n:List Str} {c:List (Option Nat)} {j:Nat} {x:Str} {v:V} (h:CapOk XE sc XN n c) (h1:n[j]?=some x) (e:(da c σ)[j]?=some (some v)) :
    ∃ i:Nat,XN[i]?=some x∧σ[i]?=some (some v)∧(XE.kindOf x=some .cell∨XE.kindOf x=some .free)∧(sc.names.lookup x=some .cell∨sc.names.lookup x=some .free):=by
  induction n generalizing c j with
  | nil=>cases h1
  | cons y n ih =>
    cases c with
    | nil=>exact h.elim
    | cons o c =>
      cases j with
      | zero =>
        cases h1;cases o with
        | none=>cases e
        | some i =>
          refine ⟨i,h.1.1,?_,h.1.2⟩;have e:some ((σ[i]?).join)=some (some v):=e;cases q:σ[i]? with
          | none=>rw [q] at e;cases e
          | some w=>rw [q] at e;injection e with e;exact congrArg some e
      | succ j =>
        cases o with
        | none=>exact ih (c:=c) (j:=j) h h1 e
        | some i=>exact ih (c:=c) (j:=j) h.2 h1 e
def fc (X:Cx) (E:Env) (fn:Str→Bool) (NY:List Str) (fp:List Addr) (s:Shared) (H:Hp):Cx where
  prog:=X.prog
  w:=X.w
  K:=X.K
  mg:=X.mg
  base:=X.base
  A:=X.A
  N:=NY
  s₀:=s
  H₀:=H
  env:=E
  outer:=X.stack
  stack:=X.stack
  ex:=fp
  fn:=fn
  calm:=X.calm
  pn:=[]
  xe:=fun _ _=>False
abbrev bi (X:Cx) (scope:Scope) (cl:List (Str × Addr)) (NY:List Str) (fp:List Addr) (s:Shared) (H:Hp) (C:Addr):Cx:=fc X (compEnvC scope cl C X.env) (fun _=>false) NY fp s H
def iw (X:Cx) (ifs:List Expr) (t:TT):Prop :=
  ∀ (pins:List (Addr × Obj)) (s:Shared) (σ:St) (H:Hp) (Q:Bool→Hp→Prop),Inv X pins σ H s→t σ H Q →
    wpAny (model X.prog X.w) X.A (forIn ifs true fun c r=>if r=true then do let ok ← isTrue c X.env (eval c X.env);pure (ForInStep.yield ok) else pure (ForInStep.yield r)) (TP X pins σ Q) X.xe s
theorem bZ {X:Cx}:iw X [] (fun _ H Q=>Q true H):=fun _ _ _ H _ I h=>wpAny_tests_nil ⟨H,I,h⟩
theorem eJ {X:Cx} {c:Expr} {t:TT} (h:PT X c t):iw X [c] t:=fun pins s σ H Q I q=>wpAny_tests_one (h pins s σ H Q I q)
theorem lT {elt tg2 iter2:Expr} {ifs2:List Expr} {G:List Comprehension} {k:Nat} (hk:G[k]?=some ⟨tg2,iter2,ifs2,0⟩) (hk2:G[k+1]?=none) {scope:Scope} {pos:Pos} {it acc:Value} {env:Env} :
    compTurn (.ListComp elt G scope pos) k it acc env=(do
      standAt iter2.pos
      match ← pyNext it with
      | none=>pure (.done .next)
      | some v =>
        letOwnedTupleGo tg2 it v
        assign tg2 env v
        let mut ok:=true
        for c in ifs2 do
          if ok then ok ← isTrue c env (eval c env)
        if ok then
          (do let _ ← call (.builtin "list.append") [acc,← eval elt env])
        again (.compLoop (.ListComp elt G scope pos) k it acc env)):=by
  unfold compTurn;simp only [hk,hk2];rfl
theorem qE {prog:Program} {w:World} {A:Around} {R:Result→Shared→Prop} {s:Shared} {elt tg2 iter2:Expr} {ifs2:List Expr} {G:List Comprehension} {k:Nat} (hk:G[k]?=some ⟨tg2,iter2,ifs2,0⟩) (hk2:G[k+1]?=none) {scope:Scope} {pos:Pos} {it acc:Value} {env:Env} (J:Nat→Shared→Prop)
    (turn:∀ n s,J n s→wpAny (model prog w) A (pyNext it) (fun r s₁=>match r with
      | none=>R (.ok .next) s₁
      | some v=>wpAny (model prog w) A (letOwnedTupleGo tg2 it v) (fun _ s₁'=>wpAny (model prog w) A (assign tg2 env v) (fun _ s₂ =>
          wpAny (model prog w) A (forIn ifs2 true fun c r=>if r=true then do let ok ← isTrue c env (eval c env);pure (ForInStep.yield ok) else pure (ForInStep.yield r)) (fun ok s₃ =>
            if ok=true then wpAny (model prog w) A (eval elt env) (fun x s₄ =>
              wpAny (model prog w) A (call (.builtin "list.append") [acc,x]) (fun _ s₅=>∃ m,m < n∧J m s₅) (fun _ _=>False) s₄) (fun _ _=>False) s₃
            else ∃ m,m < n∧J m s₃) (fun _ _=>False) s₂) (fun _ _=>False) s₁') (fun _ _=>False) s₁) (fun _ _=>False) s)
    (n:Nat) (h:J n s) :
    codeAny (model prog w) A (.compLoop (.ListComp elt G scope pos) k it acc env) R s:=by
  refine codeAny_loop rfl J (fun n s hI=>?_) n h;show wpAny _ A ((compTurn (.ListComp elt G scope pos) k it acc env).onRaise (fun x=>do noteFrame x env;theTreesLotGoes x)) _ _ s;refine wpAny_noted ?_;rw [lT hk hk2];refine wpAny_bind (wpAny_standAt (wpAny_bind (wpAny_mono (turn n s hI) (fun r s₁ h₁=>?_) fun _ _ h'=>h'.elim)));cases r with
  | none=>exact wpAny_pure h₁
  | some v =>
    refine wpAny_bind (wpAny_mono h₁ (fun _ s₁' h₁'=>?_) fun _ _ h'=>h'.elim);refine wpAny_bind (wpAny_mono h₁' (fun _ s₂ h₂=>wpAny_bind (wpAny_mono h₂ (fun ok s₃ h₃=>?_) fun _ _ h'=>h'.elim)) fun _ _ h'=>h'.elim);cases ok with
    | false=>exact wpAny_pure ⟨rfl,h₃⟩
    | true =>
      exact wpAny_bind (wpAny_bind (wpAny_mono h₃ (fun x s₄ h₄=>wpAny_bind (wpAny_mono h₄ (fun _ s₅ h₅=>wpAny_pure (wpAny_pure ⟨rfl,h₅⟩)) fun _ _ h'=>h'.elim)) fun _ _ h'=>h'.elim))
abbrev Lp (D:Addr) (its:List Value) (k:Nat):Addr × Obj:=(D,{ cls:=.type "list",data:=.seq its.toArray k })
section
variable {X:Cx} {pins:List (Addr × Obj)} {σ:St} {H2:Hp} {s2:Shared}
theorem Inv.cellLt (I2:Inv X pins σ H2 s2):∀ x c,X.env.cells.lookup x=some c→c < s2.heap.objs.size:=fun x c e=>by
  obtain ⟨v,q⟩:=I2.cell x c e;exact q.lt
theorem Inv.notStk (I2:Inv X pins σ H2 s2) {b:Addr} (hb:s2.heap.objs.size≤b):b∉frs X.stack:=fun hz=>by
  rcases aao.mp (I2.stkSub b hz) with z|z
  · have:=I2.lt;rw [← z] at this;exact absurd (aas this hb) (abm _)
  · exact I2.nofs hb z
theorem Inv.offC (I2:Inv X pins σ H2 s2) {C:Addr} (hC:s2.heap.objs.size≤C) {σ':St} {H:Hp} {s:Shared} {h':Heap} (I:Inv X pins σ' H s) (hn:H C=none) (he:∀ b o,b≠C→s.heap.get? b=some o→h'.get? b=some o):Inv X pins σ' H { s with heap:=h' } :=
  I.turned (t':=s.toks) (it:=C) he hn (abd (aas I2.lt hC)) (.inr (aaT I2.sz hC)) (fun x c e z=>absurd (I2.cellLt x c e) (by rw [z];exact acs.mpr hC)) (fun p hp z=>absurd (aat (I2.pin p hp).1) (by rw [z];exact acs.mpr hC))
theorem Inv.takeD (I2:Inv X pins σ H2 s2) {D:Addr} (hD:s2.heap.objs.size≤D) {σ':St} {H:Hp} {s:Shared} {o:HO} (I:Inv X pins σ' H s) (hn:H D=none) (ok:ObjOk X.prog X.w (upd H D o) s.heap D o):Inv X pins σ' (upd H D o) s :=
  I.adopt hn (aaT I2.sz hD) (abd (aas I2.lt hD)) (fun x c e=>aaE (aas (I2.cellLt x c e) hD)) (fun p hp=>aaE (aas (aat (I2.pin p hp).1) hD)) ok
variable {E:Env} {fn:Str→Bool} {NY:List Str} {fp:List Addr}
theorem Inv.outB (I2:Inv X pins σ H2 s2) (f2:∀ b∈fp,gl X pins H2 b) {P:List (Addr × Obj)} {σ':St} {H3:Hp} {s4:Shared} (I4:Inv (fc X E fn NY fp s2 H2) P σ' H3 s4):Inv X pins σ H3 s4 :=
  I2.call' (ch:=fp) I4.os (show Un (frs X.stack) fp H2 H3 s2.heap s4.heap from I4.base) I4.hok I4.bare fun b hb=>⟨(f2 b hb).2.2.2.1,(f2 b hb).2.1,(f2 b hb).2.2.2.2.1,(f2 b hb).2.2.2.2.2⟩
structure BlkC (X:Cx) (s2:Shared) (h₁:Heap) (E:Env) (fn:Str→Bool):Prop where
  kind:E.scope.kind=.function
  glob:E.globals=X.env.globals
  blt:E.builtins=X.env.builtins
  loc:s2.heap.objs.size≤E.locals
  old:∀ b o,s2.heap.get? b=some o→h₁.get? b=some o
  ns:∃ m,h₁.Ns E.locals m
  cell:∀ x c,E.cells.lookup x=some c→(fn x=false∧X.env.cells.lookup x=some c)∨(fn x=true∧s2.heap.objs.size≤c∧c≠E.locals∧h₁.get? c=some { cls:=.type "cell",data:=.cell none }∧∀ y,E.cells.lookup y=some c→y=x)
  has:∀ x,E.kindOf x=some .cell∨E.kindOf x=some .free→∃ c,E.cells.lookup x=some c
theorem CapOk.noFn {fn:Str→Bool} {n:List Str} {c:List (Option Nat)} {j:Nat} {x:Str} {v:V} {σ:St} (h:((n.zip c).all fun p=>!fn p.1 || p.2 == none)=true) (h1:n[j]?=some x) (e:(da c σ)[j]?=some (some v)):fn x=false:=by
  rw [da,aaX] at e;cases q:c[j]? with
  | none=>rw [q] at e;cases e
  | some o =>
    rw [q] at e;cases o with
    | none=>simp [yr] at e
    | some i =>
      have m:(x,some i)∈n.zip c:=aax (i:=j) (by rw [List.getElem?_zip_eq_some];exact ⟨h1,q⟩);have:=aa4.mp h _ m;simpa using this
variable {h₁:Heap}
theorem Inv.fps (I2:Inv X pins σ H2 s2) (f2:∀ b∈fp,gl X pins H2 b) (fpl:∀ b∈fp,b < s2.heap.objs.size) (B:BlkC X s2 h₁ E fn) {P:List (Addr × Obj)} (hP:∀ p∈P,s2.heap.objs.size≤p.1) {H':Hp} (hn:∀ b∈fp,H' b=none):∀ b∈fp,gl (fc X E fn NY fp s2 H2) P H' b:=fun b hb=>by
  refine ⟨hn b hb,aaE (aas (fpl b hb) B.loc),fun hz=>?_,.inl hb,fun x c e=>?_,fun p hp=>?_⟩
  · rcases aao.mp (I2.stkSub b hz) with z|z
    · exact (f2 b hb).2.1 z
    · exact (f2 b hb).2.2.1 z
  · rcases B.cell x c e with z|z
    · exact (f2 b hb).2.2.2.2.1 x c z.2
    · exact abd (aas (fpl b hb) z.2.1)
  · exact abd (aas (fpl b hb) (hP p hp))
theorem Inv.blkLoc (I2:Inv X pins σ H2 s2) (B:BlkC X s2 h₁ E fn) {cap:List (Option Nat)} (hcap:CapOk X.env E.scope X.N NY cap) (hx:((NY.zip cap).all fun p=>!fn p.1 || p.2 == none)=true) {h:Heap} (hk:∀ x c o,X.env.cells.lookup x=some c→s2.heap.get? c=some o→∃ o',h.get? c=some o'∧o'.data=o.data) {m:Str→Option Value} :
    ∀ (i:Nat) (x:Str) (v:V),NY[i]?=some x→(da cap σ)[i]?=some (some v)→∃ u,RelV v u∧xH E h m x u:=fun j x v e1 e2=>by
  obtain ⟨i,h1,h2,h3,h4⟩:=CapOk.get (σ:=σ) hcap e1 e2;have nf:=CapOk.noFn hx e1 e2;obtain ⟨m',hn,hl⟩:=I2.loc;have vis:Vis X.env.scope x:=by rcases h3 with z|z;exact .inr (.inl z);exact .inr (.inr z)
  obtain ⟨u,r,l⟩:=hl i x v h1 h2 vis;refine ⟨u,r,.inr ⟨h4,?_⟩⟩;rcases l with ⟨k,_⟩|⟨_,c,e,z⟩
  · rcases h3 with z|z <;> (rw [k] at z;cases z)
  · obtain ⟨c',e'⟩:=B.has x h4;rcases B.cell x c' e' with q|q
    · have e'':=q.2;rw [e] at e'';cases e'';obtain ⟨o,ho,hd⟩:=z;obtain ⟨o',h',d'⟩:=hk x c o e ho;exact ⟨c,e',o',h',d'.trans hd⟩
    · rw [nf] at q;exact absurd q.1 aar
theorem Inv.blk (I2:Inv X pins σ H2 s2) (f2:∀ b∈fp,gl X pins H2 b) (fpl:∀ b∈fp,b < s2.heap.objs.size) (B:BlkC X s2 h₁ E fn) {cap:List (Option Nat)} (hcap:CapOk X.env E.scope X.N NY cap) (hx:((NY.zip cap).all fun p=>!fn p.1 || p.2 == none)=true)
    {P:List (Addr × Obj)} (hP:∀ p∈P,h₁.get? p.1=some p.2∧s2.heap.objs.size≤p.1∧p.1≠E.locals∧∀ v,p.2.data≠.cell v) {t':Nat}:Inv (fc X E fn NY fp s2 H2) P (da cap σ) H2 { s2 with heap:=h₁,toks:=t' }:=by
  refine ⟨⟨I2.ok.mod,B.kind,B.glob.trans I2.ok.glob,B.blt.trans I2.ok.blt,B.loc,fun x y c e1 e2=>?_,B.has,fun x c hf e=>?_,I2.ok.hd,I2.ok.frames,.inl rfl,fun b hb=>⟨aaE (aas (fpl b hb) B.loc),fun x c e z=>?_⟩,I2.bs,aaT I2.ok.bsz I2.sz,fun b o e hb=>?_,fun b hb hz=>?_,I2.stack,I2.stkFree⟩,
    rfl,I2.bare,Un.kept B.old,⟨B.ns.choose,B.ns.choose_spec,fun j x v e1 e2 _=>I2.blkLoc B hcap hx (fun x c o _ ho=>⟨o,B.old _ _ ho,rfl⟩) j x v e1 e2⟩,fun x c e=>?_,I2.hok.fresh B.loc,fun x c e=>?_,fun p hp=>?_,I2.hok.kept B.old,?_⟩
  · rcases B.cell x c e1 with z|z
    · rcases B.cell y c e2 with q|q
      · exact I2.ok.inj x y c z.2 q.2
      · exact absurd (I2.cellLt x c z.2) (acs.mpr q.2.1)
    · exact (z.2.2.2.2 y e2).symm
  · rcases B.cell x c e with z|z
    · have hf:fn x=true:=hf;rw [z.1] at hf;cases hf
    · exact z.2.1
  · rcases B.cell x c e with q|q
    · exact (f2 b hb).2.2.2.2.1 x c q.2 z
    · exact absurd (fpl b hb) (by rw [← z];exact acs.mpr q.2.1)
  · rcases (f2 b hb).2.2.2.1 with z|z
    · exact I2.ok.noex b o e z
    · exact absurd (aas (aat (I2.ok.bs b o e).1) z) (abm _)
  · rcases aao.mp (I2.stkSub b hz) with z|z
    · exact (f2 b hb).2.1 z
    · exact (f2 b hb).2.2.1 z
  · rcases B.cell x c e with q|q
    · obtain ⟨v,o,ho,hd⟩:=I2.cell x c q.2;exact ⟨v,o,B.old _ _ ho,hd⟩
    · exact ⟨none,_,q.2.2.2.1,rfl⟩
  · rcases B.cell x c e with q|q
    · exact I2.freeC x c q.2
    · exact I2.hok.fresh q.2.1
  · obtain ⟨h1,h2,h3,h4⟩:=hP p hp;exact ⟨h1,I2.hok.fresh h2,h3,I2.notStk h2,h4⟩
  · show (da cap σ).length=NY.length;unfold da;rw [aak];exact hcap.len
theorem Inv.recap (I2:Inv X pins σ H2 s2) (f2:∀ b∈fp,gl X pins H2 b) (B:BlkC X s2 h₁ E fn) {cap:List (Option Nat)} (hcap:CapOk X.env E.scope X.N NY cap) (hx:((NY.zip cap).all fun p=>!fn p.1 || p.2 == none)=true) {pn:List (Addr × Obj)} {σ':St} {H':Hp} {s':Shared} (Z:Inv (fc X E fn NY fp s2 H2) pn σ' H' s'):Inv (fc X E fn NY fp s2 H2) pn (da cap σ) H' s':=by
  refine ⟨Z.ok,Z.os,Z.bare,Z.base,?_,Z.cell,Z.free,Z.freeC,Z.pin,Z.hok,?_⟩
  · obtain ⟨m,hn,_⟩:=Z.loc;refine ⟨m,hn,fun j x v e1 e2 _=>I2.blkLoc B hcap hx (fun x c o e ho=>?_) j x v e1 e2⟩;have nfp:c∉fp:=fun hz=>(f2 c hz).2.2.2.2.1 x c e rfl;obtain ⟨sl,q⟩:=Z.base.any (show s2.heap.get? c=some o from ho) (I2.freeC x c e) nfp;exact ⟨_,q,rfl⟩
  · show (da cap σ).length=NY.length;unfold da;rw [aak];exact hcap.len
theorem Inv.blkC (I2:Inv X pins σ H2 s2) {scope:Scope} {cl:List (Str × Addr)} (hci:CellsIn X.env cl) (hkind:scope.kind=.function) (hhas:((relabel scope X.env).names.all fun p=>(p.2 != .cell && p.2 != .free) || (cl.lookup p.1).isSome)=true) {C:Addr} (hC:s2.heap.objs.size≤C)
    (old:∀ b o,s2.heap.get? b=some o→h₁.get? b=some o) (hns:∃ m,h₁.Ns C m):BlkC X s2 h₁ (compEnvC scope cl C X.env) (fun _=>false):=by
  refine ⟨hkind,rfl,rfl,hC,old,hns,fun x c e=>.inl ⟨rfl,hci.get e⟩,fun x hx=>?_⟩;have hx':(relabel scope X.env).names.lookup x=some .cell∨(relabel scope X.env).names.lookup x=some .free:=hx;have key:∀ k,(relabel scope X.env).names.lookup x=some k→(k=.cell∨k=.free)→∃ c,cl.lookup x=some c:=fun k e hk=>by
    have q:=aa4.mp hhas (x,k) (abg e);have q':(cl.lookup x).isSome=true:=by
      rcases hk with rfl|rfl <;> simpa using q
    exact abG.mp q'
  rcases hx' with e|e
  · exact key _ e (.inl rfl)
  · exact key _ e (.inr rfl)
theorem fZ {NY:List Str} {cap:List (Option Nat)}:((NY.zip cap).all fun p=>!(fun _:Str=>false) p.1 || p.2 == none)=true:=List.all_eq_true.mpr fun _ _=>rfl
theorem qH {scope:Scope} (h:(scope.names.all fun y=>y.2 != .cell)=true):∀ y∈scope.names,y.2≠.cell:=fun y hy=>by
  have q:=aa4.mp h y hy;simpa using q
theorem jM {scope:Scope} (h:(scope.names.all fun y=>y.2 != .local || scope.names.lookup y.1 == some .local)=true):∀ y∈scope.names,y.2=.local→scope.names.lookup y.1=some .local:=fun y hy e=>by
  have q:=aa4.mp h y hy;rw [e] at q;simpa using q
theorem Inv.lstDone (I2:Inv X pins σ H2 s2) (f2:∀ b∈fp,gl X pins H2 b) {D C:Addr} (hD:s2.heap.objs.size≤D) (hC:s2.heap.objs.size≤C) (eC:E.locals=C) {P:List (Addr × Obj)} {σ':St} {H3:Hp} {s4:Shared} {ys:List V} {its:List Value} {k:Nat} (I4:Inv (fc X E fn NY fp s2 H2) (Lp D its k :: P) σ' H3 s4) (rv:Vals ys its) (hz:ys.length≤sizeLine) :
    Inv X pins σ (upd H3 D (.lst ys)) s4∧H3 D=none∧upd H3 D (.lst ys) C=none∧∃ m,s4.heap.Ns C m:=by
  subst eC;have pD:=I4.pin (Lp D its k) (aab _ aav);obtain ⟨m,hnC,_⟩:=id I4.loc;refine ⟨I2.takeD hD (I2.outB f2 I4) pD.2.1 ⟨hz,its,k,rv,pD.1⟩,pD.2.1,?_,m,hnC⟩;have z:D≠E.locals:=pD.2.2.1;rw [aw (abC z)];exact I4.free
theorem Inv.lstEnd (I2:Inv X pins σ H2 s2) (f2:∀ b∈fp,gl X pins H2 b) {D C:Addr} (hD:s2.heap.objs.size≤D) (hC:s2.heap.objs.size≤C) (eC:E.locals=C) {P:List (Addr × Obj)} {σ':St} {H3:Hp} {s4:Shared} {ys:List V} {its:List Value} {k:Nat} (I4:Inv (fc X E fn NY fp s2 H2) (Lp D its k :: P) σ' H3 s4) (rv:Vals ys its) (hz:ys.length≤sizeLine)
    {Q:VK} (qn:∀ p,H3 p=none→Q (.ref p) (upd H3 p (.lst ys))):compPost (model X.prog X.w) X.A X.xe none (EP X pins σ Q) (.ref D) C (.ok .next) s4:=by
  obtain ⟨I5,hD3,hC3,m,hn⟩:=I2.lstDone f2 hD hC eC I4 rv hz;exact ⟨m,hn,fun h' hsb=>⟨.ref D,_,I2.offC hC I5 hC3 fun b o hb e=>hsb.extBut b o hb e,rfl,qn D hD3⟩⟩
end
theorem rm {Y:Cx} {τ:Type} {val:τ→St} {nx:St→τ} (hc:Y.calm=true) (hxe:Y.xe=fun _ _=>False) (hrs:∀ {pn:List (Addr × Obj)} {σ':St} {H':Hp} {s':Shared},Inv Y pn σ' H' s'→Inv Y pn (val (nx σ')) H' s')
    {D:Addr} (hDx:D∈Y.ex∨Y.s₀.heap.objs.size≤D) (hDc:∀ x c,Y.env.cells.lookup x=some c→c≠D) (hDp:∀ p∈Y.pn,p.1≠D)
    {elt tg iter:Expr} {ifs:List Expr} {te:TE} {g:TG} {tt:TT} {G:List Comprehension} {scope:Scope} {pos:Pos} {k:Nat} (hbe:PE Y elt te) (hk:G[k]?=some ⟨tg,iter,ifs,0⟩) (hk2:G[k+1]?=none) (htg:PG Y tg g) (hfs:iw Y ifs tt)
    {P:List (Addr × Obj)} (hP:∀ p∈P,p.1≠D) {it:Addr} {fp:List Addr} {tn:Nat→Heap→Prop} {J:It} (T:Turn Y.prog Y.w Y.K tg J fp it tn) (neD:∀ b∈fp,D≠b) (fpY:∀ {H':Hp} {n:Nat} {its:List Value},(∀ b∈fp,H' b=none)→∀ b∈fp,gl Y (Lp D its n :: P) H' b)
    {R:Result→Shared→Prop} {Fin:List V→τ→Hp→Prop} (hR:∀ ys its k t H s,Inv Y (Lp D its k :: P) (val t) H s→Vals ys its→ys.length≤sizeLine→Fin ys t H→R (.ok .next) s)
    {W:Nat→Nat→List V→τ→Hp→Prop} (turn:∀ i m ys t H,W i m ys t H→(J.stop i H∧Fin ys t H) ∨
      (J.go i H∧ys.length < sizeLine∧∀ x H',J.yld i H x H'→g x (val t) H' fun σ3 H5=>tt σ3 H5 fun b H6=>if b=true then te σ3 H6 fun v H7=>∃ m',m' < m∧W (i+1) m' (ys++[v]) (nx σ3) H7 else ∃ m',m' < m∧W (i+1) m' ys (nx σ3) H6))
    {m0 kk:Nat} {ys:List V} {its:List Value} {t:τ} {H:Hp} {s:Shared} (I:Inv Y (Lp D its kk :: P) (val t) H s) (rv:Vals ys its) (hz:ys.length≤sizeLine) (st:tn 0 s.heap) (fr:∀ b∈fp,H b=none) (w0:W 0 m0 ys t H) :
    codeAny (model Y.prog Y.w) Y.A (.compLoop (.ListComp elt G scope pos) k (.ref it) (.ref D) Y.env) R s:=by
  have xe:∀ e s,Y.xe e s→False:=fun e s z=>by rw [hxe] at z;exact z
  refine qE hk hk2 (fun n s'=>∃ i ys its k t H',Inv Y (Lp D its k :: P) (val t) H' s'∧Vals ys its∧ys.length≤sizeLine∧tn i s'.heap∧(∀ b∈fp,H' b=none)∧W i n ys t H') ?_ m0 ⟨0,ys,its,kk,t,H,I,rv,hz,st,fr,w0⟩;rintro n s3 ⟨i,ys3,its3,k3,t3,H3,I3,rv3,hz3,st3,fr3,w3⟩;rcases turn i n ys3 t3 H3 w3 with ⟨stop,qn⟩|⟨go,hlt,step⟩
  · refine wpAny_mono (T.done Y rfl rfl rfl hc i _ s3 _ H3 (fun _ _=>False) I3 (fpY fr3) st3 stop) (fun r s4 ⟨hr,I4⟩=>?_) fun _ _ z=>z;subst hr;exact hR ys3 its3 k3 t3 H3 s4 I4 rv3 hz3 qn
  · refine wpAny_mono (T.item Y rfl rfl rfl hc i _ s3 _ H3 (fun _ _=>False) I3 (fpY fr3) st3 go) (fun r s4 ⟨u,hr,h4⟩=>?_) fun _ _ z=>z;subst hr;refine wpAny_mono h4 (fun _ s5 ⟨x,H5,I5,r5,y5,st5,fr5⟩=>?_) fun _ _ z=>z;have I5':=I5.pinned (fpY fr5) (T.obj _ _ st5);refine wpAny_mono (htg _ s5 _ H5 x u _ I5' r5 (step x H5 y5)) (fun _ s6 ⟨σ6,H6,I6,q6⟩=>?_) fun e s z=>(xe e s z).elim;refine wpAny_mono (hfs _ s6 σ6 H6 _ I6 q6) (fun ok s7 ⟨H7,I7,q7⟩=>?_) fun e s z=>(xe e s z).elim;have again:∀ {ys':List V} {its':List Value} {k':Nat} {σ':St} {H':Hp} {s':Shared},Inv Y (Lp D its' k' :: (P++dP fp s5.heap)) σ' H' s'→Vals ys' its'→ys'.length≤sizeLine→(∃ m',m' < n∧W (i+1) m' ys' (nx σ') H') →
        ∃ m,m < n∧∃ i ys its k t H',Inv Y (Lp D its k :: P) (val t) H' s'∧Vals ys its∧ys.length≤sizeLine∧tn i s'.heap∧(∀ b∈fp,H' b=none)∧W i m ys t H':=fun {ys' its' k' σ' H' s'} Z rv' hz' hw=>by
      obtain ⟨m',hm,w'⟩:=hw;have pn:∀ {b:Addr} {o:Obj},b∈fp→s5.heap.get? b=some o→_:=fun {b o} hb e=>Z.pin (b,o) (aab _ (aai _ (aab _ (f_ hb e))));refine ⟨m',hm,i+1,ys',its',k',nx σ',H',hrs (Inv.unpinned (pl:=dP fp s5.heap) Z),rv',hz',T.keep _ _ _ st5 fun b hb o e=>(pn hb e).1,fun b hb=>?_,w'⟩;obtain ⟨o,e,d⟩:=T.obj _ _ st5 b hb;exact (pn hb e).2.1
    cases ok with
    | false =>
      rw [if_neg aar] at q7 ⊢;exact again I7 rv3 hz3 q7
    | true =>
      rw [if_pos rfl] at q7 ⊢;refine wpAny_mono (hbe _ s7 σ6 H7 _ I7 q7) (fun xv s15 ⟨v,H15,I15,r15,q15⟩=>?_) fun e s z=>(xe e s z).elim;have pD:=I15.pin (Lp D its3 k3) (aab _ aav);have hlen:=rv3.length;refine append_at pD.1 (fun h16 hs16 hD16=>?_) (by rw [aah];lia);have I16:Inv Y (P++dP fp s5.heap) σ6 H15 s15:=I15.pins_of fun p hp=>I15.pin p (aab _ (aai _ hp));have I17:Inv Y (P++dP fp s5.heap) σ6 H15 { s15 with heap:=h16 }:=I16.turned (t':=s15.toks) (it:=D) (fun b o hb e=>hs16.extBut b o hb e) pD.2.1 pD.2.2.1 hDx hDc fun p hp=>by
        rcases aap.mp hp with z|z
        · exact hDp p z
        · rcases aap.mp z with z|z
          · exact hP p z
          · exact abC (neD _ (jh z).1)
      have I18:Inv Y (Lp D (its3++[xv]) (k3+1) :: (P++dP fp s5.heap)) σ6 H15 { s15 with heap:=h16 }:=I17.pins_of fun p hp=>by
        rcases aao.mp hp with z|z
        · rw [z];refine ⟨?_,pD.2.1,pD.2.2.1,pD.2.2.2.1,fun v z=>by cases z⟩;rw [List.push_toArray] at hD16;exact hD16
        · exact I17.pin p (aab _ z)
      exact again I18 (rv3.append (.cons r15 .nil)) (by rw [aal,aa8];exact hlt) q15
theorem Turn.lt {P:Program} {w:World} {K:aaa} {tg:Expr} {J:It} {fp:List Addr} {it:Addr} {tn:Nat→Heap→Prop} (T:Turn P w K tg J fp it tn) {h:Heap} {i:Nat} (st:tn i h):∀ b∈fp,b < h.objs.size:=fun b hb=>by
  obtain ⟨o,e,_⟩:=T.obj _ _ st b hb;exact aat e
theorem BlkC.neD {X:Cx} {s2:Shared} {h₁:Heap} {E:Env} {fn:Str→Bool} (B:BlkC X s2 h₁ E fn) (hc:∀ x c,X.env.cells.lookup x=some c→c < s2.heap.objs.size) {D:Addr} (hD:s2.heap.objs.size≤D) {o:Obj} (h:h₁.get? D=some o) (ho:∀ v,o.data≠.cell v):∀ x c,E.cells.lookup x=some c→c≠D:=fun x c e z=>by
  rcases B.cell x c e with q|q
  · exact absurd (hc x c q.2) (by rw [z];exact acs.mpr hD)
  · have:=q.2.2.2.1;rw [z,h] at this;cases this;exact ho _ rfl
theorem Inv.newC {X:Cx} {pins:List (Addr × Obj)} {σ:St} {H2:Hp} {s2:Shared} {h₁:Heap} (I2:Inv X pins σ H2 s2) {scope:Scope} {cl:List (Str × Addr)} (hci:CellsIn X.env cl) (hkind:scope.kind=.function) (hhas:((relabel scope X.env).names.all fun p=>(p.2 != .cell && p.2 != .free) || (cl.lookup p.1).isSome)=true) {o:Obj}
    {m:Str→Option Value} (hns:h₁.Ns (s2.heap.push o).objs.size m) (ext:∀ b u,b≠(s2.heap.push o).objs.size→(s2.heap.push o).get? b=some u→h₁.get? b=some u) (hof:o.isFreed=false:=by rfl) :
    s2.heap.objs.size < (s2.heap.push o).objs.size∧BlkC X s2 h₁ (compEnvC scope cl (s2.heap.push o).objs.size X.env) (fun _=>false)∧h₁.get? s2.heap.objs.size=some o:=by
  have hC:s2.heap.objs.size < (s2.heap.push o).objs.size:=by rw [Heap.size_push];exact abU _
  exact ⟨hC,I2.blkC hci hkind hhas (abo hC) (fun b u e=>ext b u (aaE (ab1 (aat e) hC)) (aac _ e)) ⟨m,hns⟩,ext _ _ (aaE hC) (aaB _ hof)⟩
theorem Inv.goLast {X:Cx} {pins:List (Addr × Obj)} {σ:St} {H2:Hp} {s2:Shared} {h₁:Heap} {E:Env} {fn:Str→Bool} {NY:List Str} {fp:List Addr} (I2:Inv X pins σ H2 s2) (f2:∀ b∈fp,gl X pins H2 b) (fpl:∀ b∈fp,b < s2.heap.objs.size) (B:BlkC X s2 h₁ E fn) {cap:List (Option Nat)} (hcap:CapOk X.env E.scope X.N NY cap)
    (hx:((NY.zip cap).all fun p=>!fn p.1 || p.2 == none)=true) (hc:X.calm=true) {C:Addr} (hC:s2.heap.objs.size < C) (eC:E.locals=C) (hD:h₁.get? s2.heap.objs.size=some { cls:=.type "list",dict:=none,data:=.seq ([]:List Value).toArray })
    {tg elt iter:Expr} {ifs:List Expr} {g:TG} {tt:TT} {te:TE} {J:It} {it:Addr} {tn:Nat→Heap→Prop} (T:Turn X.prog X.w X.K tg J fp it tn) (st:tn 0 h₁) (hbe:PE (fc X E fn NY fp s2 H2) elt te) (hbg:PG (fc X E fn NY fp s2 H2) tg g) (hbt:iw (fc X E fn NY fp s2 H2) ifs tt)
    {G:List Comprehension} (hk:G[0]?=some ⟨tg,iter,ifs,0⟩) (hk2:G[1]?=none) {scope:Scope} {pos:Pos} {t':Nat} {W:Nat→Nat→List V→Hp→Prop} {Fin:List V→Hp→Prop}
    (turn:∀ i m ys H,W i m ys H→(J.stop i H∧Fin ys H)∨(J.go i H∧ys.length < sizeLine∧∀ x H',J.yld i H x H'→g x (da cap σ) H' fun σ2 H2=>tt σ2 H2 fun b H3=>if b=true then te σ2 H3 fun v H4=>∃ m',m' < m∧W (i+1) m' (ys++[v]) H4 else ∃ m',m' < m∧W (i+1) m' ys H3))
    {m0:Nat} (w0:W 0 m0 [] H2) {R:Result→Shared→Prop} (hR:∀ ys its k H s,Inv (fc X E fn NY fp s2 H2) [Lp s2.heap.objs.size its k] (da cap σ) H s→Vals ys its→ys.length≤sizeLine→Fin ys H→R (.ok .next) s) :
    codeAny (model X.prog X.w) X.A (.compLoop (.ListComp elt G scope pos) 0 (.ref it) (.ref s2.heap.objs.size) E) R { s2 with heap:=h₁,toks:=t' }:=by
  subst eC;exact rm (τ:=Unit) (val:=fun _=>da cap σ) (nx:=fun _=>()) (Y:=fc X E fn NY fp s2 H2) hc rfl (fun Z=>I2.recap f2 B hcap hx Z) (.inr (aae _)) (B.neD I2.cellLt (aae _) hD fun v z=>by cases z) (fun p hp=>by cases hp) hbe hk hk2 hbg hbt (P:=[]) (fun p hp=>by cases hp) T
    (fun b hb=>abd (fpl b hb)) (fun hn=>I2.fps f2 fpl B (fun p hp=>by rw [aam.mp hp];exact aae _) hn) (Fin:=fun ys _ H=>Fin ys H) (fun ys its k _ H s=>hR ys its k H s)
    (W:=fun i m ys _ H=>W i m ys H) (fun i m ys _ H=>turn i m ys H) (t:=()) (I2.blk f2 fpl B hcap hx (fun p hp=>by rw [aam.mp hp];exact ⟨hD,aae _,aaE hC,fun v z=>by cases z⟩)) .nil (aaO _) st (fun b hb=>(f2 b hb).1) w0
abbrev vY (cap:List (Option Nat)) (g:TG) (tt:TT) (te:TE) (σ:St) (Q:VK) (J:It) (H1:Hp):Prop:=∃ W:Nat→Nat→List V→Hp→Prop,(∃ m,W 0 m [] H1)∧∀ i m ys H,W i m ys H →
  (J.stop i H∧∀ p,H p=none→Q (.ref p) (upd H p (.lst ys))) ∨
  (J.go i H∧ys.length < sizeLine∧∀ x H',J.yld i H x H'→g x (da cap σ) H' fun σ2 H2=>tt σ2 H2 fun b H3=>if b=true then te σ2 H3 fun v H4=>∃ m',m' < m∧W (i+1) m' (ys++[v]) H4 else ∃ m',m' < m∧W (i+1) m' ys H3)
def tLc (cap:List (Option Nat)) (wi:TI) (g:TG) (tt:TT) (te:TE):TE:=fun σ H Q=>wi σ H (vY cap g tt te σ Q)
section
variable {X:Cx}
theorem fA {elt tg iter:Expr} {ifs:List Expr} {scope:Scope} {pos:Pos} {cl:List (Str × Addr)} {NY:List Str} {cap:List (Option Nat)} {wi:TI} {g:TG} {tt:TT} {te:TE} (hc:X.calm=true) (hi:PI X tg iter wi)
    (hclos:closureFor scope X.env=pure cl) (hci:CellsIn X.env cl) (hcap:CapOk X.env (relabel scope X.env) X.N NY cap)
    (hb:∀ fp s H C,PG (bi X scope cl NY fp s H C) tg g∧iw (bi X scope cl NY fp s H C) ifs tt∧PE (bi X scope cl NY fp s H C) elt te)
    (hkind:scope.kind=.function:=by rfl) (hnc:(scope.names.all fun y=>y.2 != .cell)=true:=by rfl)
    (hnames:(scope.names.all fun y=>y.2 != .local || scope.names.lookup y.1 == some .local)=true:=by rfl)
    (hhas:((relabel scope X.env).names.all fun p=>(p.2 != .cell && p.2 != .free) || (cl.lookup p.1).isSome)=true:=by rfl)
    (hs:∀ x,foldedSetIterable iter X.env x=pure x:=by intro _;rfl) :
    PE X (.ListComp elt [⟨tg,iter,ifs,0⟩] scope pos) (tLc cap wi g tt te):=by
  intro pins s σ H Q I h;rw [eval_ListComp];refine wpAny_comprehension_free (use:=none) rfl hs hclos hkind (jM hnames) (wpAny_mono (hi pins s σ H _ I h) (fun v s1 h1=>wpAny_mono h1 (fun itv s2 h2=>?_) fun _ _ e=>e) fun _ _ e=>e);obtain ⟨it,fp,tn,J,H2,e,I2,T,st2,f2,W,⟨m0,w0⟩,turn⟩:=h2;subst e;refine wpAny_newObj_type (wpAny_newFunctionEnv (qH hnc) (by intro y hy;simp at hy) (fun h₁ hns₁ hsb₁=>?_) hkind);dsimp only at hns₁ hsb₁ ⊢;obtain ⟨hC,B,hD⟩:=I2.newC hci hkind hhas hns₁ fun b o hb e=>hsb₁.extBut b o hb (aac _ e);generalize (s2.heap.push { cls:=.type "list",dict:=none,data:=.seq ([]:List Value).toArray }).objs.size=C at hC B ⊢;obtain ⟨hbg,hbt,hbe⟩:=hb fp s2 H2 C;have stW:=T.keep _ _ h₁ st2 fun b _ o e=>B.old b o e;have loop:=I2.goLast f2 (T.lt st2) B hcap fZ hc hC rfl hD T stW hbe hbg hbt (G:=[⟨tg,iter,ifs,0⟩]) rfl rfl (scope:=scope) (pos:=pos) (iter:=iter) (t':=s2.toks+([]:List (Str × Value)).length) turn w0 (R:=compPost (model X.prog X.w) X.A X.xe none (EP X pins σ Q) (.ref s2.heap.objs.size) C) fun ys its k H s I4 rv hz fin=>I2.lstEnd f2 (aae _) (abo hC) rfl I4 rv hz fin;exact codeAny_compStart_list loop (T.self _ 0 _ _ _ stW loop)
end
open PySem PySem.Spec PyProof.Rows
section
variable {X:Cx}
theorem cQ {n:String}:dG X (.builtin "isinstance") (fun xs H Q=>∃ x t b,xs=[x,.ty n]∧TyOf X.K H x t∧aaJ X.K t (.type n)=some b∧Q (.bl b) H):=by
  intro pins s σ H xs us Q I r h;obtain ⟨x,t,b,rfl,ty,e,q⟩:=h;obtain ⟨u,w',rfl,rx,rt⟩:=nV r;cases rt;exact sL I rx ty e fun tk=>⟨.bl b,H,I.tok _,rfl,q⟩
theorem oA:OpR X (binaryOp .FloorDiv) (rI (fun _ j=>0 < j∧j < 2 ^ 64) fun i j=>.int (i / j)):=opI fun i j _ _ _ _ _ hc q=>by
  have h1:(0:Int) < j:=hc.1;have h2:j < 2 ^ 64:=hc.2;refine floordiv_int (by lia) (by rw [Int.fdiv_eq_ediv_of_nonneg i (by lia)];exact q) (.inl (PyProof.noPylong_of_log2 ?_));have h3:j.natAbs < 2 ^ 64:=by lia
  have h4:j.natAbs≠0:=by lia
  have h5:j.natAbs.log2 < 64:=(Nat.log2_lt h4).mpr h3;lia
def Cal (P:Program) (w:World) (K:aaa) (mg:Str→Option Value) (base:Heap) (x:Str) (k:Nat) (ps:List Str) (sp:Sp):Prop :=
  ∃ f fd,FnOk P w K mg base CX0 k f fd ps sp∧Binds K fd ps []∧aaZ K (.ref f)=true∧mg x=some (.ref f)
theorem al {x:Str} {k k':Nat} {ps:List Str} {sp:Sp} {e:Expr} {es:List Expr} {t:TA} {p pos:Pos} (C:Cal X.prog X.w X.K X.mg X.base x k ps sp) (hr:Room k' X.A) (hk:k≤k') (hg:Gl X x) (ha:PA X (e :: es) t)
    (hdb:(x == ("__debug__":Str))=false:=by decide) (he:starEach (e :: es) X.env=(false,eval e X.env) :: starEach es X.env:=by rfl) (hpl:(backTo pos (starEach es X.env)).any (·.1)=false:=by rfl) :
    PE X (.Call (.Name x p) (e :: es) [] pos) (nX sp [] E0 t):=by
  obtain ⟨f,fd,F,b,kp,m⟩:=C;exact qS F (hr.mono hk) hg m kp b .nil v8 ha hdb he hpl
end
theorem Same.new {H:Hp} {p:Addr} (h:H p=none) (o:HO):Same H (upd H p o):=fun b u q=>by rw [aw (ak q h)];exact q
def But (w:Addr) (H H':Hp):Prop:=∀ b o,b≠w→H b=some o→H' b=some o
theorem But.refl {w:Addr} {H:Hp}:But w H H:=fun _ _ _ h=>h
theorem But.trans {w:Addr} {H H1 H2:Hp} (a:But w H H1) (b:But w H1 H2):But w H H2:=fun c o n h=>b c o n (a c o n h)
theorem But.of {w:Addr} {H H':Hp} (a:Same H H'):But w H H':=fun c o _ h=>a c o h
theorem But.new {w:Addr} {H:Hp} {p:Addr} (h:H p=none) (o:HO):But w H (upd H p o):=But.of (Same.new h o)
theorem But.put {w:Addr} {H:Hp} {o:HO}:But w H (upd H w o):=fun b u n q=>by rw [aw n];exact q
end L2
namespace Srt
open PySem PySem.W PyProof.Rows
def run {α:Type} (lt:Nat→Nat→Bool):KasT α→α
  | .ret a=>a
  | .ask i j k=>run lt (k (lt i j))
theorem fz {α β:Type} (lt:Nat→Nat→Bool) (f:α→KasT β):∀ t:KasT α,run lt (t.bind f)=run lt (f (run lt t))
  | .ret _=>rfl
  | .ask i j k=>fz lt f (k (lt i j))
section
variable (key:Nat→Int)
abbrev lt:Nat→Nat→Bool:=fun i j=>decide (key i < key j)
def kp (p:Array Nat) (x:Nat):Int:=key (p.getD x 0)
def Up (p:Array Nat) (m:Nat):Prop:=∀ i j,i < j→j < m→kp key p i < kp key p j
def v4 (p:Array Nat) (m:Nat):Prop:=∀ i j,i < j→j < m→kp key p j < kp key p i
def jC (p:Array Nat) (n:Nat):Prop:=∀ i j,i < n→j < n→kp key p i=kp key p j→i=j
variable {key}
theorem qG (p:Array Nat):∀ (f n:Nat),1≤n→jC key p (n+f)→Up key p n →
    n≤run (lt key) (kas_asc p f n)∧run (lt key) (kas_asc p f n)≤n+f∧Up key p (run (lt key) (kas_asc p f n))∧(run (lt key) (kas_asc p f n) < n+f→kp key p (run (lt key) (kas_asc p f n)) < kp key p (run (lt key) (kas_asc p f n) - 1))
  | 0,n,h1,ap,up=>⟨aae _,aae _,up,fun h=>absurd h (abm _)⟩
  | f+1,n,h1,ap,up=>by
    show _≤run (lt key) (if lt key (p.getD n 0) (p.getD (n - 1) 0)=true then KasT.ret n else kas_asc p f (n+1))∧_;by_cases c:lt key (p.getD n 0) (p.getD (n - 1) 0)=true
    · have e:run (lt key) (kas_asc p (f+1) n)=n:=by
        show run (lt key) (if lt key (p.getD n 0) (p.getD (n - 1) 0)=true then KasT.ret n else kas_asc p f (n+1))=n;rw [if_pos c];rfl
      rw [if_pos c];show n≤n∧run (lt key) (kas_asc p (f+1) n)≤_∧Up key p (run (lt key) (kas_asc p (f+1) n))∧_;rw [e];exact ⟨aae _,by lia,up,fun _=>of_decide_eq_true c⟩
    · have e:run (lt key) (kas_asc p (f+1) n)=run (lt key) (kas_asc p f (n+1)):=by
        show run (lt key) (if lt key (p.getD n 0) (p.getD (n - 1) 0)=true then KasT.ret n else kas_asc p f (n+1))=_;rw [if_neg c]
      have c':¬ kp key p n < kp key p (n - 1):=fun z=>c (decide_eq_true z);have ne:kp key p n≠kp key p (n - 1):=fun z=>by
        have:=ap n (n - 1) (by lia) (by lia) z;lia
      have up':Up key p (n+1):=fun i j hij hj=>by
        by_cases hjn:j < n
        · exact up i j hij hjn
        · have : j=n:=by lia
          subst this;by_cases hi:i=j - 1
          · subst hi;lia
          · have:=up i (j - 1) (by lia) (by lia);lia
      have ih:=qG p f (n+1) (by lia) (by rw [show n+1+f=n+(f+1) by lia];exact ap) up';rw [if_neg c];show n≤_∧run (lt key) (kas_asc p (f+1) n)≤_∧Up key p (run (lt key) (kas_asc p (f+1) n))∧_;rw [e];refine ⟨by lia,by lia,ih.2.2.1,fun h=>ih.2.2.2 (by lia)⟩
theorem rB (p:Array Nat):∀ (f n:Nat),2≤n→jC key p (n+f)→v4 key p n →
    ∃ m,run (lt key) (kas_desc f p n 0)=(p,m,0)∧n≤m∧m≤n+f∧v4 key p m
  | 0,n,h1,ap,dn=>⟨n,rfl,aae _,aae _,dn⟩
  | f+1,n,h1,ap,dn=>by
    by_cases c:lt key (p.getD n 0) (p.getD (n - 1) 0)=true
    · have e:run (lt key) (kas_desc (f+1) p n 0)=run (lt key) (kas_desc f p (n+1) 0):=by
        show run (lt key) (if lt key (p.getD n 0) (p.getD (n - 1) 0)=true then (if 0 > 0 then _ else kas_desc f p (n+1) 0) else _)=_;rw [if_pos c,if_neg (by decide)]
      have c':kp key p n < kp key p (n - 1):=of_decide_eq_true c;have dn':v4 key p (n+1):=fun i j hij hj=>by
        by_cases hjn:j < n
        · exact dn i j hij hjn
        · have : j=n:=by lia
          subst this;by_cases hi:i=j - 1
          · subst hi;exact c'
          · have:=dn i (j - 1) (by lia) (by lia);lia
      obtain ⟨m,e1,h2,h3,h4⟩:=rB p f (n+1) (by lia) (by rw [show n+1+f=n+(f+1) by lia];exact ap) dn';exact ⟨m,e.trans e1,by lia,by lia,h4⟩
    · have c':¬ kp key p n < kp key p (n - 1):=fun z=>c (decide_eq_true z);have ne:kp key p n≠kp key p (n - 1):=fun z=>by
        have:=ap n (n - 1) (by lia) (by lia) z;lia
      have d:lt key (p.getD (n - 1) 0) (p.getD n 0)=true:=decide_eq_true (show kp key p (n - 1) < kp key p n by lia);refine ⟨n,?_,aae _,by lia,dn⟩;show run (lt key) (if lt key (p.getD n 0) (p.getD (n - 1) 0)=true then _ else KasT.ask (p.getD (n - 1) 0) (p.getD n 0) fun d=>if d=true then KasT.ret (p,n,0) else kas_desc f p (n+1) (0+1))=_;rw [if_neg c];show run (lt key) (if lt key (p.getD (n - 1) 0) (p.getD n 0)=true then KasT.ret (p,n,0) else kas_desc f p (n+1) (0+1))=_;rw [if_pos d];rfl
theorem nu {p:Array Nat} {n x:Nat} (hn:n≤p.size):kp key (kas_rev p 0 n) x=if x < n then kp key p (n - 1 - x) else kp key p x:=by
  have e:=getElem?_mirror_all (i:=0) hn x;have g:∀ (a b:Array Nat) (i j:Nat),a[i]?=b[j]?→a.getD i 0=b.getD j 0:=fun a b i j h=>by
    rw [aaD,aaD,h]
  by_cases h:x < n
  · rw [if_pos h];rw [if_pos ⟨aaO _,h⟩] at e;unfold kp kas_rev;rw [g _ _ _ _ e,show 0+n - 1 - x=n - 1 - x by lia]
  · rw [if_neg h];rw [if_neg (fun z=>h z.2)] at e;unfold kp kas_rev;rw [g _ _ _ _ e]
theorem uT {p:Array Nat} {n:Nat} (h1:1≤n) (hs:p.size=n) (ap:jC key p n) :
    ∃ m p',run (lt key) (kas_count n p)=(m,p')∧1≤m∧m≤n∧p'.Perm p∧Up key p' m:=by
  have a:=qG (key:=key) p (n - 1) 1 (aae _) (by rw [show 1+(n - 1)=n by lia];exact ap) (fun i j hij hj=>by lia);have e:run (lt key) (kas_count n p)=run (lt key) (if (run (lt key) (kas_asc p (n - 1) 1) == n)=true then KasT.ret (run (lt key) (kas_asc p (n - 1) 1),p) else if run (lt key) (kas_asc p (n - 1) 1) > 1 then
      KasT.ask (p.getD 0 0) (p.getD (run (lt key) (kas_asc p (n - 1) 1) - 1) 0) fun c=>if c=true then KasT.ret (run (lt key) (kas_asc p (n - 1) 1),p) else kas_descPart (run (lt key) (kas_asc p (n - 1) 1)) n (kas_rev p 0 (run (lt key) (kas_asc p (n - 1) 1)))
      else kas_descPart (run (lt key) (kas_asc p (n - 1) 1)) n p):=fz _ _ _
  rw [e];generalize run (lt key) (kas_asc p (n - 1) 1)=r at a;obtain ⟨a1,a2,a3,a4⟩:=a;by_cases c1:(r == n)=true
  · rw [if_pos c1];have : r=n:=eq_of_beq c1;exact ⟨r,p,rfl,a1,by lia,Array.Perm.refl _,a3⟩
  rw [if_neg c1];have rn:r≠n:=fun z=>c1 (by rw [z];exact beq_self_eq_true n);by_cases c2:r > 1
  · rw [if_pos c2];have d:lt key (p.getD 0 0) (p.getD (r - 1) 0)=true:=decide_eq_true (show kp key p 0 < kp key p (r - 1) from a3 0 (r - 1) (by lia) (by lia));refine ⟨r,p,?_,a1,by lia,Array.Perm.refl _,a3⟩;show run (lt key) (if lt key (p.getD 0 0) (p.getD (r - 1) 0)=true then KasT.ret (r,p) else _)=_;rw [if_pos d];rfl
  · rw [if_neg c2];have r1:r=1:=by lia
    subst r1;have d0:=a4 (by lia);have dn:v4 key p 2:=fun i j hij hj=>by
      have : i=0:=by lia
      have : j=1:=by lia
      subst i;subst j;exact d0
    obtain ⟨m,e1,h2,h3,h4⟩:=rB (key:=key) p (n - 2) 2 (aae _) (by rw [show 2+(n - 2)=n by lia];exact ap) dn;have hm:m≤p.size:=by lia
    have up:Up key (kas_rev p 0 m) m:=fun i j hij hj=>by
      rw [nu hm,nu hm,if_pos (by lia),if_pos hj];exact h4 _ _ (by lia) (by lia)
    have ap':jC key (kas_rev p 0 m) (m+(n - m)):=fun i j hi hj z=>by
      rw [nu hm,nu hm] at z;by_cases ci:i < m
      · rw [if_pos ci] at z;by_cases cj:j < m
        · rw [if_pos cj] at z;have:=ap _ _ (by lia) (by lia) z;lia
        · rw [if_neg cj] at z;have:=ap _ _ (by lia) (by lia) z;lia
      · rw [if_neg ci] at z;by_cases cj:j < m
        · rw [if_pos cj] at z;have:=ap _ _ (by lia) (by lia) z;lia
        · rw [if_neg cj] at z;exact ap _ _ (by lia) (by lia) z
    have b:=qG (key:=key) (kas_rev p 0 m) (n - m) m (by lia) ap' up;refine ⟨run (lt key) (kas_asc (kas_rev p 0 m) (n - m) m),kas_rev p 0 m,?_,by lia,by lia,mirror_perm _ _ _ _,b.2.2.1⟩;show run (lt key) ((kas_desc (n - (1+1)) p (1+1) 0).bind _)=_;rw [fz,e1];show run (lt key) (if 0 > 0 then _ else kas_tail3 m n p)=_;rw [if_neg (by decide)];show run (lt key) ((kas_asc (kas_rev p 0 m) (n - m) m).bind _)=_;rw [fz];rfl
theorem j6 {p:Array Nat} {k:Nat} (up:Up key p k) (ap:∀ i,i < k→kp key p i≠kp key p k):∀ (f l r:Nat),l≤r→r≤k→r≤l+f→(∀ i,i < l→kp key p i < kp key p k)→(∀ i,r≤i→i < k→kp key p k < kp key p i) →
    run (lt key) (kas_place p k f l r)≤k∧(∀ i,i < run (lt key) (kas_place p k f l r)→kp key p i < kp key p k)∧(∀ i,run (lt key) (kas_place p k f l r)≤i→i < k→kp key p k < kp key p i)
  | 0,l,r,h1,h2,h3,h4,h5=>by
    have : l=r:=by lia
    subst this;exact ⟨h2,h4,h5⟩
  | f+1,l,r,h1,h2,h3,h4,h5=>by
    show run (lt key) (if l ≥ r then KasT.ret l else KasT.ask (p.getD k 0) (p.getD ((l+r) / 2) 0) fun c=>if c=true then kas_place p k f l ((l+r) / 2) else kas_place p k f ((l+r) / 2+1) r)≤k∧(∀ i,i < run (lt key) (kas_place p k (f+1) l r)→_)∧(∀ i,run (lt key) (kas_place p k (f+1) l r)≤i→_)
    by_cases c:l ≥ r
    · have : l=r:=by lia
      subst this;have e:run (lt key) (kas_place p k (f+1) l l)=l:=by
        show run (lt key) (if l ≥ l then KasT.ret l else _)=l;rw [if_pos c];rfl
      rw [if_pos c,e];exact ⟨h2,h4,h5⟩
    · have e:run (lt key) (kas_place p k (f+1) l r)=run (lt key) (if lt key (p.getD k 0) (p.getD ((l+r) / 2) 0)=true then kas_place p k f l ((l+r) / 2) else kas_place p k f ((l+r) / 2+1) r):=by
        show run (lt key) (if l ≥ r then KasT.ret l else KasT.ask (p.getD k 0) (p.getD ((l+r) / 2) 0) fun c=>if c=true then kas_place p k f l ((l+r) / 2) else kas_place p k f ((l+r) / 2+1) r)=_;rw [if_neg c];rfl
      have e':run (lt key) (if l ≥ r then KasT.ret l else KasT.ask (p.getD k 0) (p.getD ((l+r) / 2) 0) fun c=>if c=true then kas_place p k f l ((l+r) / 2) else kas_place p k f ((l+r) / 2+1) r)=run (lt key) (kas_place p k (f+1) l r):=rfl;rw [e',e];by_cases d:lt key (p.getD k 0) (p.getD ((l+r) / 2) 0)=true
      · rw [if_pos d];have d':kp key p k < kp key p ((l+r) / 2):=of_decide_eq_true d;refine j6 up ap f l ((l+r) / 2) (by lia) (by lia) (by lia) h4 fun i hi hk=>?_;by_cases hi':i=(l+r) / 2
        · subst hi';exact d'
        · have:=up ((l+r) / 2) i (by lia) hk;lia
      · rw [if_neg d];have d':¬ kp key p k < kp key p ((l+r) / 2):=fun z=>d (decide_eq_true z);have ne:=ap ((l+r) / 2) (by lia);refine j6 up ap f ((l+r) / 2+1) r (by lia) h2 (by lia) (fun i hi=>?_) h5;by_cases hi':i=(l+r) / 2
        · subst hi';lia
        · have:=up i ((l+r) / 2) (by lia) (by lia);lia
theorem sE {p:Array Nat} {k d x:Nat} (hk:k < p.size) (hd:d≤k):kp key (bubble p k d) x=if x=k - d then kp key p k else if k - d < x∧x≤k then kp key p (x - 1) else kp key p x:=by
  have e:=getElem?_bubble hk d hd x;have g:∀ (a b:Array Nat) (i j:Nat),a[i]?=b[j]?→a.getD i 0=b.getD j 0:=fun a b i j h=>by
    rw [aaD,aaD,h]
  unfold kp;by_cases h1:x=k - d
  · rw [if_pos h1] at e ⊢;rw [g _ _ _ _ e]
  · rw [if_neg h1] at e ⊢;by_cases h2:k - d < x∧x≤k
    · rw [if_pos h2] at e ⊢;rw [g _ _ _ _ e]
    · rw [if_neg h2] at e ⊢;rw [g _ _ _ _ e]
theorem u_ {n:Nat}:∀ (f:Nat) (p:Array Nat) (k:Nat),p.size=n→k+f=n→jC key p n→Up key p k→(run (lt key) (kas_bin f p k)).Perm p∧Up key (run (lt key) (kas_bin f p k)) n
  | 0,p,k,hs,hk,ap,up=>⟨Array.Perm.refl _,by (have : k=n:=by lia);subst this;exact up⟩
  | f+1,p,k,hs,hk,ap,up=>by
    have e:run (lt key) (kas_bin (f+1) p k)=run (lt key) (kas_bin f (bubble p k (k - run (lt key) (kas_place p k k 0 k))) (k+1)):=fz _ _ _;have pl:=j6 (key:=key) (p:=p) (k:=k) up (fun i hi z=>by have:=ap i k (by lia) (by lia) z;lia) k 0 k (aaO _) (aae _) (by lia) (fun i hi=>absurd hi (Nat.not_lt_zero _)) (fun i h1 h2=>by lia);rw [e];generalize run (lt key) (kas_place p k k 0 k)=l at pl;obtain ⟨l1,l2,l3⟩:=pl;have hkp:k < p.size:=by lia
    have kb:∀ x,kp key (bubble p k (k - l)) x=if x=l then kp key p k else if l < x∧x≤k then kp key p (x - 1) else kp key p x:=fun x=>by
      have:=sE (key:=key) (x:=x) hkp (Nat.sub_le k l);rw [show k - (k - l)=l by lia] at this;exact this
    have up':Up key (bubble p k (k - l)) (k+1):=fun i j hij hj=>by
      rw [kb i,kb j];by_cases i1:i=l
      · rw [if_pos i1,if_neg (by lia),if_pos ⟨by lia,by lia⟩];exact l3 _ (by lia) (by lia)
      · rw [if_neg i1];by_cases i2:l < i∧i≤k
        · rw [if_pos i2,if_neg (by lia),if_pos ⟨by lia,by lia⟩];exact up _ _ (by lia) (by lia)
        · rw [if_neg i2];by_cases j1:j=l
          · rw [if_pos j1];exact l2 _ (by lia)
          · rw [if_neg j1];by_cases j2:l < j∧j≤k
            · rw [if_pos j2];have a1:=l2 i (by lia);have a2:=l3 (j - 1) (by lia) (by lia);lia
            · rw [if_neg j2];exact up _ _ (by lia) (by lia)
    have ap':jC key (bubble p k (k - l)) n:=fun i j hi hj z=>by
      rw [kb i,kb j] at z;by_cases i1:i=l
      · rw [if_pos i1] at z;by_cases j1:j=l
        · lia
        · rw [if_neg j1] at z;by_cases j2:l < j∧j≤k
          · rw [if_pos j2] at z;have:=ap _ _ (by lia) (by lia) z;lia
          · rw [if_neg j2] at z;have:=ap _ _ (by lia) (by lia) z;lia
      · rw [if_neg i1] at z;by_cases i2:l < i∧i≤k
        · rw [if_pos i2] at z;by_cases j1:j=l
          · rw [if_pos j1] at z;have:=ap _ _ (by lia) (by lia) z;lia
          · rw [if_neg j1] at z;by_cases j2:l < j∧j≤k
            · rw [if_pos j2] at z;have:=ap _ _ (by lia) (by lia) z;lia
            · rw [if_neg j2] at z;have:=ap _ _ (by lia) (by lia) z;lia
        · rw [if_neg i2] at z;by_cases j1:j=l
          · rw [if_pos j1] at z;have:=ap _ _ (by lia) (by lia) z;lia
          · rw [if_neg j1] at z;by_cases j2:l < j∧j≤k
            · rw [if_pos j2] at z;have:=ap _ _ (by lia) (by lia) z;lia
            · rw [if_neg j2] at z;exact ap _ _ (by lia) (by lia) z
    have ih:=u_ f (bubble p k (k - l)) (k+1) (by rw [bubble_size];exact hs) (by lia) ap' up';exact ⟨ih.1.trans (bubble_perm _ _ _),ih.2⟩
theorem sort_ok {n:Nat} (h1:1≤n) (inj:∀ i j,i < n→j < n→key i=key j→i=j) :
    (run (lt key) (kas_sort n)).Perm (ab0 (aaQ n))∧Up key (run (lt key) (kas_sort n)) n:=by
  have g:∀ i,i < n→(ab0 (aaQ n)).getD i 0=i:=fun i hi=>by
    rw [aaD];simp [hi]
  have ap:jC key (ab0 (aaQ n)) n:=fun i j hi hj z=>by
    unfold kp at z;rw [g i hi,g j hj] at z;exact inj i j hi hj z
  obtain ⟨m,p',e1,m1,m2,pp,up⟩:=uT (key:=key) h1 (by simp) ap;have e:run (lt key) (kas_sort n)=run (lt key) (if m < n then kas_bin (n - max m 1) p' (max m 1) else KasT.ret p'):=by
    show run (lt key) ((kas_count n (ab0 (aaQ n))).bind _)=_;rw [fz,e1]
  rw [e];by_cases c:m < n
  · rw [if_pos c,show max m 1=m by lia];have hsz:p'.size=n:=by rw [pp.size_eq];simp
    have ap':jC key p' n:=fun i j hi hj z=>by
      have gi:p'.getD i 0=p'[i]'(by lia):=by rw [aaD];simp [hsz,hi]
      have gj:p'.getD j 0=p'[j]'(by lia):=by rw [aaD];simp [hsz,hj]
      have mi:p'[i]'(by lia)∈ab0 (aaQ n):=pp.mem_iff.mp (Array.getElem_mem _);have mj:p'[j]'(by lia)∈ab0 (aaQ n):=pp.mem_iff.mp (Array.getElem_mem _);have li:p'[i]'(by lia) < n:=by simpa using mi
      have lj:p'[j]'(by lia) < n:=by simpa using mj
      unfold kp at z;rw [gi,gj] at z;have q:=inj _ _ li lj z;have nd:p'.toList.Nodup:=by
        have : (aaQ n).Nodup:=List.nodup_range;exact (pp.toList.nodup_iff).mpr (by simpa using this)
      have hi':i < p'.toList.length:=by simpa [hsz] using hi
      have hj':j < p'.toList.length:=by simpa [hsz] using hj
      exact (List.getElem_inj nd (h₀:=hi') (h₁:=hj')).mp (by simpa using q)
    have b:=u_ (key:=key) (n:=n) (n - m) p' m hsz (by lia) ap' up;exact ⟨b.1.trans pp,b.2⟩
  · rw [if_neg c];have : m=n:=by lia
    subst this;exact ⟨pp,up⟩
end
end Srt
namespace Srt
open PySem PySem.W PyProof.Rows
def Safe {α:Type} (n:Nat):KasT α→(α→Prop)→Prop
  | .ret a,Q=>Q a
  | .ask i j k,Q=>i < n∧j < n∧∀ b,Safe n (k b) Q
theorem Safe.bind {α β:Type} {n:Nat} {f:α→KasT β} {Q:α→Prop} {R:β→Prop}:∀ {t:KasT α},Safe n t Q→(∀ a,Q a→Safe n (f a) R)→Safe n (t.bind f) R
  | .ret a,h,k=>k a h
  | .ask i j g,h,k=>⟨h.1,h.2.1,fun b=>Safe.bind (h.2.2 b) k⟩
theorem wp_safe {α:Type} {n:Nat} {cmp:Nat→Nat→(Bool→Shared→Prop)→Shared→Prop} {lt:Nat→Nat→Bool} {s:Shared} {R:α→Prop} (h:∀ i j (C:Bool→Shared→Prop),i < n→j < n→C (lt i j) s→cmp i j C s):∀ (t:KasT α) (Q:α→Shared→Prop),Safe n t R→Q (run lt t) s→t.kasWp cmp Q s
  | .ret _,_,_,q=>q
  | .ask i j k,Q,z,q=>h i j _ z.1 z.2.1 (wp_safe h (k (lt i j)) Q (z.2.2 _) q)
def Ent (n:Nat) (p:Array Nat):Prop:=∀ x,p.getD x 0 < n
theorem Ent.of_perm {n:Nat} {p q:Array Nat} (hn:0 < n) (h:q.Perm p) (e:Ent n p):Ent n q:=fun x=>by
  rw [aaD];by_cases hx:x < q.size
  · have m:q[x]∈p:=h.mem_iff.mp (Array.getElem_mem hx);obtain ⟨i,hi,ei⟩:=Array.mem_iff_getElem.mp m;have:=e i;rw [aaD] at this;simp only [Array.getElem?_eq_getElem hi,Option.getD_some] at this;simp only [Array.getElem?_eq_getElem hx,Option.getD_some];rw [← ei];exact this
  · simp [hx,hn]
theorem jX {n:Nat} {p:Array Nat} (e:Ent n p):∀ (f m:Nat),Safe n (kas_asc p f m) (fun _=>True)
  | 0,_=>trivial
  | f+1,m=>⟨e _,e _,fun b=>by
    cases b with
    | true=>exact trivial
    | false=>exact jX e f (m+1)⟩
theorem gN {n:Nat} (hn:0 < n):∀ (f:Nat) (p:Array Nat) (m q:Nat),Ent n p→Safe n (kas_desc f p m q) (fun r=>Ent n r.1)
  | 0,p,m,q,e=>e
  | f+1,p,m,q,e=>⟨e _,e _,fun b=>by
    cases b with
    | true =>
      show Safe n (if q > 0 then _ else _) _;split
      · exact gN hn f _ _ _ (Ent.of_perm hn (mirror_perm _ _ _ _) e)
      · exact gN hn f _ _ _ e
    | false=>exact ⟨e _,e _,fun d=>by
        cases d with
        | true=>exact e
        | false=>exact gN hn f _ _ _ e⟩⟩
theorem jW {n:Nat} (hn:0 < n) {p:Array Nat} (e:Ent n p) (a b:Nat):Safe n (kas_tail3 a b p) (fun r=>Ent n r.2) :=
  Safe.bind (jX (Ent.of_perm hn (mirror_perm _ _ _ _) e) _ _) fun _ _=>Ent.of_perm hn (mirror_perm _ _ _ _) e
theorem g9 {n:Nat} (hn:0 < n) {p:Array Nat} (e:Ent n p) (a b:Nat):Safe n (kas_descPart a b p) (fun r=>Ent n r.2) :=
  Safe.bind (gN hn _ _ _ _ e) fun r er=>by
    show Safe n (if r.2.2 > 0 then _ else _) _;split
    · exact jW hn (Ent.of_perm hn (mirror_perm _ _ _ _) er) _ _
    · exact jW hn er _ _
theorem qd {n:Nat} (hn:0 < n) {p:Array Nat} (e:Ent n p) (b:Nat):Safe n (kas_count b p) (fun r=>Ent n r.2) :=
  Safe.bind (jX e _ _) fun r _=>by
    show Safe n (if (r == b)=true then _ else _) _;split
    · exact e
    · split
      · exact ⟨e _,e _,fun c=>by
          cases c with
          | true=>exact e
          | false=>exact g9 hn (Ent.of_perm hn (mirror_perm _ _ _ _) e) _ _⟩
      · exact g9 hn e _ _
theorem ic {n:Nat} {p:Array Nat} (e:Ent n p) (k:Nat):∀ (f l r:Nat),Safe n (kas_place p k f l r) (fun _=>True)
  | 0,_,_=>trivial
  | f+1,l,r=>by
    show Safe n (if l ≥ r then _ else _) _;split
    · exact trivial
    · exact ⟨e _,e _,fun c=>by
        cases c with
        | true=>exact ic e k f _ _
        | false=>exact ic e k f _ _⟩
theorem oq {n:Nat} (hn:0 < n):∀ (f:Nat) (p:Array Nat) (k:Nat),Ent n p→Safe n (kas_bin f p k) (fun _=>True)
  | 0,_,_,_=>trivial
  | f+1,p,k,e=>Safe.bind (ic e k _ _ _) fun l _=>oq hn f _ _ (Ent.of_perm hn (bubble_perm _ _ _) e)
theorem safe_sort {n:Nat} (hn:0 < n):Safe n (kas_sort n) (fun _=>True):=by
  have e:Ent n (ab0 (aaQ n)):=fun x=>by
    rw [aaD];by_cases h:x < n
    · simp [h]
    · simp [h,hn]
  exact Safe.bind (qd hn e n) fun r er=>by
    show Safe n (if r.1 < n then _ else _) _;split
    · exact oq hn _ _ _ er
    · exact trivial
section
variable {prog:Program} {w:World} {A:Around} {E:Value→Shared→Prop} {s:Shared}
theorem pZ {a:Addr} {vs:List Value} {n:Nat} {P:PySem.Fin→Shared→Prop} (hoL:s.heap.get? a=some (seqObj "list" vs.toArray n)) (h2:vs.length < 2)
    (h:P (.done (.ret .none)) { s with heap:=sortedHeap s.heap a vs ((pairsOf vs).map (·.2)) }):wpAny (model prog w) A (Builtin.«list.sort» ⟨[.ref a],[]⟩) P E s:=by
  have hz:vs.length≤sizeLine:=by rw [sizeLine_eq];lia
  have ha:a < s.heap.objs.size:=aat hoL;rw [list_sort_plain];refine wpAny_bind (listItems_at hoL rfl (wpAny_bind (listUpdate_at hoL rfl ?_ (by rw [aah];exact hz) (aaO _))));obtain ⟨e1,ho1⟩:∃ e1,(s.heap.update a (aaU fun _=>(#[]:Array Value))).get? a=some (seqObj "list" #[] e1):=⟨_,get?_update_seq hoL fun _=>#[]⟩
  refine wpAny_bind (seqEpoch_at ho1 rfl (wpAny_bind (wpAny_newTuple (wpAny_bind (wpAny_newList (wpAny_holding ?_) (aaO _))) hz)));have ho6:(((s.heap.update a (aaU fun _=>(#[]:Array Value))).push (seqObj "tuple" vs.toArray 0)).push (seqObj "list" #[] 0)).get? a=some (seqObj "list" #[] e1):=by
    rw [Heap.get?_push_ne _ _ _ (by rw [size_push',Heap.size_update];exact aaE (abR ha)),Heap.get?_push_ne _ _ _ (by rw [Heap.size_update];exact aaE ha)];exact ho1
  show wpAny (model prog w) A _ P E { s with heap:=(((s.heap.update a (aaU fun _=>#[])).push (seqObj "tuple" vs.toArray 0)).push (seqObj "list" #[] 0)) };dsimp only;have hs2:vs.toArray.size < 2:=by rw [aah];exact h2
  rw [if_pos hs2,if_pos hs2];refine wpAny_bind (wpAny_pure ?_);rw [StateT.run_pure];refine wpAny_bind (wpAny_pure ?_);dsimp only;refine wpAny_bind (seqEpoch_at ho6 rfl (wpAny_bind (listUpdate_at ho6 rfl ?_ (aaO _) (by rw [Array.size_map];show (pairsOf vs).size≤_;rw [pairsOf_size];lia))));simp only [bne_self_eq_false,Bool.false_eq_true,if_false];exact wpAny_pure h
theorem sorted_small {l:Addr} {vs:List Value} {Q:Value→Shared→Prop} (hl:s.heap.IsList l vs.toArray) (h2:vs.length < 2)
    (h:Q (.ref (s.heap.objs.size+1)) { s with heap:=sortedAll s.heap vs ((pairsOf vs).map (·.2)) }):wpAny (model prog w) A (call (.builtin "sorted") [.ref l]) Q E s:=by
  have hz:vs.length≤sizeLine:=by rw [sizeLine_eq];lia
  apply Calls.call_function_entry kind_sorted plain_sorted entry_sorted (args_sorted1 _);unfold Builtin.«sorted»;refine wpAny_bind (m:=checkCount "sorted" 1 1 _) (wpAny_pure (wpAny_bind (collect_list hl (wpAny_bind (wpAny_newList ?_ hz)) hz)));have e0:((s.heap.push (seqObj "list" #[] 0)).update s.heap.objs.size (aaU (·++vs.toArray))).objs.size=s.heap.objs.size+1:=by rw [Heap.size_update,size_push']
  have hoL:(((s.heap.push (seqObj "list" #[] 0)).update s.heap.objs.size (aaU (·++vs.toArray))).push (seqObj "list" vs.toArray 0)).get? (s.heap.objs.size+1)=some (seqObj "list" vs.toArray 0):=by rw [← e0];exact aaB _ rfl
  show wpAny _ _ _ _ _ { s with heap:=(((s.heap.push (seqObj "list" #[] 0)).update s.heap.objs.size (aaU (·++vs.toArray))).push (seqObj "list" vs.toArray 0)) };rw [e0];refine wpAny_bind (wpAny_holding (wpAny_call_entry slot_list_sort ⟨_,hoL,rfl⟩ entry_list_sort (pZ hoL h2 ⟨_,rfl,wpAny_pure ⟨_,rfl,h⟩⟩) (args_list_sort _)))
end
end Srt
set_option maxHeartbeats 2000000
namespace L2
open PySem PySem.Spec PyProof.Rows
inductive EqR (K:aaa) (H:Hp):Nat→V→V→Bool→Prop
  | flat {n:Nat} {x y:V} (fx:gL x=true) (fy:gL y=true):EqR K H n x y (eqV x y)
  | lens {n:Nat} {a b:Addr} {xs ys:List V} (ha:SqL K H a xs) (hb:SqL K H b ys) (hl:xs.length≠ys.length):EqR K H (n+1) (.ref a) (.ref b) false
  | lst {n:Nat} {a b:Addr} {xs ys:List V} {e:Nat→Bool} (ha:SqL K H a xs) (hb:SqL K H b ys) (hl:xs.length=ys.length) (h:∀ (j:Nat) x y,xs[j]?=some x→ys[j]?=some y→EqR K H n x y (e j)):EqR K H (n+1) (.ref a) (.ref b) ((aaQ xs.length).all e)
  | tup {n:Nat} {a b:Addr} {xs ys:List V} {e:Nat→Bool} (ha:SqT K H a xs) (hb:SqT K H b ys) (h:∀ (j:Nat) x y,xs[j]?=some x→ys[j]?=some y→EqR K H n x y (e j)) :
      EqR K H (n+1) (.ref a) (.ref b) ((aaQ (min xs.length ys.length)).all e && xs.length == ys.length)
theorem uI {x:V} (f:gL x=true):eqV x x=true:=by
  cases x <;> first|rfl|(simp [eqV];done)|exact absurd (show false=true from f) aar
section
variable {X:Cx} {pins:List (Addr × Obj)} {σ:St} {H:Hp} {s:Shared}
theorem EqR.self (I:Inv X pins σ H s) {n:Nat} {x y:V} {b:Bool} (h:EqR X.K H n x y b):x=y→b=true:=by
  induction h with
  | flat fx fy=>intro e;subst e;exact uI fx
  | lens ha hb hl =>
    intro e;injection e with e;subst e
    exact absurd (by rw [I.list_inj ha hb]) hl
  | @lst n a b xs ys e ha hb hl h ih =>
    intro q;injection q with q;subst q
    obtain rfl:=I.list_inj ha hb;rw [aa4];intro j hj;have hj':j < xs.length:=aaV.mp hj;exact ih j _ _ (aad hj') (aad hj') rfl
  | @tup n a b xs ys e ha hb h ih =>
    intro q;injection q with q;subst q
    obtain rfl:=I.tuple_inj ha hb;rw [abt,aa4];refine ⟨fun j hj=>?_,beq_self_eq_true _⟩;have hj':j < xs.length:=by have:=aaV.mp hj;lia
    exact ih j _ _ (aad hj') (aad hj') rfl
theorem dY {xs:List V} {its:List Value} (r:Vals xs its) {j:Nat} (h:j < its.toArray.size):∃ x,xs[j]?=some x∧RelV x its.toArray[j]:=by
  have hl:=r.length;have h':j < xs.length:=by rw [hl];simpa using h
  obtain ⟨u,hu,ru⟩:=r.get (aad h');refine ⟨_,aad h',?_⟩;have e:its.toArray[j]=u:=by
    have : its[j]?=some u:=hu;rw [aad (by simpa using h)] at this;simpa using aa1 this
  rw [e];exact ru
theorem EqR.at (I:Inv X pins σ H s) {n:Nat} {x y:V} {b:Bool} (h:EqR X.K H n x y b):∀ {A:Around} {u v:Value},RelV x u→RelV y v→A.units+n < cLine→SeqAt.EqAt A s u v b:=by
  induction h with
  | flat fx fy=>intro A u v rx ry hu;exact uL rx ry fx fy
  | @lens n a b xs ys ha hb hl =>
    intro A u v rx ry hu;cases rx;cases ry;obtain ⟨its,r,pl,_⟩:=I.list ha;obtain ⟨its2,r2,pl2,_⟩:=I.list hb;have ne:a≠b:=fun e=>by subst e;exact hl (by rw [I.list_inj ha hb])
    refine .of_refs ne (.lists_lengths pl.isList pl2.isList ?_ (by lia));rw [aah,aah,← r.length,← r2.length];exact bne_iff_ne.mpr hl
  | @lst n a b xs ys e ha hb hl h ih =>
    intro A u v rx ry hu;by_cases q:a=b
    · have:=(EqR.lst ha hb hl h).self I (by rw [q]);cases rx;cases ry;rw [this];subst q;exact SeqAt.EqAt.same _
    · cases rx;cases ry;obtain ⟨its,r,pl,_⟩:=I.list ha;obtain ⟨its2,r2,pl2,_⟩:=I.list hb;have e1:its.toArray.size=xs.length:=by rw [aah,r.length]
      rw [← e1];refine .of_refs q (.lists pl.isList pl2.isList (by rw [aah,aah,← r.length,← r2.length];exact hl) (by lia) fun j h1 h2=>?_);obtain ⟨x,hx,rx⟩:=dY r h1;obtain ⟨y,hy,ry⟩:=dY r2 h2;exact ih j x y hx hy rx ry (by show A.units+1+n < cLine;lia)
  | @tup n a b xs ys e ha hb h ih =>
    intro A u v rx ry hu;by_cases q:a=b
    · have:=(EqR.tup ha hb h).self I (by rw [q]);cases rx;cases ry;rw [this];subst q;exact SeqAt.EqAt.same _
    · cases rx;cases ry;obtain ⟨its,r,pl,_⟩:=I.tuple ha;obtain ⟨its2,r2,pl2,_⟩:=I.tuple hb;have e1:its.toArray.size=xs.length:=by rw [aah,r.length]
      have e2:its2.toArray.size=ys.length:=by rw [aah,r2.length]
      rw [← e1,← e2];refine .of_refs q (.tuples pl pl2 (by lia) fun j h1 h2=>?_);obtain ⟨x,hx,rx⟩:=dY r h1;obtain ⟨y,hy,ry⟩:=dY r2 h2;exact ih j x y hx hy rx ry (by show A.units+1+n < cLine;lia)
def yP (K:aaa) (neg:Bool):R2:=fun x y H Q=>∃ n a b xs ys,n≤60∧x=.ref a∧y=.ref b∧SqL K H a xs∧SqL K H b ys ∧
  ((xs.length≠ys.length∧Q (.bl neg) H)∨∃ e:Nat→Bool,xs.length=ys.length∧(∀ (j:Nat) x y,xs[j]?=some x→ys[j]?=some y→EqR K H n x y (e j))∧Q (.bl (if neg then !(aaQ xs.length).all e else (aaQ xs.length).all e)) H)
theorem mX (hu:X.A.units+64 < cLine):OpR X (compareOp .NotEq) (yP X.K true):=by
  intro pins s σ H x y v u Q I rx ry h;obtain ⟨n,a,b,xs,ys,hn,rfl,rfl,ha,hb,h⟩:=h;cases rx;cases ry;obtain ⟨its,r,pl,_⟩:=I.list ha;obtain ⟨its2,r2,pl2,_⟩:=I.list hb;have e1:its.toArray.size=xs.length:=by rw [aah,r.length]
  have e2:its2.toArray.size=ys.length:=by rw [aah,r2.length]
  rcases h with ⟨hl,q⟩|⟨e,hl,he,q⟩
  · exact SeqAt.RcNeAt.lists_lengths pl.isList pl2.isList (by rw [e1,e2];exact bne_iff_ne.mpr hl) (by lia) _ _ _ _ ⟨.bl true,H,I,rfl,q⟩
  · refine SeqAt.RcNeAt.lists (e:=e) pl.isList pl2.isList (by rw [e1,e2];exact hl) (by lia) (fun j h1 h2=>?_) _ _ _ _ ?_
    · obtain ⟨x,hx,rx⟩:=dY r h1;obtain ⟨y,hy,ry⟩:=dY r2 h2;exact (he j x y hx hy).at I rx ry (by show X.A.units+1+n < cLine;lia)
    · rw [e1];exact ⟨.bl _,H,I,rfl,q⟩
end
abbrev PairIn (H:Hp) (p:Int × Int) (v:V):Prop:=∃ a,v=.ref a∧H a=some (.tup [.int p.1,.int p.2])
abbrev PairsIn (H:Hp):List (Int × Int)→List V→Prop:=Paired (PairIn H)
def jE (p:Int × Int):Int:=p.1 * 1000+p.2
def xJ (ps:List (Int × Int)):Prop:=(∀ p∈ps,0≤p.2∧p.2 < 1000)∧ps.Nodup
theorem vt {p q:Int × Int} (h1:0≤p.2∧p.2 < 1000) (h2:0≤q.2∧q.2 < 1000):(if p.1=q.1 then decide (p.2 < q.2) else decide (p.1 < q.1))=decide (jE p < jE q):=by
  unfold jE;split
  · rename_i e;rw [e];by_cases c:p.2 < q.2
    · rw [decide_eq_true c,decide_eq_true (by lia)]
    · rw [decide_eq_false c,decide_eq_false (by lia)]
  · rename_i e;by_cases c:p.1 < q.1
    · rw [decide_eq_true c,decide_eq_true (by lia)]
    · rw [decide_eq_false c,decide_eq_false (by lia)]
theorem tN {p q:Int × Int} (h1:0≤p.2∧p.2 < 1000) (h2:0≤q.2∧q.2 < 1000) (e:jE p=jE q):p=q:=by
  unfold jE at e;have a:p.1=q.1:=by lia
  have b:p.2=q.2:=by lia
  exact Prod.ext a b
theorem Inv.adopt2 {X:Cx} {pins:List (Addr × Obj)} {σ:St} {H:Hp} {s:Shared} {a:Addr} {o:HO} (I:Inv X pins σ H s) (hn:H a=none) (hx:∀ u,X.s₀.heap.get? a≠some u) (hL:a≠X.env.locals) (hC:∀ x c,X.env.cells.lookup x=some c→c≠a) (hp:∀ p∈X.pn++pins,p.1≠a)
    (new:ObjOk X.prog X.w (upd H a o) s.heap a o):Inv X pins σ (upd H a o) s:=by
  have ne:∀ b u,X.s₀.heap.get? b=some u→b≠a:=fun b u e z=>hx u (by rw [← z];exact e);refine ⟨I.ok,I.os,I.bare,⟨I.base.keep,I.base.slot,fun b u e n hx=>?_,I.base.there,fun b xs e=>?_,fun b u xs e=>?_,fun b ps e=>?_⟩,I.loc,I.cell,?_,fun x c e=>?_,fun p hq=>?_,fun b u e=>?_,I.len⟩
  · rw [aw (ne b u e)];exact I.base.free b u e n hx
  · have q:=I.base.tups b xs e;rw [aw (ak q hn)];exact q
  · have q:=I.base.frzs b u xs e;rw [aw (ak q hn)];exact q
  · obtain ⟨m,q⟩:=I.base.tbls b ps e;exact ⟨m,by rw [aw (ak q hn)];exact q⟩
  · rw [aw (abC hL)];exact I.free
  · rw [aw (hC x c e)];exact I.freeC x c e
  · obtain ⟨h1,h2,h3⟩:=I.pin p hq;exact ⟨h1,by rw [aw (hp p hq)];exact h2,h3⟩
  · by_cases hb:b=a
    · subst hb;rw [ae] at e;cases e;exact new
    · rw [aw hb] at e;exact (I.hok b u e).stay (fun c v _ q=>q) (fun c q=>by rw [aw (ak q hn)];exact q) fun c xs q=>by rw [aw (ak q hn)];exact q
open PySem PySem.Spec PyProof.Rows
theorem ObjOk.get {P:Program} {w:World} {H:Hp} {h:Heap} {a:Addr} {o:HO} (x:ObjOk P w H h a o):∃ u,h.get? a=some u:=by
  cases o with
  | lst xs=>obtain ⟨_,_,_,_,e⟩:=x;exact ⟨_,e⟩
  | tup xs=>obtain ⟨_,_,_,o,e,_⟩:=x;exact ⟨_,e⟩
  | dK kvs=>obtain ⟨_,_,_,_,o,_,_,e,_⟩:=x;exact ⟨_,e⟩
  | dT kvs=>obtain ⟨_,_,_,_,o,_,_,e,_⟩:=x;exact ⟨_,e⟩
  | set S n=>obtain ⟨o,_,_,_,e,_⟩:=x;exact ⟨_,e⟩
  | ins C dx fs=>obtain ⟨_,_,_,e,_⟩:=x;exact ⟨_,e⟩
  | own y=>obtain ⟨_,e⟩:=x;exact ⟨_,e⟩
  | xd fs=>obtain ⟨_,⟨_,_,_,e,_⟩,_⟩:=x;exact ⟨_,e⟩
  | rng lo hi=>obtain ⟨_,_,_,e⟩:=x;exact ⟨_,e⟩
  | frz ob u=>obtain ⟨e,_⟩:=x;exact ⟨_,e⟩
  | tbl ps=>exact ⟨_,(show h.get? a=some _ from x)⟩
  | met f y=>exact ⟨_,(show h.get? a=some _ from x)⟩
  | ext φ=>obtain ⟨_,⟨_,e⟩,_⟩:=x;exact ⟨_,e⟩
theorem kQ {α:Type} (xs:List α) (d:α):(aaQ xs.length).map (fun i=>xs.getD i d)=xs:=by
  apply List.ext_getElem
  · simp
  · intro i h1 h2;simp [h2]
theorem iS {vs:List V} {its:List Value} (r:Vals vs its) {i:Nat} (h:i < vs.length):RelV (vs.getD i .non) (its.getD i .none):=by
  obtain ⟨u,hu,ru⟩:=r.get (aad h);have e1:vs.getD i .non=vs[i]:=by simp [h]
  have e2:its.getD i .none=u:=by rw [aay,hu];rfl
  rw [e1,e2];exact ru
theorem fX {H:Hp}:∀ {ps:List (Int × Int)} {vs:List V} {i:Nat},PairsIn H ps vs→i < vs.length→PairIn H (ps.getD i (0,0)) (vs.getD i .non)
  | _,_,_,.nil,h=>absurd h (Nat.not_lt_zero _)
  | _,_,0,.cons a _,_=>by simpa using a
  | _,_,i+1,.cons _ b,h=>by simpa using fX (i:=i) b (by simpa using h)
theorem iq {α β:Type} {F:α→β→Prop} {f:Nat→α} {g:Nat→β}:∀ {l:List Nat},(∀ i∈l,F (f i) (g i))→Paired F (l.map f) (l.map g)
  | [],_=>.nil
  | i :: l,h=>.cons (h i aav) (iq fun j hj=>h j (aai _ hj))
section
variable {X:Cx}
theorem mw {H:Hp} {h':Heap} (tk:∀ a (p:Int × Int),H a=some (.tup [.int p.1,.int p.2])→∃ o k t1 t2,h'.get? a=some o∧o.cls=.type "tuple"∧o.data=.seq #[.int p.1 t1,.int p.2 t2] k) :
    ∀ {ps:List (Int × Int)} {vs:List V} {its:List Value},PairsIn H ps vs→Vals vs its→∃ fs,PySem.W.KatTups h' its fs∧fs.length=its.length∧∀ v∈fs,∃ i t,v=Value.int i t
  | _,_,_,.nil,.nil=>⟨[],.nil,rfl,(fun _ h=>nomatch h)⟩
  | _,_,_,.cons a b,.cons r t=>by
    obtain ⟨fs,h1,h2,h3⟩:=mw tk b t;obtain ⟨ad,e,ha⟩:=a;subst e;cases r;obtain ⟨o,k,t1,t2,g1,g2,g3⟩:=tk ad _ ha;refine ⟨.int _ t1 :: fs,.cons g1 g2 g3 rfl h1,congrArg (·+1) h2,fun v hv=>?_⟩;rcases aao.mp hv with rfl|hv
    · exact ⟨_,_,rfl⟩
    · exact h3 v hv
theorem vz {prog:Program} {w:World} {A:Around} {s:Shared} {a b:Addr} {oa ob:Obj} {ka kb:Nat} {p q:Int × Int} {t1 t2 u1 u2:Tok} {C:Bool→Shared→Prop} (h1:s.heap.get? a=some oa) (d1:oa.data=.seq #[.int p.1 t1,.int p.2 t2] ka)
    (h2:s.heap.get? b=some ob) (d2:ob.data=.seq #[.int q.1 u1,.int q.2 u2] kb) (hp:0≤p.2∧p.2 < 1000) (hq:0≤q.2∧q.2 < 1000) (h:C (decide (jE p < jE q)) s) :
    wpAny (model prog w) A (keyLt' (tuples' true) (.ref a) (.ref b)) C (fun _ _=>False) s:=by
  rw [← vt hp hq] at h;refine PySem.W.kat_lt h1 d1 h2 d2 ?_;show PySem.W.KatLex prog w A true (decide (2 < 2)) C [(.int p.1 t1,.int q.1 u1),(.int p.2 t2,.int q.2 u2)] 0 s;refine PySem.W.kat_cons (ab8 p.1 t1 q.1 u1 prog w _ _ ?_);by_cases c:p.1=q.1
  · rw [if_pos c] at h;have e:(p.1 == q.1)=true:=beq_iff_eq.mpr c;rw [e];refine PySem.W.kat_yes (PySem.W.kat_cons (ab8 p.2 t2 q.2 u2 prog w _ _ ?_));by_cases c2:p.2=q.2
    · have e2:(p.2 == q.2)=true:=beq_iff_eq.mpr c2;rw [e2];refine PySem.W.kat_yes (PySem.W.kat_nil ?_);rw [decide_eq_false (show ¬ p.2 < q.2 by lia)] at h;exact h
    · have e2:(p.2 == q.2)=false:=beq_eq_false_iff_ne.mpr c2;rw [e2];refine PySem.W.kat_no (PySem.W.kat_one _ _ (lt_int ?_));exact h
  · rw [if_neg c] at h;have e:(p.1 == q.1)=false:=beq_eq_false_iff_ne.mpr c;rw [e];refine PySem.W.kat_no ?_;exact oneLt_int h
theorem nN (hx:X.ex=[]):dG X (.builtin "sorted") (fun xs H Q=>∃ p vs ps,xs=[.ref p]∧H p=some (.lst vs)∧PairsIn H ps vs∧ps.length < 64∧xJ ps ∧
    ∀ q qs vs',H q=none→qs.Perm ps→(qs.map jE).Pairwise (· < ·)→PairsIn H qs vs'→Q (.ref q) (upd H q (.lst vs'))):=by
  intro pins s σ H xs us Q I r h;obtain ⟨p,vs,ps,rfl,hH,hp,h64,fine,q⟩:=h;obtain ⟨u,rfl,ru⟩:=gm r;cases ru;obtain ⟨z,its,n,rv,hl,e⟩:=I.lstM hH;have hlen:ps.length=vs.length:=ab6 hp;by_cases h2:its.length < 2
  · refine Srt.sorted_small (vs:=its) ⟨_,e,rfl,_,rfl⟩ h2 ?_;have eo:(pairsOf its).map (·.2)=its.toArray:=by
      match its,h2 with
      | [],_=>simp [pairsOf]
      | [v],_=>simp [pairsOf]
    rw [eo];obtain ⟨c,hc⟩:=sortedAll_at s.heap its its.toArray;have I1:=I.laid (a:=s.heap.objs.size+1) (o:=.lst vs) (t':=s.toks) (fun b o q=>sortedAll_old (vs:=its) (out:=its.toArray) q) (acr _) ⟨z,its,c,rv,hc⟩;refine ⟨.ref _,_,I1,rfl,q _ ps vs (I.hok.fresh (acr _)) (List.Perm.refl _) ?_ hp⟩
    match ps,hlen with
    | [],_=>exact List.Pairwise.nil
    | [a],_=>exact List.pairwise_singleton _ _
    | a :: b :: r,hlen=>simp at hlen;lia
  · obtain ⟨m,F⟩:=I.fr;refine PySem.W.kat_sorted F (news:=gW X.base s.heap X.env.locals) uk ⟨_,e,rfl,_,rfl⟩ (by lia) (by lia) ?_;intro D e1 h' F' N' hD;have nD:=N' (D,_) aav;have keptG:∀ {g:Heap} {o1:Obj},Fr X.base X.env.locals g m→News X.base X.env.locals g ((D,o1) :: gW X.base s.heap X.env.locals)→∀ b o,b≠X.env.locals→s.heap.get? b=some o→g.get? b=some o:=fun {g o1} Fg Ng b o hb q=>by
      cases w:X.base.get? b with
      | some u =>
        have:=F.keep b u w;rw [q] at this;cases this;exact Fg.keep b _ w
      | none=>exact (Ng (b,o) (aai _ (jw hb w q))).1
    have fresh:s.heap.get? D=none:=by
      cases g:s.heap.get? D with
      | none=>rfl
      | some o=>exact absurd (hD (D,o) (jw nD.2.1 nD.2.2 g)) (abm _)
    have neL:∀ b o,H b=some o→b≠X.env.locals:=fun b o e z=>by rw [z,I.free] at e;cases e
    have tk:∀ a (p:Int × Int),H a=some (.tup [.int p.1,.int p.2])→∃ o k t1 t2,h'.get? a=some o∧o.cls=.type "tuple"∧o.data=.seq #[.int p.1 t1,.int p.2 t2] k:=fun a p ha=>by
      obtain ⟨_,its',r',o,g1,g2,k,g3⟩:=I.hok a _ ha;obtain ⟨u1,u2,rfl,⟨t1,rfl⟩,⟨t2,rfl⟩⟩:=nV r';exact ⟨o,k,t1,t2,keptG F' N' a o (neL a _ ha) g1,g2,g3⟩
    obtain ⟨fs,t1,t2,t3⟩:=mw tk hp rv;refine PySem.W.kat_kind (s:={ s with heap:=h' }) (T:=.type "int") t1 (by lia) (fun v hv=>by obtain ⟨i,t,rfl⟩:=t3 v hv;exact PySem.W.Looks.of_pure rfl) (by decide) ?_;have nv:its.length=vs.length:=hl.symm;have kin:∀ i,i < its.length→0≤(ps.getD i (0,0)).2∧(ps.getD i (0,0)).2 < 1000:=fun i hi=>by
      have hi':i < ps.length:=by lia
      have e:ps.getD i (0,0)=ps[i]:=by simp [hi']
      rw [e];exact fine.1 _ (abz hi')
    refine Srt.wp_safe (n:=its.length) (lt:=Srt.lt fun i=>jE (ps.getD i (0,0))) (fun i j C hi hj hC=>?_) _ _ (Srt.safe_sort (by lia)) ?_
    · obtain ⟨a1,ea1,ha1⟩:=fX (i:=i) hp (by lia);obtain ⟨a2,ea2,ha2⟩:=fX (i:=j) hp (by lia);have r1:=iS rv (i:=i) (by lia);have r2:=iS rv (i:=j) (by lia);rw [ea1] at r1;rw [ea2] at r2;obtain ⟨o1,k1,x1,y1,g1,_,d1⟩:=tk a1 _ ha1;obtain ⟨o2,k2,x2,y2,g2,_,d2⟩:=tk a2 _ ha2;show wpAny _ _ (keyLt' (tuples' true) (its.getD i .none) (its.getD j .none)) C (fun _ _=>False) { s with heap:=h' };rw [show its.getD i .none=.ref a1 from r1,show its.getD j .none=.ref a2 from r2];exact vz (s:={ s with heap:=h' }) g1 d1 g2 d2 (kin i hi) (kin j hj) hC
    · have so:=Srt.sort_ok (n:=its.length) (key:=fun i=>jE (ps.getD i (0,0))) (by lia) fun i j hi hj ek=>by
        have pe:=tN (kin i hi) (kin j hj) ek;have hi':i < ps.length:=by lia
        have hj':j < ps.length:=by lia
        have e1:ps.getD i (0,0)=ps[i]:=by simp [hi']
        have e2:ps.getD j (0,0)=ps[j]:=by simp [hj']
        rw [e1,e2] at pe;exact (List.getElem_inj fine.2).mp pe
      generalize Srt.run (Srt.lt fun i=>jE (ps.getD i (0,0))) (PySem.W.kas_sort its.length)=pm at so;obtain ⟨so1,so2⟩:=so;have so1':pm.toList.Perm (aaQ its.length):=by simpa using so1.toList
      have ml:pm.toList.length=its.length:=by rw [so1'.length_eq];simp
      have mem:∀ i∈pm.toList,i < its.length:=fun i hi=>aaV.mp (so1'.mem_iff.mp hi);refine PySem.W.KasFin.intro F' N' (PySem.W.UpdF.head fun p hp=>aaE (hD p hp)) fun h'' c F'' N''=>?_;have kp:=keptG F'' N'';have gD:=(N'' (D,_) aav).1;have I1:Inv X pins σ H { s with heap:=h'' }:=by
        refine I.step (g':=s.gens) (d':=s.drawn) (t':=s.toks) (ch:=[]) (fun _ z=>nomatch z) (fun b o hb _ _ e _=>kp b o hb e) (fun b o hb _ _ e _=>⟨o.slots,kp b o hb e⟩) (fun _ _ _ _ n=>n) (fun b o _ e=>?_) (fun _ _ e=>e) (fun _ _ _ e=>e) (fun b ps e=>⟨#[],by rw [e];simp⟩) (fun m' hm=>?_) (fun b u e=>?_) I.bare
        · by_cases hb:b=X.env.locals
          · obtain ⟨o',_,_,g,_⟩:=F''.ns;exact ⟨o',by rw [hb];exact g⟩
          · exact ⟨o,kp b o hb e⟩
        · have : m'=m:=by
            obtain ⟨o1,es1,ep1,g1,d1,_,f1⟩:=hm;obtain ⟨o2,es2,ep2,g2,d2,_,f2⟩:=F.ns;rw [g1] at g2;cases g2;rw [d1] at d2;cases d2;funext x;rw [← f1 x,← f2 x]
          rw [this];exact F''.ns
        · refine (I.hok b u e).stay (fun c' v hc q=>kp c' v ?_ q) (fun _ q=>q) fun _ _ q=>q;rcases hc with rfl|hc
          · exact neL _ _ e
          · exact neL _ _ hc
      have hnD:H D=none:=by
        cases g:H D with
        | none=>rfl
        | some o =>
          obtain ⟨u,hu⟩:=(I.hok D o g).get;rw [fresh] at hu;cases hu
      have vv:Vals (pm.toList.map fun i=>vs.getD i .non) (pm.toList.map fun i=>its.getD i .none):=iq fun i hi=>iS rv (by have:=mem i hi;lia);have I2:=I1.adopt2 (o:=.lst (pm.toList.map fun i=>vs.getD i .non)) hnD (fun u hu=>by
          obtain ⟨o',q⟩:=I.base.there D u hu (by rw [hx];simp);rw [fresh] at q;cases q) nD.2.1 (fun x c e z=>by
          obtain ⟨v,o,ho,_⟩:=I.cell x c e;rw [z,fresh] at ho;cases ho) (fun p hp z=>by
          have:=(I.pin p hp).1;rw [z,fresh] at this;cases this) ⟨(by rw [aak,ml];lia),_,c,vv,gD⟩
      refine ⟨.ref D,_,I2,rfl,q D (pm.toList.map fun i=>ps.getD i (0,0)) _ hnD ?_ ?_ (iq fun i hi=>fX hp (by have:=mem i hi;lia))⟩
      · have:=so1'.map fun i=>ps.getD i (0,0);rw [show its.length=ps.length by lia,kQ] at this;exact this
      · rw [List.map_map,List.pairwise_iff_getElem];intro i j hi hj hij;rw [aak] at hi hj;have:=so2 i j hij (by lia);unfold Srt.kp at this;have gi:pm.getD i 0=pm.toList[i]:=by rw [aaD];simp at hi;simp [hi]
        have gj:pm.getD j 0=pm.toList[j]:=by rw [aaD];simp at hj;simp [hj]
        rw [gi,gj] at this;simpa using this
end
open PySem PySem.Spec PyProof.Rows
theorem jz {c A B:Prop} [Decidable c] (hc:c) (h:A):if decide c=true then A else B:=by
  rw [if_pos (decide_eq_true hc)];exact h
theorem gJ {c A B:Prop} [Decidable c] (hc:¬ c) (h:B):if decide c=true then A else B:=by
  rw [if_neg (fun e=>hc (of_decide_eq_true e))];exact h
section
variable {X:Cx} {K:aaa}
theorem iO (hK:X.K=K):IxR X (wR K):=by subst hK;exact bv
theorem nY (hK:X.K=K):SlR X (xZ K):=by subst hK;exact dS
theorem iG {es:List Expr} {k:Nat} {pos:Pos} {t:TGs} {n:Nat} (hK:X.K=K) (hc:X.calm=true) (h:PGs X es t)
    (hn:(assignEach es X.env).length=n:=by rfl) (hst:(assignEach es X.env).findIdx? (·.1)=none:=by rfl):PG X (.Tuple es k pos) (yn K n t):=by subst hK;exact eK hc h hn hst
theorem tP {tg l:Expr} {tl:TE} (hK:X.K=K) (hl:PE X l tl):PI X tg l (wk K tl):=by subst hK;exact bu hl
theorem qR {tg l:Expr} {tl:TE} (hK:X.K=K) (hl:PE X l tl):PI X tg l (yj K tl):=by subst hK;exact tO hl
end
def Nxt (n i:Nat) (P:Prop):Prop:=∃ m',m' < n - i∧m'=n - (i+1)∧i+1≤n∧P
theorem vK {K:aaa} {a:Addr} {xs:List V} {cap:List (Option Nat)} {g:TG} {tt:TT} {te:TE} {σ:St} {H:Hp} {Q:VK} (Pv:Nat→List V→Hp→Prop) (h0:Pv 0 [] H) (hl:∀ i ys H,i≤xs.length→Pv i ys H→SqL K H a xs∧ys.length < sizeLine)
    (hs:∀ i x ys H,xs[i]?=some x→Pv i ys H→(∀ {P:Prop},P→Nxt xs.length i P)→g x (da cap σ) H fun σ2 H2=>tt σ2 H2 fun b H3=>if b=true then te σ2 H3 fun v H4=>Nxt xs.length i (Pv (i+1) (ys++[v]) H4) else Nxt xs.length i (Pv (i+1) ys H3)) (hd:∀ ys H,Pv xs.length ys H→∀ p,H p=none→Q (.ref p) (upd H p (.lst ys))) :
    vY cap g tt te σ Q (Itl K a) H:=by
  refine ⟨fun i m ys H=>m=xs.length - i∧i≤xs.length∧Pv i ys H,⟨xs.length,by simp,aaO _,h0⟩,?_⟩;rintro i m ys H ⟨rfl,hi,p⟩;have q:=hl i ys H hi p;by_cases hlt:i < xs.length
  · refine .inr ⟨⟨xs,xs[i],q.1,by simp [hlt]⟩,q.2,fun x H' y=>?_⟩;obtain ⟨e,y⟩:=y;subst e;exact hs i x ys _ (y xs q.1) p fun h=>⟨_,by lia,rfl,hlt,h⟩
  · have e:i=xs.length:=by lia
    subst e;exact .inl ⟨⟨xs,q.1,aae _⟩,hd ys H p⟩
theorem uv {lo:Int} {n:Nat} {cap:List (Option Nat)} {g:TG} {tt:TT} {te:TE} {σ:St} {H:Hp} {Q:VK} (Pv:Nat→List V→Hp→Prop) (h0:Pv 0 [] H) (hl:∀ i ys H,i≤n→Pv i ys H→ys.length < sizeLine)
    (hs:∀ i ys H,i < n→Pv i ys H→(∀ {P:Prop},P→Nxt n i P)→g (.int (lo+i)) (da cap σ) H fun σ2 H2=>tt σ2 H2 fun b H3=>if b=true then te σ2 H3 fun v H4=>Nxt n i (Pv (i+1) (ys++[v]) H4) else Nxt n i (Pv (i+1) ys H3)) (hd:∀ ys H,Pv n ys H→∀ p,H p=none→Q (.ref p) (upd H p (.lst ys))) :
    vY cap g tt te σ Q (Itr lo n) H:=by
  refine ⟨fun i m ys H=>m=n - i∧i≤n∧Pv i ys H,⟨n,by simp,aaO _,h0⟩,?_⟩;rintro i m ys H ⟨rfl,hi,p⟩;have q:=hl i ys H hi p;by_cases hlt:i < n
  · refine .inr ⟨hlt,q,fun x H' y=>?_⟩;obtain ⟨e,y⟩:=y;subst e y;exact hs i ys _ hlt p fun h=>⟨_,by lia,rfl,hlt,h⟩
  · have e:i=n:=by lia
    subst e;exact .inl ⟨aae _,hd ys H p⟩
theorem cF {H:Hp} {ps:List (Int × Int)} {vs:List V} (p:PairsIn H ps vs):∀ {j:Nat} {x:V},vs[j]?=some x→∃ p,ps[j]?=some p∧PairIn H p x:=by
  induction p with
  | nil=>intro j x h;cases h
  | cons a b ih =>
    intro j x h;cases j with
    | zero=>cases h;exact ⟨_,rfl,a⟩
    | succ j=>exact ih (j:=j) h
open PySem PySem.Spec PyProof.Rows
def yg:Key→PyData
  | .inl i=>.int i
  | .inr x=>.str x
mutual
def Dat (H:Hp):PyData→V→Prop
  | .none,v=>v=.non
  | .bool b,v=>v=.bl b
  | .int i,v=>v=.int i
  | .str x,v=>v=.str x
  | .list ds,v=>∃ a xs,v=.ref a∧H a=some (.lst xs)∧DatAll H ds xs
  | .tuple ds,v=>∃ a xs,v=.ref a∧H a=some (.tup xs)∧DatAll H ds xs
  | .dict kvs,v=>∃ a ks,v=.ref a∧H a=some (.dK ks)∧DatKv H kvs ks
def DatAll (H:Hp):List PyData→List V→Prop
  | [],vs=>vs=[]
  | d :: ds,vs=>∃ v r,vs=v :: r∧Dat H d v∧DatAll H ds r
def DatKv (H:Hp):List (PyData × PyData)→List (Key × V)→Prop
  | [],ks=>ks=[]
  | (k,d) :: r,ks=>∃ q v t,ks=(q,v) :: t∧k=yg q∧Dat H d v∧DatKv H r t
end
mutual
theorem Dat.mono {H H':Hp} (g:Same H H'):∀ (d:PyData) (v:V),Dat H d v→Dat H' d v
  | .none,v,h=>h
  | .bool b,v,h=>h
  | .int i,v,h=>h
  | .str x,v,h=>h
  | .list ds,v,h=>by
    simp only [Dat] at h ⊢;obtain ⟨a,xs,e,h1,h2⟩:=h;exact ⟨a,xs,e,g _ _ h1,DatAll.mono g ds xs h2⟩
  | .tuple ds,v,h=>by
    simp only [Dat] at h ⊢;obtain ⟨a,xs,e,h1,h2⟩:=h;exact ⟨a,xs,e,g _ _ h1,DatAll.mono g ds xs h2⟩
  | .dict kvs,v,h=>by
    simp only [Dat] at h ⊢;obtain ⟨a,xs,e,h1,h2⟩:=h;exact ⟨a,xs,e,g _ _ h1,DatKv.mono g kvs xs h2⟩
theorem DatAll.mono {H H':Hp} (g:Same H H'):∀ (ds:List PyData) (vs:List V),DatAll H ds vs→DatAll H' ds vs
  | [],vs,h=>h
  | d :: ds,vs,h=>by
    simp only [DatAll] at h ⊢;obtain ⟨v,r,e,h1,h2⟩:=h;exact ⟨v,r,e,Dat.mono g d v h1,DatAll.mono g ds r h2⟩
theorem DatKv.mono {H H':Hp} (g:Same H H'):∀ (kvs:List (PyData × PyData)) (ks:List (Key × V)),DatKv H kvs ks→DatKv H' kvs ks
  | [],ks,h=>h
  | (k,d) :: r,ks,h=>by
    simp only [DatKv] at h ⊢;obtain ⟨q,v,t,e1,e2,h1,h2⟩:=h;exact ⟨q,v,t,e1,e2,Dat.mono g d v h1,DatKv.mono g r t h2⟩
end
theorem DatAll.len {H:Hp}:∀ {ds:List PyData} {vs:List V},DatAll H ds vs→ds.length=vs.length
  | [],vs,h=>by simp only [DatAll] at h;rw [h];rfl
  | d :: ds,vs,h=>by
    simp only [DatAll] at h;obtain ⟨v,r,rfl,_,h2⟩:=h;rw [aaF,aaF,DatAll.len h2]
theorem DatAll.app {H:Hp}:∀ {as:List PyData} {vs:List V} {bs:List PyData} {us:List V},DatAll H as vs→DatAll H bs us→DatAll H (as++bs) (vs++us)
  | [],vs,bs,us,h,k=>by simp only [DatAll] at h;subst h;exact k
  | d :: as,vs,bs,us,h,k=>by
    simp only [DatAll] at h;obtain ⟨v,r,rfl,h1,h2⟩:=h;show DatAll H (d :: (as++bs)) (v :: (r++us));simp only [DatAll];exact ⟨v,_,rfl,h1,DatAll.app h2 k⟩
def off (w:Addr) (H:Hp):Hp:=fun b=>if b=w then none else H b
theorem a9 {w b:Addr} {H:Hp} (h:b≠w):off w H b=H b:=if_neg h
theorem qX {w:Addr} {H H':Hp} (g:But w H H'):Same (off w H) (off w H'):=fun b o h=>by
  by_cases c:b=w
  · unfold off at h;rw [if_pos c] at h;cases h
  · rw [a9 c] at h ⊢;exact g b o c h
def pE:PyData→String
  | .none=>"NoneType"
  | .bool _=>"bool"
  | .int _=>"int"
  | .str _=>"str"
  | .list _=>"list"
  | .tuple _=>"tuple"
  | .dict _=>"dict"
theorem Dat.ty {K:aaa} {H:Hp} {d:PyData} {v:V} (h:Dat H d v):TyOf K H v (.type (pE d)):=by
  cases d with
  | none=>simp only [Dat] at h;subst h;exact .non
  | bool b=>simp only [Dat] at h;subst h;exact .bl b
  | int i=>simp only [Dat] at h;subst h;exact .int i
  | str x=>simp only [Dat] at h;subst h;exact .str x
  | list ds=>simp only [Dat] at h;obtain ⟨a,xs,rfl,e,_⟩:=h;exact .lst e
  | tuple ds=>simp only [Dat] at h;obtain ⟨a,xs,rfl,e,_⟩:=h;exact .tup e
  | dict kvs=>simp only [Dat] at h;obtain ⟨a,xs,rfl,e,_⟩:=h;exact .dK e
section
variable {X:Cx} {pins:List (Addr × Obj)} {σ:St} {H:Hp} {s:Shared}
theorem Inv.nosys (I:Inv X pins σ H s) {a:Addr} {o:HO} (h:H a=some o):a≠sysModules:=fun e=>by
  obtain ⟨mm,ob,es,ep,g,_⟩:=I.mod.sysm;have:=(I.bs _ _ g).2;rw [← e,h] at this;cases this
theorem sF {P:Program} {w:World} {h:Heap} {q:Key} {v:Value} (e:(bA P w).is q v=true):Reads h v (yg q) []:=by
  rw [qk] at e;rcases bN e with ⟨i,t,rfl,rfl⟩|⟨x,t,rfl,rfl⟩
  · exact .int i t
  · exact .str x t
mutual
theorem Dat.reads (I:Inv X pins σ H s):∀ (d:PyData) (v:V) (u:Value),Dat H d v→RelV v u→∃ as,Reads s.heap u d as∧sysModules∉as
  | .none,v,u,h,r=>by
    simp only [Dat] at h;subst h;cases r;exact ⟨_,.none,by simp⟩
  | .bool b,v,u,h,r=>by
    simp only [Dat] at h;subst h;cases r;exact ⟨_,.bool b,by simp⟩
  | .int i,v,u,h,r=>by
    simp only [Dat] at h;subst h;obtain ⟨t,rfl⟩:=r;exact ⟨_,.int i t,by simp⟩
  | .str x,v,u,h,r=>by
    simp only [Dat] at h;subst h;obtain ⟨t,rfl⟩:=r;exact ⟨_,.str x t,by simp⟩
  | .list ds,v,u,h,r=>by
    simp only [Dat] at h;obtain ⟨a,xs,rfl,hr,hd⟩:=h;cases r;obtain ⟨its,rv,⟨o,n,e1,e2,_,e3⟩,_⟩:=I.list (SqL.of hr);obtain ⟨as,ra,na⟩:=DatAll.reads I ds xs its hd rv;have ho:=hr;refine ⟨_,.list e1 e2 e3 (by simpa using ra),fun z=>?_⟩;rcases aao.mp z with z|z
    · exact I.nosys ho z.symm
    · exact na z
  | .tuple ds,v,u,h,r=>by
    simp only [Dat] at h;obtain ⟨a,xs,rfl,hr,hd⟩:=h;cases r;obtain ⟨its,rv,⟨o,e1,e2,n,e3⟩,_⟩:=I.tuple (SqT.of hr);obtain ⟨as,ra,na⟩:=DatAll.reads I ds xs its hd rv;exact ⟨_,.tuple e1 e2 e3 (by simpa using ra),na⟩
  | .dict kvs,v,u,h,r=>by
    simp only [Dat] at h;obtain ⟨a,ks,rfl,hr,hd⟩:=h;cases r;obtain ⟨_,_,vs,rel,o,es,ep,e1,ex,e3,_,pr,_⟩:=uP I.hok hr;obtain ⟨as,bs,ra,rb,na,nb⟩:=DatKv.reads I kvs ks vs es.toList hd rel pr;have ho:=hr;refine ⟨_,.dict e1 ex.1 e3 ra rb,fun z=>?_⟩;rcases aap.mp z with z|z
    · rcases aao.mp z with z|z
      · exact I.nosys ho z.symm
      · exact na z
    · exact nb z
theorem DatAll.reads (I:Inv X pins σ H s):∀ (ds:List PyData) (vs:List V) (us:List Value),DatAll H ds vs→Vals vs us→∃ as,ReadsAll s.heap us ds as∧sysModules∉as
  | [],vs,us,h,r=>by
    simp only [DatAll] at h;subst h;cases r;exact ⟨_,.nil,by simp⟩
  | d :: ds,vs,us,h,r=>by
    simp only [DatAll] at h;obtain ⟨v,t,rfl,h1,h2⟩:=h;cases r with
    | cons r1 r2 =>
      obtain ⟨as,ra,na⟩:=Dat.reads I d v _ h1 r1;obtain ⟨bs,rb,nb⟩:=DatAll.reads I ds t _ h2 r2;exact ⟨_,.cons ra rb,fun z=>(aap.mp z).elim na nb⟩
theorem DatKv.reads (I:Inv X pins σ H s):∀ (kvs:List (PyData × PyData)) (ks:List (Key × V)) (vs:List (Key × Value)) (es:List DictEntry),DatKv H kvs ks→KV ks vs→Pairs (bA X.prog X.w) es vs →
    ∃ as bs,ReadsAll s.heap (es.map (·.key)) (kvs.map (·.1)) as∧ReadsAll s.heap (es.map (·.val)) (kvs.map (·.2)) bs∧sysModules∉as∧sysModules∉bs
  | [],ks,vs,es,h,r,p=>by
    simp only [DatKv] at h;subst h;cases r;cases p;exact ⟨_,_,.nil,.nil,by simp,by simp⟩
  | (k,d) :: kr,ks,vs,es,h,r,p=>by
    simp only [DatKv] at h;obtain ⟨q,v,t,rfl,rfl,h1,h2⟩:=h;cases r with
    | cons r1 r2 =>
      cases p with
      | cons p1 p2 p3 =>
        obtain ⟨rk,rv⟩:=r1;obtain ⟨as,bs,ra,rb,na,nb⟩:=DatKv.reads I kr t _ _ h2 r2 p3;obtain ⟨cs,rc,nc⟩:=Dat.reads I d v _ h1 rv;have rk':q=_:=rk;subst rk';have kd:=sF (h:=s.heap) p1;refine ⟨[]++as,cs++bs,.cons kd ra,.cons (by dsimp only;rw [p2];exact rc) rb,by simpa using na,fun z=>(aap.mp z).elim nc nb⟩
end
theorem gU (hg:X.A.guards=some []) (hu:X.A.units+64 < cLine):dG X (.builtin "repr") (fun xs H Q=>∃ x d,xs=[x]∧Dat H d x∧d.showable=true∧d.depth≤60∧d.shown.length≤sizeLine∧Q (.str d.shown) H):=by
  intro pins s σ H xs us Q I r h;obtain ⟨x,d,rfl,hd,hs,hdp,hl,q⟩:=h;obtain ⟨u,rfl,ru⟩:=gm r;have key:∀ a,u=.ref a→wpAny (model X.prog X.w) X.A (call (.builtin "repr") [u]) (EP X pins σ Q) X.xe s:=fun a e=>by
    subst e;obtain ⟨as,ra,na⟩:=Dat.reads I d x _ hd ru;refine repr_of_reads' ra hs (fun _=>na) hg (by lia) (fun _ _ e=>e) (fun h' u tk hk=>?_) hl;exact ⟨.str d.shown,H,I.kept hk,⟨u,rfl⟩,q⟩
  cases d with
  | none =>
    simp only [Dat] at hd;subst hd;cases ru;rw [PyData.shown_none] at q;exact PySem.P.repr_of_none ⟨.str "None",H,I.tok _,⟨_,rfl⟩,q⟩
  | bool b =>
    simp only [Dat] at hd;subst hd;cases ru;rw [PyData.shown_bool] at q;exact PySem.P.repr_of_bool ⟨.str _,H,I.tok _,⟨_,rfl⟩,q⟩
  | int i =>
    simp only [Dat] at hd;subst hd;obtain ⟨t,rfl⟩:=ru;rw [PyData.shown_int] at q;exact PySem.P.repr_of_int (by simpa [abn] using hs) ⟨.str _,H,I.tok _,⟨_,rfl⟩,q⟩
  | str z =>
    simp only [Dat] at hd;subst hd;obtain ⟨t,rfl⟩:=ru;rw [PyData.shown_str] at q hl;exact PySem.P.repr_of_str ⟨.str _,H,I.tok _,⟨_,rfl⟩,q⟩ hl
  | list ds =>
    have hd':=hd;simp only [Dat] at hd';obtain ⟨a,_,rfl,_⟩:=hd';exact key a ru
  | tuple ds =>
    have hd':=hd;simp only [Dat] at hd';obtain ⟨a,_,rfl,_⟩:=hd';exact key a ru
  | dict kvs =>
    have hd':=hd;simp only [Dat] at hd';obtain ⟨a,_,rfl,_⟩:=hd';exact key a ru
end
open PySem PySem.Spec PyProof.Rows
section
variable {X:Cx}
theorem rK {i:Int} (h:i.natAbs < 2 ^ 4000):Builtin.Int.intBits i≤2 ^ 20:=by
  have : Builtin.Int.intBits i≤4000:=by
    unfold Builtin.Int.intBits;by_cases c:i=0
    · simp [c]
    · rw [if_neg (by simpa using c)];have h4:i.natAbs≠0:=fun z=>c (Int.natAbs_eq_zero.mp z);exact (Nat.log2_lt h4).mpr h
  have e:(4000:Nat)≤2 ^ 20:=by decide
  lia
theorem iH:OpR X (binaryOp .Mult) (rI (fun i j=>i.natAbs < 2 ^ 4000∧j.natAbs < 2 ^ 4000) fun i j=>.int (i * j)):=opI fun _ _ _ _ _ _ _ hc q=>mul_int q (IntMulOk.of_bits (rK hc.1) (rK hc.2))
end
open PySem PySem.Spec PyProof.Rows
theorem Inv.turnedL {X:Cx} {pins:List (Addr × Obj)} {σ:St} {H:Hp} {s:Shared} {h':Heap} {t':Nat} {fp:List Addr} (I:Inv X pins σ H s) (k:∀ b o,b∉fp→s.heap.get? b=some o→h'.get? b=some o) (hf:∀ b∈fp,gl X pins H b):Inv X pins σ H { s with heap:=h',toks:=t' }:=by
  have nit:∀ b u,H b=some u→b∉fp:=fun b u e z=>by rw [(hf b z).1] at e;cases e
  refine I.step (g':=s.gens) (d':=s.drawn) (ch:=fp) (fun b hb=>⟨(hf b hb).2.2.2.1,(hf b hb).2.1,(hf b hb).2.2.2.2.1,(hf b hb).2.2.2.2.2⟩) (fun b o _ _ hc e _=>k b o hc e) (fun b o _ _ hc e _=>⟨o.slots,k b o hc e⟩) (fun _ _ _ _ n=>n)
    (fun b o hc e=>⟨o,k b o hc e⟩) (fun _ _ e=>e) (fun _ _ _ e=>e) (fun b ps e=>⟨#[],by rw [e];simp⟩) (fun m hm=>?_) (fun b u e=>?_) I.bare
  · obtain ⟨o,es,ep,ho,r⟩:=hm;exact ⟨o,es,ep,k _ o (fun z=>(hf _ z).2.1 rfl) ho,r⟩
  · refine (I.hok b u e).stay (fun c v hc q=>k c v ?_ q) (fun _ q=>q) fun _ _ q=>q;rcases hc with z|z
    · rw [z];exact nit b u e
    · exact nit c _ z
open PySem PySem.Spec PyProof.Rows
section
variable {prog:Program} {w:World} {κ:Type} [DecidableEq κ] {knd:HeapKind prog w κ} {A:Around} {E:Value→Shared→Prop} {s:Shared}
end
open PySem PySem.Spec PyProof.Rows
section
variable {prog:Program} {w:World} {κ:Type} [DecidableEq κ] {knd:HeapKind prog w κ} {A:Around} {E:Value→Shared→Prop} {s:Shared}
inductive HitsH (A:Around) (s:Shared) (kb:List (κ × Addr × Value)):List (κ × Addr × Value)→Bool→Prop
  | nil:HitsH A s kb [] true
  | miss {k:κ} {a:Addr} {v:Value} {r:List (κ × Addr × Value)}:atKey kb k=none→HitsH A s kb ((k,a,v) :: r) false
  | hit {k:κ} {a c:Addr} {v y:Value} {r:List (κ × Addr × Value)} {e b:Bool}:atKey kb k=some (c,y)→SeqAt.EqAt A s v y e→HitsH A s kb r b→HitsH A s kb ((k,a,v) :: r) (e && b)
end
open PySem PySem.Spec PyProof.Rows
inductive HitsV (K:aaa) (H:Hp) (n:Nat) (kb:List (List Key × V)):List (List Key × V)→Bool→Prop
  | nil:HitsV K H n kb [] true
  | miss {k:List Key} {v:V} {r:List (List Key × V)}:dR kb k=none→HitsV K H n kb ((k,v) :: r) false
  | hit {k:List Key} {v y:V} {r:List (List Key × V)} {e b:Bool}:dR kb k=some y→EqR K H n v y e→HitsV K H n kb r b→HitsV K H n kb ((k,v) :: r) (e && b)
open PySem PySem.Spec PyProof.Rows
section
variable {prog:Program} {w:World} {κ:Type} [DecidableEq κ] {knd:HeapKind prog w κ} {A:Around} {E:Value→Shared→Prop}
variable {s:Shared}
end
open PySem PySem.Spec PyProof.Rows
section
variable {prog:Program} {w:World} {A:Around} {E:Value→Shared→Prop} {s:Shared}
end
end L2
namespace L2
open PySem PySem.Spec PyProof.Rows PySem.W
section
variable {prog:Program} {w:World} {A:Around} {E:Value→Shared→Prop} {s:Shared}
end
end L2
namespace L2
theorem u1 {a:Nat} (h:a+64 < PySem.cLine):a+1 < PySem.cLine:=by lia
open PySem PySem.Spec PyProof.Rows
section
variable {prog:Program} {w:World} {A:Around} {E:Value→Shared→Prop} {s:Shared}
end
open PySem PySem.Spec PyProof.Rows
open PySem PySem.Spec PyProof.Rows
def Its (z:Str):It :=
  ⟨fun i _=>i < z.cps.size,fun i H x H'=>H'=H∧∃ c,z.cps[i]?=some c∧x=.str ⟨#[c]⟩,fun i _=>z.cps.size≤i⟩
theorem sX {P:Program} {w:World} {K:aaa} {tg:Expr} (it:Addr) (z:Str) (t:Tok):Turn P w K tg (Its z) [it] it (fun i h=>h.IsStrIter it "str_ascii_iterator" z t i) where
  mem:=by simp
  obj:=fun i h st b hb=>by
    have e:b=it:=by simpa using hb
    subst e;obtain ⟨o,e,c,d⟩:=st;exact ⟨o,e,fun v z=>by rw [d] at z;cases z⟩
  keep:=fun i h h' st k=>by
    obtain ⟨o,e,r⟩:=st;exact ⟨o,k it (by simp) o e,r⟩
  item:=by
    intro X hP hw hK hc i pins s σ H E I hf st hg;subst hP hw hK;have hg:i < z.cps.size:=hg;obtain ⟨f0,f1,f2,f3,f4,f5⟩:=hf it (by simp);have hx:z.cps[i]?=some z.cps[i]:=by simp [hg]
    refine wpAny_pyNext_ascii_item st (c:=z.cps[i]) hx fun h' st' sb=>?_;have I1:Inv X pins σ H { s with heap:=h',toks:=s.toks+1 }:=I.turned (t':=s.toks+1) (fun b o hb e=>(sb.2 b hb).trans e) f0 f1 f3 f4 f5;obtain ⟨o,e,c,d⟩:=id st';exact ⟨_,rfl,rj (s:={ s with heap:=h',toks:=s.toks+1 }) e c d (by decide) ⟨.str ⟨#[z.cps[i]]⟩,H,I1,⟨_,rfl⟩,⟨rfl,_,hx,rfl⟩,st',fun b hb=>(hf b hb).1⟩⟩
  done:=by
    intro X hP hw hK hc i pins s σ H E I hf st hg;subst hP hw hK;have hg:z.cps.size≤i:=hg;obtain ⟨f0,f1,f2,f3,f4,f5⟩:=hf it (by simp);exact wpAny_pyNext_ascii_end (I.ok.hd hc) st (by simp [hg]) fun h' eb=>⟨rfl,I.turned (t':=s.toks) (fun b o hb e=>eb b o hb e) f0 f1 f3 f4 f5⟩
  self:=fun _ _ _ _ _ st h=>wpAny_pyIter_striter_ascii st h
def yV (tl:TE):TI:=fun σ H R=>tl σ H fun x H1=>∃ z,x=.str z∧z.cps.all (· < 128)=true∧R (Its z) H1
theorem wW {X:Cx} {tg l:Expr} {tl:TE} (hl:PE X l tl):PI X tg l (yV tl):=by
  intro pins s σ H R I h;refine thn (hl pins s σ H _ I h) fun v s1 ⟨x,H1,I1,r1,q1⟩=>?_;obtain ⟨z,e,ha,q⟩:=q1;subst e;obtain ⟨t,rfl⟩:=r1;refine wpAny_pyIter_ascii ha ?_;refine ⟨s1.heap.objs.size,[s1.heap.objs.size],_,_,H1,rfl,I1.kept (t':=s1.toks) fun b o e=>aac _ e,sX _ z t,⟨_,aaB _ rfl,rfl,rfl⟩,fun b hb=>?_,q⟩;have e:b=s1.heap.objs.size:=by simpa using hb
  subst e;exact I1.fpOk (aae _) (I1.hok.fresh (aae _))
theorem vS {z:Str} {g:TG} {tb:TS} {D:Ends} {σ:St} {H:Hp} (Pv:Nat→St→Hp→Prop) (h0:Pv 0 σ H)
    (hs:∀ i c σ H,z.cps[i]?=some c→Pv i σ H→g (.str ⟨#[c]⟩) σ H fun σ2 H2=>tb { D with nx:=Pv (i+1),ct:=Pv (i+1),bk:=D.nx } σ2 H2) (hd:∀ σ H,Pv z.cps.size σ H→D.nx σ H) :
    ∃ W:Nat→Nat→St→Hp→Prop,(∃ m,W 0 m σ H)∧∀ i m σ H,W i m σ H →
      ((Its z).stop i H∧D.nx σ H)∨((Its z).go i H∧∃ N:St→Hp→Prop,(∀ σ' H',N σ' H'→∃ m',m' < m∧W (i+1) m' σ' H')∧∀ x H',(Its z).yld i H x H'→g x σ H' fun σ2 H2=>tb { D with nx:=N,ct:=N,bk:=D.nx } σ2 H2):=by
  refine ⟨fun i m σ H=>m=z.cps.size - i∧i≤z.cps.size∧Pv i σ H,⟨z.cps.size,by simp,aaO _,h0⟩,?_⟩;rintro i m σ H ⟨rfl,hi,p⟩;by_cases hlt:i < z.cps.size
  · refine .inr ⟨hlt,Pv (i+1),fun σ' H' p'=>⟨z.cps.size - (i+1),by lia,rfl,hlt,p'⟩,fun x H' y=>?_⟩;obtain ⟨e,c,y,ex⟩:=y;subst e ex;exact hs i c σ _ y p
  · have e:i=z.cps.size:=by lia
    subst e;exact .inl ⟨aae _,hd σ H p⟩
def yI (t u:TS):TS:=fun D σ H=>∃ J:St→Hp→Prop,t { D with nx:=J } σ H∧∀ σ' H',J σ' H'→u D σ' H'
theorem qP {X:Cx} {st:Stmt} {dz:List Stmt} {t u:TS} (h1:PS X st t) (h2:PSs X dz u):PSs X (st :: dz) (yI t u):=by
  intro pins s σ H D I h;obtain ⟨J,h,hJ⟩:=h;refine wpAny_execs_cons (thn (h1 pins s σ H { D with nx:=J } I h) fun f s1 q=>?_);cases f with
  | next =>
    obtain ⟨σ',H',I',q⟩:=q;exact h2 pins s1 σ' H' D I' (hJ σ' H' q)
  | ret v=>exact q
  | brk=>exact q
  | cont=>exact q
theorem dh {X:Cx}:OpR X (compareOp .IsNot) (fun x y H Q=>∃ b c,x=.bl b∧y=.bl c∧Q (.bl (!decide (b=c))) H):=by
  intro pins s σ H x y v u Q I rx ry h;obtain ⟨b,c,rfl,rfl,q⟩:=h;cases rx;cases ry;cases b <;> cases c <;> exact wpAny_pure (a_ I q rfl)
end L2
namespace PySem
open Sem (wp)
namespace F
end F
section
variable {prog:Program} {w:World} {A:Around} {E:Value→Shared→Prop} {h:Heap} {g:Array GenState} {d:Drawn} {t:Nat} {os:OsState} {a:Addr} {vs:Array Value}
end
end PySem
namespace L2
open PySem PySem.Spec PyProof.Rows
section
variable {prog:Program} {w:World} {A:Around} {E:Value→Shared→Prop} {s:Shared}
end
theorem Paired.app {α β:Type} {R:α→β→Prop} {a c:List α} {b d:List β} (h:Paired R a b) (k:Paired R c d):Paired R (a++c) (b++d):=by
  induction h with
  | nil=>exact k
  | cons x _ ih=>exact .cons x ih
open PySem PySem.Spec PyProof.Rows
theorem lu {X:Cx} (hc:X.calm=true):dG X (.builtin "all") (fun xs H Q=>∃ (p:Addr) (bs:List Bool),xs=[.ref p]∧SqL X.K H p (bs.map V.bl)∧Q (.bl (bs.all id)) H):=by
  intro pins s σ H xs us Q I r h;obtain ⟨p,bs,rfl,hq,q⟩:=h;obtain ⟨u,rfl,rx⟩:=gm r;cases rx;obtain ⟨its,r',pl,hz⟩:=I.list hq;have hlen:=r'.length;rw [aak] at hlen;have hps:p < s.heap.objs.size:=by obtain ⟨o,n,ho,_⟩:=pl;exact aat ho
  refine call_all_walk (wpAny_pyIter_list pl.isList ?_);refine ⟨s.heap.objs.size,_,_,_,_,_,fun i=>bs.getD i true,rfl,ace (A:=X.A.in1) (I.ok.hd hc) s.heap.objs.size p (aaE hps) its.toArray,⟨⟨_,aaB _ rfl,rfl,rfl⟩,pl.isList.at fun o x=>aac _ x⟩,?_,?_⟩
  · intro i v s' Q' E' hP hQ';have hv:its.toArray[i]?=some v:=hP;have hv2:its[i]?=some v:=by simpa using hv
    have hi:i < bs.length:=by
      have:=(aan.mp hv2).1;lia
    have hb:(bs.map V.bl)[i]?=some (.bl bs[i]):=by rw [aaX,aad hi];rfl
    obtain ⟨u,hu,ru⟩:=r'.get hb;rw [hv2] at hu;cases hu;cases ru;have e:bs.getD i true=bs[i]:=by rw [aay,aad hi];rfl
    have hQ2:Q' (bs.getD i true) s':=hQ';rw [e] at hQ2;exact wpAny_pure hQ2
  · intro h' tk k;have I2:Inv X pins σ H { s with heap:=h',toks:=tk }:=by
      refine I.turnedL (fp:=[s.heap.objs.size]) (t':=tk) (fun b o hb x=>k b o (by simpa using hb) (aac _ x)) fun b hb=>?_;have e:b=s.heap.objs.size:=by simpa using hb
      subst e;exact I.fpOk (aae _) (I.hok.fresh (aae _))
    have e:(aaQ its.toArray.size).all (fun i=>bs.getD i true)=bs.all id:=by
      have e1:its.toArray.size=bs.length:=by simp;lia
      rw [e1];apply Bool.eq_iff_iff.mpr;rw [aa4,aa4];constructor
      · intro hh b hb;obtain ⟨i,hi,e⟩:=aby hb;have:=hh i (aaV.mpr hi);rw [aay,aad hi] at this;rw [← e];exact this
      · intro hh i hi;have hi:=aaV.mp hi;rw [aay,aad hi];exact hh _ (abz hi)
    rw [e];exact ⟨.bl (bs.all id),H,I2,rfl,q⟩
open PySem PySem.Spec PyProof.Rows
open PySem PySem.Spec PyProof.Rows
theorem nJ {elt tg iter tg2 iter2:Expr} {ifs ifs2:List Expr} {G:List Comprehension} {k:Nat} (hk:G[k]?=some ⟨tg,iter,ifs,0⟩) (hk2:G[k+1]?=some ⟨tg2,iter2,ifs2,0⟩) {scope:Scope} {pos:Pos} {it acc:Value} {env:Env} :
    compTurn (.ListComp elt G scope pos) k it acc env=(do
      standAt iter.pos
      match ← pyNext it with
      | none=>pure (.done .next)
      | some v =>
        letOwnedTupleGo tg it v
        assign tg env v
        let mut ok:=true
        for c in ifs do
          if ok then ok ← isTrue c env (eval c env)
        if ok then do
          let x ← eval iter2 env
          standAt iter2.pos
          let x ← foldedSetIterable iter2 env x
          let i ← holding [x] (pyIter x)
          let _ ← runOwn (.compStart (.ListComp elt G scope pos) (k+1) i acc env) env
          again (.compLoop (.ListComp elt G scope pos) k it acc env)
        else again (.compLoop (.ListComp elt G scope pos) k it acc env)):=by
  unfold compTurn;simp only [hk,hk2];rfl
theorem qF {prog:Program} {w:World} {A:Around} {R:Result→Shared→Prop} {s:Shared} {elt tg iter tg2 iter2:Expr} {ifs ifs2:List Expr} {G:List Comprehension} {k:Nat} (hk:G[k]?=some ⟨tg,iter,ifs,0⟩) (hk2:G[k+1]?=some ⟨tg2,iter2,ifs2,0⟩) {scope:Scope} {pos:Pos} {it acc:Value} {env:Env} (J:Nat→Shared→Prop) (hs2:∀ x,foldedSetIterable iter2 env x=pure x)
    (turn:∀ n s,J n s→wpAny (model prog w) A (pyNext it) (fun r s₁=>match r with
      | none=>R (.ok .next) s₁
      | some v=>wpAny (model prog w) A (letOwnedTupleGo tg it v) (fun _ s₁'=>wpAny (model prog w) A (assign tg env v) (fun _ s₂ =>
          wpAny (model prog w) A (forIn ifs true fun c r=>if r=true then do let ok ← isTrue c env (eval c env);pure (ForInStep.yield ok) else pure (ForInStep.yield r)) (fun ok s₃ =>
            if ok=true then wpAny (model prog w) A (eval iter2 env) (fun x s₄=>wpAny (model prog w) A (pyIter x) (fun it2 s₅ =>
              codeAny (model prog w) A (.compStart (.ListComp elt G scope pos) (k+1) it2 acc env) (fun r s₆=>match r with|.ok _=>∃ m,m < n∧J m s₆|.error _=>False) s₅) (fun _ _=>False) s₄) (fun _ _=>False) s₃
            else ∃ m,m < n∧J m s₃) (fun _ _=>False) s₂) (fun _ _=>False) s₁') (fun _ _=>False) s₁) (fun _ _=>False) s)
    (n:Nat) (h:J n s) :
    codeAny (model prog w) A (.compLoop (.ListComp elt G scope pos) k it acc env) R s:=by
  refine codeAny_loop rfl J (fun n s hI=>?_) n h;show wpAny _ A ((compTurn (.ListComp elt G scope pos) k it acc env).onRaise (fun x=>do noteFrame x env;theTreesLotGoes x)) _ _ s;refine wpAny_noted ?_;rw [nJ hk hk2];refine wpAny_bind (wpAny_standAt (wpAny_bind (wpAny_mono (turn n s hI) (fun r s₁ h₁=>?_) fun _ _ h'=>h'.elim)));cases r with
  | none=>exact wpAny_pure h₁
  | some v =>
    refine wpAny_bind (wpAny_mono h₁ (fun _ s₁' h₁'=>?_) fun _ _ h'=>h'.elim);refine wpAny_bind (wpAny_mono h₁' (fun _ s₂ h₂=>wpAny_bind (wpAny_mono h₂ (fun ok s₃ h₃=>?_) fun _ _ h'=>h'.elim)) fun _ _ h'=>h'.elim);cases ok with
    | false=>exact wpAny_pure ⟨rfl,h₃⟩
    | true =>
      refine wpAny_bind (wpAny_mono h₃ (fun x s₄ h₄=>?_) fun _ _ h'=>h'.elim);refine wpAny_bind (wpAny_standAt (wpAny_bind (wpAny_of_eq (hs2 x) (wpAny_bind (wpAny_holding (wpAny_mono h₄ (fun it2 s₅ h₅=>?_) fun _ _ h'=>h'.elim))))));refine wpAny_bind (wpAny_runOwn (codeAny_mono h₅ fun r s₆ h₆=>?_));cases r with
      | ok f=>exact wpAny_pure ⟨rfl,h₆⟩
      | error e=>exact h₆.elim
theorem kZ {prog:Program} {w:World} {A:Around} {R:Result→Shared→Prop} {s:Shared} {elt tg2 iter2:Expr} {ifs2:List Expr} {G:List Comprehension} {k:Nat} (hk:G[k]?=some ⟨tg2,iter2,ifs2,0⟩) {scope:Scope} {pos:Pos} {it acc:Value} {env:Env}
    (h0:codeAny (model prog w) A (.compLoop (.ListComp elt G scope pos) k it acc env) R s)
    (h:wpAny (model prog w) A (pyIter it) (fun it' s'=>codeAny (model prog w) A (.compLoop (.ListComp elt G scope pos) k it' acc env) R s')
      (notedBy (model prog w) A env fun x s'=>R (.error x) s') s) :
    codeAny (model prog w) A (.compStart (.ListComp elt G scope pos) k it acc env) R s:=by
  refine codeAny_of_tree ?_;show wpAny _ _ ((compStart (.ListComp elt G scope pos) k it acc env).onRaise (fun x=>do noteFrame x env;standAt theWindowsPlace)) _ _ s;refine wpAny_notedAt ?_;unfold compStart;rw [show (clausesOf (.ListComp elt G scope pos))[k]?=some ⟨tg2,iter2,ifs2,0⟩ from hk];show wpAny _ _ (ask >>= _) _ _ s;refine wpAny_bind (wpAny_askSetting (wpAny_ite ?_));split
  · first
      | exact wpAny_bind (wpAny_pure (wpAny_pure (And.intro rfl h0)))
      | exact wpAny_pure (And.intro rfl h0)
  · first
      | exact wpAny_bind (wpAny_rule (wpAny_bind (wpAny_standAt (wpAny_bind (wpAny_mono h (fun it' s' h'=>wpAny_pure (And.intro rfl h')) fun _ _ x=>x)))))
      | (refine wpAny_bind (wpAny_rule ?_);show wpAny _ _ (standAt iter2.pos >>= _) _ _ s;exact wpAny_bind (wpAny_standAt (wpAny_bind (wpAny_mono h (fun it' s' h'=>wpAny_pure (And.intro rfl h')) fun _ _ x=>x))))
structure PCl (Y:Cx) (c:Comprehension) (r:TI × TG × TT):Prop where
  as:c.is_async=0
  it:PI Y c.target c.iter r.1
  tg:PG Y c.target r.2.1
  fs:iw Y c.ifs r.2.2
  st:∀ E x,foldedSetIterable c.iter E x=pure x
abbrev nU (g2:TG) (tt2:TT) (te:TE) (ys:List V) (σ2:St) (Fin:List V→St→Hp→Prop) (J2:It) (H4:Hp):Prop:=∃ W2:Nat→Nat→List V→St→Hp→Prop,(∃ m,W2 0 m ys σ2 H4)∧∀ i m ys σ H,W2 i m ys σ H →
  (J2.stop i H∧Fin ys σ H) ∨
  (J2.go i H∧ys.length < sizeLine∧∀ x H',J2.yld i H x H'→g2 x σ H' fun σ3 H5=>tt2 σ3 H5 fun b H6=>if b=true then te σ3 H6 fun v H7=>∃ m',m' < m∧W2 (i+1) m' (ys++[v]) σ3 H7 else ∃ m',m' < m∧W2 (i+1) m' ys σ3 H6)
abbrev LcT:List (TI × TG × TT)→TG→TT→TE→List V→St→(List V→St→Hp→Prop)→It→Hp→Prop
  | [],g,tt,te,ys,σ,Fn,J,H=>nU g tt te ys σ Fn J H
  | r :: rs,g,tt,te,ys,σ2,Fn,J2,H4=>∃ W2:Nat→Nat→List V→St→Hp→Prop,(∃ m,W2 0 m ys σ2 H4)∧∀ i m ys σ H,W2 i m ys σ H →
    (J2.stop i H∧Fn ys σ H) ∨
    (J2.go i H∧∀ x H',J2.yld i H x H'→g x σ H' fun σ3 H5=>tt σ3 H5 fun b H6=>if b=true then r.1 σ3 H6 (LcT rs r.2.1 r.2.2 te ys σ3 fun ys' σ' H7=>∃ m',m' < m∧W2 (i+1) m' ys' σ' H7) else ∃ m',m' < m∧W2 (i+1) m' ys σ3 H6)
def xI (Y:Cx) (D:Addr) (P:List (Addr × Obj)) (Fin:List V→St→Hp→Prop) (s:Shared):Prop:=∃ ys its k σ H,Inv Y (Lp D its k :: P) σ H s∧Vals ys its∧ys.length≤sizeLine∧Fin ys σ H
def ww (Y:Cx) (D:Addr) (elt:Expr) (te:TE) (G:List Comprehension) (scope:Scope) (pos:Pos) (rs:List (TI × TG × TT)) (c:Comprehension) (r:TI × TG × TT) (k:Nat):Prop :=
    ∀ (P:List (Addr × Obj)),(∀ p∈P,p.1≠D)→∀ {σ:St} {H:Hp} {s:Shared} {ys:List V} {its:List Value} {kk:Nat} {Fin:List V→St→Hp→Prop},Inv Y (Lp D its kk :: P) σ H s→Vals ys its→ys.length≤sizeLine →
      r.1 σ H (LcT rs r.2.1 r.2.2 te ys σ Fin) →
      wpAny (model Y.prog Y.w) Y.A (eval c.iter Y.env) (fun x s₄=>wpAny (model Y.prog Y.w) Y.A (pyIter x) (fun it2 s₅ =>
        codeAny (model Y.prog Y.w) Y.A (.compStart (.ListComp elt G scope pos) k it2 (.ref D) Y.env) (fun r s₆=>match r with|.ok _=>xI Y D P Fin s₆|.error _=>False) s₅) (fun _ _=>False) s₄) (fun _ _=>False) s
theorem uF {Y:Cx} {τ:Type} {val:τ→St} {nx:St→τ} (hc:Y.calm=true) (hxe:Y.xe=fun _ _=>False) (hrs:∀ {pn:List (Addr × Obj)} {σ':St} {H':Hp} {s':Shared},Inv Y pn σ' H' s'→Inv Y pn (val (nx σ')) H' s')
    {D:Addr} (hDx:D∈Y.ex∨Y.s₀.heap.objs.size≤D) (hDc:∀ x c,Y.env.cells.lookup x=some c→c≠D) (hDp:∀ p∈Y.pn,p.1≠D)
    {elt tg iter tg2 iter2:Expr} {ifs ifs2:List Expr} {te:TE} {g:TG} {tt:TT} {G:List Comprehension} {scope:Scope} {pos:Pos} {k:Nat} {r2:TI × TG × TT} {rs:List (TI × TG × TT)} (hk:G[k]?=some ⟨tg,iter,ifs,0⟩) (hk2:G[k+1]?=some ⟨tg2,iter2,ifs2,0⟩) (hst:∀ x,foldedSetIterable iter2 Y.env x=pure x) (htg:PG Y tg g) (hfs:iw Y ifs tt)
    {P:List (Addr × Obj)} (hP:∀ p∈P,p.1≠D) (inn:ww Y D elt te G scope pos rs ⟨tg2,iter2,ifs2,0⟩ r2 (k+1)) {it:Addr} {fp:List Addr} {tn:Nat→Heap→Prop} {J:It} (T:Turn Y.prog Y.w Y.K tg J fp it tn) (neD:∀ b∈fp,D≠b) (fpY:∀ {H':Hp} {n:Nat} {its:List Value},(∀ b∈fp,H' b=none)→∀ b∈fp,gl Y (Lp D its n :: P) H' b)
    {R:Result→Shared→Prop} {Fin:List V→τ→Hp→Prop} (hR:∀ ys its k t H s,Inv Y (Lp D its k :: P) (val t) H s→Vals ys its→ys.length≤sizeLine→Fin ys t H→R (.ok .next) s)
    {W:Nat→Nat→List V→τ→Hp→Prop} (turn:∀ i m ys t H,W i m ys t H→(J.stop i H∧Fin ys t H) ∨
      (J.go i H∧∀ x H',J.yld i H x H'→g x (val t) H' fun σ3 H5=>tt σ3 H5 fun b H6=>if b=true then r2.1 σ3 H6 (LcT rs r2.2.1 r2.2.2 te ys σ3 fun ys' σ' H7=>∃ m',m' < m∧W (i+1) m' ys' (nx σ') H7) else ∃ m',m' < m∧W (i+1) m' ys (nx σ3) H6))
    {m0 kk:Nat} {ys:List V} {its:List Value} {t:τ} {H:Hp} {s:Shared} (I:Inv Y (Lp D its kk :: P) (val t) H s) (rv:Vals ys its) (hz:ys.length≤sizeLine) (st:tn 0 s.heap) (fr:∀ b∈fp,H b=none) (w0:W 0 m0 ys t H) :
    codeAny (model Y.prog Y.w) Y.A (.compLoop (.ListComp elt G scope pos) k (.ref it) (.ref D) Y.env) R s:=by
  have xe:∀ e s,Y.xe e s→False:=fun e s z=>by rw [hxe] at z;exact z
  refine qF hk hk2 (fun n s'=>∃ i ys its k t H',Inv Y (Lp D its k :: P) (val t) H' s'∧Vals ys its∧ys.length≤sizeLine∧tn i s'.heap∧(∀ b∈fp,H' b=none)∧W i n ys t H') hst ?_ m0 ⟨0,ys,its,kk,t,H,I,rv,hz,st,fr,w0⟩;rintro n s3 ⟨i,ys3,its3,k3,t3,H3,I3,rv3,hz3,st3,fr3,w3⟩;rcases turn i n ys3 t3 H3 w3 with ⟨stop,qn⟩|⟨go,step⟩
  · refine wpAny_mono (T.done Y rfl rfl rfl hc i _ s3 _ H3 (fun _ _=>False) I3 (fpY fr3) st3 stop) (fun r s4 ⟨hr,I4⟩=>?_) fun _ _ z=>z;subst hr;exact hR ys3 its3 k3 t3 H3 s4 I4 rv3 hz3 qn
  · refine wpAny_mono (T.item Y rfl rfl rfl hc i _ s3 _ H3 (fun _ _=>False) I3 (fpY fr3) st3 go) (fun r s4 ⟨u,hr,h4⟩=>?_) fun _ _ z=>z;subst hr;refine wpAny_mono h4 (fun _ s5 ⟨x,H5,I5,r5,y5,st5,fr5⟩=>?_) fun _ _ z=>z;have I5':=I5.pinned (fpY fr5) (T.obj _ _ st5);refine wpAny_mono (htg _ s5 _ H5 x u _ I5' r5 (step x H5 y5)) (fun _ s6 ⟨σ6,H6,I6,q6⟩=>?_) fun e s z=>(xe e s z).elim;refine wpAny_mono (hfs _ s6 σ6 H6 _ I6 q6) (fun ok s7 ⟨H7,I7,q7⟩=>?_) fun e s z=>(xe e s z).elim;have again:∀ {ys':List V} {its':List Value} {k':Nat} {σ':St} {H':Hp} {s':Shared},Inv Y (Lp D its' k' :: (P++dP fp s5.heap)) σ' H' s'→Vals ys' its'→ys'.length≤sizeLine→(∃ m',m' < n∧W (i+1) m' ys' (nx σ') H') →
        ∃ m,m < n∧∃ i ys its k t H',Inv Y (Lp D its k :: P) (val t) H' s'∧Vals ys its∧ys.length≤sizeLine∧tn i s'.heap∧(∀ b∈fp,H' b=none)∧W i m ys t H':=fun {ys' its' k' σ' H' s'} Z rv' hz' hw=>by
      obtain ⟨m',hm,w'⟩:=hw;have pn:∀ {b:Addr} {o:Obj},b∈fp→s5.heap.get? b=some o→_:=fun {b o} hb e=>Z.pin (b,o) (aab _ (aai _ (aab _ (f_ hb e))));refine ⟨m',hm,i+1,ys',its',k',nx σ',H',hrs (Inv.unpinned (pl:=dP fp s5.heap) Z),rv',hz',T.keep _ _ _ st5 fun b hb o e=>(pn hb e).1,fun b hb=>?_,w'⟩;obtain ⟨o,e,d⟩:=T.obj _ _ st5 b hb;exact (pn hb e).2.1
    cases ok with
    | false =>
      rw [if_neg aar] at q7 ⊢;exact again I7 rv3 hz3 q7
    | true =>
      rw [if_pos rfl] at q7 ⊢;refine wpAny_mono (inn (P++dP fp s5.heap) (fun p hp=>?_) I7 rv3 hz3 q7) (fun x s8 h8=>wpAny_mono h8 (fun it2 s9 h9=>codeAny_mono h9 fun r s10 h10=>?_) fun _ _ z=>z) fun _ _ z=>z
      · rcases aap.mp hp with z|z
        · exact hP p z
        · exact abC (neD _ (jh z).1)
      · cases r with
        | error e=>exact h10.elim
        | ok f =>
          obtain ⟨ys',its',k',σ',H',Z,rv',hz',w'⟩:=h10;exact again Z rv' hz' w'
theorem uC {Y:Cx} (hc:Y.calm=true) (hxe:Y.xe=fun _ _=>False) {D:Addr} (hDx:D∈Y.ex∨Y.s₀.heap.objs.size≤D) (hDc:∀ x c,Y.env.cells.lookup x=some c→c≠D) (hDp:∀ p∈Y.pn,p.1≠D)
    {elt:Expr} {te:TE} {G:List Comprehension} {scope:Scope} {pos:Pos} (hbe:PE Y elt te) :
    ∀ (rs:List (TI × TG × TT)) (c:Comprehension) (r:TI × TG × TT) (k:Nat),G[k]?=some c→PCl Y c r→Paired (PCl Y) (G.drop (k+1)) rs →
    ww Y D elt te G scope pos rs c r k:=by
  intro rs;have xe:∀ e s,Y.xe e s→False:=fun e s z=>by rw [hxe] at z;exact z
  have fpx:∀ {fp:List Addr} {P:List (Addr × Obj)} {its:List Value} {kk:Nat} {H2:Hp},(∀ b∈fp,gl Y (Lp D its kk :: P) H2 b)→(∀ b∈fp,D≠b)∧∀ {H':Hp} {n:Nat} {its':List Value},(∀ b∈fp,H' b=none)→∀ b∈fp,gl Y (Lp D its' n :: P) H' b:=fun {fp P its kk H2} f2=>by
    have neD:∀ b∈fp,D≠b:=fun b hb=>(f2 b hb).2.2.2.2.2 (Lp D its kk) (aab _ aav);refine ⟨neD,fun {H' n its'} hn b hb=>⟨hn b hb,(f2 b hb).2.1,(f2 b hb).2.2.1,(f2 b hb).2.2.2.1,(f2 b hb).2.2.2.2.1,fun p hp=>?_⟩⟩;rcases aap.mp hp with z|z
    · exact (f2 b hb).2.2.2.2.2 p (aaG _ z)
    · rcases aao.mp z with z|z
      · rw [z];exact neD b hb
      · exact (f2 b hb).2.2.2.2.2 p (aab _ (aai _ z))
  induction rs with
  | nil =>
    intro c r k hk hcl hG P hP σ H s ys its kk Fin I rv hz h;have hk2:G[k+1]?=none:=by
      have l:=ab6 hG;rw [aba] at l;exact List.getElem?_eq_none (by simp at l;lia)
    obtain ⟨tg,iter,ifs,as⟩:=c;have as0:as=0:=hcl.as;subst as0;refine wpAny_mono (hcl.it _ s σ H _ I h) (fun v s1 h1=>wpAny_mono h1 (fun itv s2 h2=>?_) fun e s z=>(xe e s z).elim) fun e s z=>(xe e s z).elim;obtain ⟨it,fp,tn,J,H2,e,I2,T,st2,f2,W,⟨m0,w0⟩,turn⟩:=h2;subst e;have loop:=rm (τ:=St) (val:=fun z=>z) (nx:=fun z=>z) hc hxe (fun Z=>Z) hDx hDc hDp (scope:=scope) (pos:=pos) hbe hk hk2 hcl.tg hcl.fs hP T (fpx f2).1 (fpx f2).2 (R:=fun r s₆=>match r with|.ok _=>xI Y D P Fin s₆|.error _=>False) (fun ys its k t H s I4 rv hz fin=>⟨ys,its,k,t,H,I4,rv,hz,fin⟩) turn I2 rv hz st2 (fun b hb=>(f2 b hb).1) w0;exact kZ hk loop (T.self _ 0 _ _ _ st2 loop)
  | cons r2 rs ih =>
    intro c r k hk hcl hG P hP σ H s ys its kk Fin I rv hz h;obtain ⟨c2,hk2,hcl2,hG2⟩:∃ c2,G[k+1]?=some c2∧PCl Y c2 r2∧Paired (PCl Y) (G.drop (k+1+1)) rs:=by
      cases e:G.drop (k+1) with
      | nil=>rw [e] at hG;cases hG
      | cons c2 l =>
        rw [e] at hG;have e1:G[k+1]?=some c2:=by
          have:=congrArg (·[0]?) e;simpa using this
        have e2:G.drop (k+1+1)=l:=by rw [← List.drop_drop,e];rfl
        cases hG with
        | cons a b=>exact ⟨c2,e1,a,by rw [e2];exact b⟩
    obtain ⟨tg,iter,ifs,as⟩:=c;have as0:as=0:=hcl.as;subst as0;obtain ⟨tg2,iter2,ifs2,as2⟩:=c2;have as20:as2=0:=hcl2.as;subst as20;refine wpAny_mono (hcl.it _ s σ H _ I h) (fun v s1 h1=>wpAny_mono h1 (fun itv s2 h2=>?_) fun e s z=>(xe e s z).elim) fun e s z=>(xe e s z).elim;obtain ⟨it,fp,tn,J,H2,e,I2,T,st2,f2,W,⟨m0,w0⟩,turn⟩:=h2;subst e;have loop:=uF (τ:=St) (val:=fun z=>z) (nx:=fun z=>z) hc hxe (fun Z=>Z) hDx hDc hDp (scope:=scope) (pos:=pos) hk hk2 (hcl2.st _) hcl.tg hcl.fs hP (ih _ r2 (k+1) hk2 hcl2 hG2) T (fpx f2).1 (fpx f2).2 (R:=fun r s₆=>match r with|.ok _=>xI Y D P Fin s₆|.error _=>False) (fun ys its k t H s I4 rv hz fin=>⟨ys,its,k,t,H,I4,rv,hz,fin⟩) turn I2 rv hz st2 (fun b hb=>(f2 b hb).1) w0;exact kZ hk loop (T.self _ 0 _ _ _ st2 loop)
abbrev vc (cap:List (Option Nat)) (g:TG) (tt:TT) (r2:TI × TG × TT) (rs:List (TI × TG × TT)) (te:TE) (σ:St) (Q:VK) (J:It) (H1:Hp):Prop:=∃ W:Nat→Nat→List V→Hp→Prop,(∃ m,W 0 m [] H1)∧∀ i m ys H,W i m ys H →
  (J.stop i H∧∀ p,H p=none→Q (.ref p) (upd H p (.lst ys))) ∨
  (J.go i H∧∀ x H',J.yld i H x H'→g x (da cap σ) H' fun σ2 H2=>tt σ2 H2 fun b H3=>if b=true then r2.1 σ2 H3 (LcT rs r2.2.1 r2.2.2 te ys σ2 fun ys' _ H4=>∃ m',m' < m∧W (i+1) m' ys' H4) else ∃ m',m' < m∧W (i+1) m' ys H3)
def yD (cap:List (Option Nat)) (wi:TI) (g:TG) (tt:TT) (r2:TI × TG × TT) (rs:List (TI × TG × TT)) (te:TE):TE:=fun σ H Q=>wi σ H (vc cap g tt r2 rs te σ Q)
section
variable {X:Cx}
theorem tR {elt tg iter:Expr} {ifs:List Expr} {G:List Comprehension} {r2:TI × TG × TT} {rs:List (TI × TG × TT)} {scope:Scope} {pos:Pos} {cl:List (Str × Addr)} {NY:List Str} {cap:List (Option Nat)} {wi:TI} {g:TG} {tt:TT} {te:TE} (hc:X.calm=true) (hi:PI X tg iter wi)
    (hclos:closureFor scope X.env=pure cl) (hci:CellsIn X.env cl) (hcap:CapOk X.env (relabel scope X.env) X.N NY cap)
    (hb:∀ fp s H C,PG (bi X scope cl NY fp s H C) tg g∧iw (bi X scope cl NY fp s H C) ifs tt∧Paired (PCl (bi X scope cl NY fp s H C)) G (r2 :: rs)∧PE (bi X scope cl NY fp s H C) elt te)
    (hkind:scope.kind=.function:=by rfl) (hnc:(scope.names.all fun y=>y.2 != .cell)=true:=by rfl)
    (hnames:(scope.names.all fun y=>y.2 != .local || scope.names.lookup y.1 == some .local)=true:=by rfl)
    (hhas:((relabel scope X.env).names.all fun p=>(p.2 != .cell && p.2 != .free) || (cl.lookup p.1).isSome)=true:=by rfl)
    (hs:∀ x,foldedSetIterable iter X.env x=pure x:=by intro _;rfl) :
    PE X (.ListComp elt (⟨tg,iter,ifs,0⟩ :: G) scope pos) (yD cap wi g tt r2 rs te):=by
  intro pins s σ H Q I h;rw [eval_ListComp];refine wpAny_comprehension_free (use:=none) rfl hs hclos hkind (jM hnames) (wpAny_mono (hi pins s σ H _ I h) (fun v s1 h1=>wpAny_mono h1 (fun itv s2 h2=>?_) fun _ _ e=>e) fun _ _ e=>e);obtain ⟨it,fp,tn,J,H2,e,I2,T,st2,f2,W,⟨m0,w0⟩,turn⟩:=h2;subst e;refine wpAny_newObj_type (wpAny_newFunctionEnv (qH hnc) (by intro y hy;simp at hy) (fun h₁ hns₁ hsb₁=>?_) hkind);dsimp only at hns₁ hsb₁ ⊢;obtain ⟨hC,B,hD⟩:=I2.newC hci hkind hhas hns₁ fun b o hb e=>hsb₁.extBut b o hb (aac _ e);generalize (s2.heap.push { cls:=.type "list",dict:=none,data:=.seq ([]:List Value).toArray }).objs.size=C at hC B ⊢;obtain ⟨hbg,hbt,hbG,hbe⟩:=hb fp s2 H2 C;obtain ⟨c2,G',eG,hcl2,hG'⟩:∃ c2 G',G=c2 :: G'∧PCl (bi X scope cl NY fp s2 H2 C) c2 r2∧Paired (PCl (bi X scope cl NY fp s2 H2 C)) G' rs:=by
    cases hbG with
    | cons a b=>exact ⟨_,_,rfl,a,b⟩
  obtain ⟨tg2,iter2,ifs2,as2⟩:=c2;have as20:as2=0:=hcl2.as;subst as20;have stW:=T.keep _ _ h₁ st2 fun b _ o e=>B.old b o e;have fpl:=T.lt st2;have hDc:=B.neD I2.cellLt (aae _) hD fun v z=>by cases z
  have loop:=uF (τ:=Unit) (val:=fun _=>da cap σ) (nx:=fun _=>()) (Y:=bi X scope cl NY fp s2 H2 C) hc rfl (fun Z=>I2.recap f2 B hcap fZ Z) (.inr (aae _)) hDc (fun p hp=>by cases hp) (elt:=elt) (te:=te) (G:=⟨tg,iter,ifs,0⟩ :: G) (scope:=scope) (pos:=pos) (k:=0) rfl (show (⟨tg,iter,ifs,0⟩ :: G:List Comprehension)[1]?=some ⟨tg2,iter2,ifs2,0⟩ by rw [eG];rfl) (hcl2.st _) hbg hbt (P:=[]) (fun p hp=>by cases hp)
    (uC (Y:=bi X scope cl NY fp s2 H2 C) hc rfl (.inr (aae _)) hDc (fun p hp=>by cases hp) hbe rs _ r2 1 (by rw [eG];rfl) hcl2 (by rw [eG];exact hG')) T
    (fun b hb=>abd (fpl b hb)) (fun hn=>I2.fps f2 fpl B (fun p hp=>by rw [aam.mp hp];exact aae _) hn) (R:=compPost (model X.prog X.w) X.A X.xe none (EP X pins σ Q) (.ref s2.heap.objs.size) C) (fun ys its k _ H s I4 rv hz fin=>I2.lstEnd f2 (aae _) (abo hC) rfl I4 rv hz fin)
    (W:=fun i m ys _ H=>W i m ys H) (fun i m ys _ H=>turn i m ys H) (t:=()) (I2.blk f2 fpl B hcap fZ (fun p hp=>by rw [aam.mp hp];exact ⟨hD,aae _,aaE hC,fun v z=>by cases z⟩) (t':=s2.toks+([]:List (Str × Value)).length)) .nil (aaO _) stW (fun b hb=>(f2 b hb).1) w0
  exact codeAny_compStart_list loop (T.self _ 0 _ _ _ stW loop)
end
abbrev wq (g2:TG) (tt2:TT) (te:TE) (ys:List V) (σ2:St) (Fin:List V→Hp→Prop) (J2:It) (H4:Hp):Prop:=nU g2 tt2 te ys σ2 (fun ys _ H=>Fin ys H) J2 H4
abbrev wu (cap:List (Option Nat)) (g:TG) (tt:TT) (wi2:TI) (g2:TG) (tt2:TT) (te:TE) (σ:St) (Q:VK) (J:It) (H1:Hp):Prop:=vc cap g tt (wi2,g2,tt2) [] te σ Q J H1
def yF (cap:List (Option Nat)) (wi:TI) (g:TG) (tt:TT) (wi2:TI) (g2:TG) (tt2:TT) (te:TE):TE:=fun σ H Q=>wi σ H (wu cap g tt wi2 g2 tt2 te σ Q)
abbrev va (g2:TG) (tt2:TT) (wi3:TI) (g3:TG) (tt3:TT) (te:TE) (ys:List V) (σ2:St) (Fin:List V→Hp→Prop) (J2:It) (H4:Hp):Prop:=LcT [(wi3,g3,tt3)] g2 tt2 te ys σ2 (fun ys _ H=>Fin ys H) J2 H4
abbrev wt (cap:List (Option Nat)) (g:TG) (tt:TT) (wi2:TI) (g2:TG) (tt2:TT) (wi3:TI) (g3:TG) (tt3:TT) (te:TE) (σ:St) (Q:VK) (J:It) (H1:Hp):Prop:=vc cap g tt (wi2,g2,tt2) [(wi3,g3,tt3)] te σ Q J H1
def yE (cap:List (Option Nat)) (wi:TI) (g:TG) (tt:TT) (wi2:TI) (g2:TG) (tt2:TT) (wi3:TI) (g3:TG) (tt3:TT) (te:TE):TE:=fun σ H Q=>wi σ H (wt cap g tt wi2 g2 tt2 wi3 g3 tt3 te σ Q)
section
variable {X:Cx}
theorem xa {elt tg iter tg2 iter2:Expr} {ifs ifs2:List Expr} {scope:Scope} {pos:Pos} {cl:List (Str × Addr)} {NY:List Str} {cap:List (Option Nat)} {wi wi2:TI} {g g2:TG} {tt tt2:TT} {te:TE} (hc:X.calm=true) (hi:PI X tg iter wi)
    (hclos:closureFor scope X.env=pure cl) (hci:CellsIn X.env cl) (hcap:CapOk X.env (relabel scope X.env) X.N NY cap)
    (hb:∀ fp s H C,PG (bi X scope cl NY fp s H C) tg g∧iw (bi X scope cl NY fp s H C) ifs tt∧PI (bi X scope cl NY fp s H C) tg2 iter2 wi2∧PG (bi X scope cl NY fp s H C) tg2 g2∧iw (bi X scope cl NY fp s H C) ifs2 tt2∧PE (bi X scope cl NY fp s H C) elt te)
    (hkind:scope.kind=.function:=by rfl) (hnc:(scope.names.all fun y=>y.2 != .cell)=true:=by rfl)
    (hnames:(scope.names.all fun y=>y.2 != .local || scope.names.lookup y.1 == some .local)=true:=by rfl)
    (hhas:((relabel scope X.env).names.all fun p=>(p.2 != .cell && p.2 != .free) || (cl.lookup p.1).isSome)=true:=by rfl)
    (hs:∀ x,foldedSetIterable iter X.env x=pure x:=by intro _;rfl) (hs2:∀ E x,foldedSetIterable iter2 E x=pure x:=by intro _ _;rfl) :
    PE X (.ListComp elt [⟨tg,iter,ifs,0⟩,⟨tg2,iter2,ifs2,0⟩] scope pos) (yF cap wi g tt wi2 g2 tt2 te) :=
  tR (r2:=(wi2,g2,tt2)) (rs:=[]) hc hi hclos hci hcap (fun fp s H C=>by obtain ⟨hbg,hbt,i2,t2,f2,hbe⟩:=hb fp s H C;exact ⟨hbg,hbt,(.cons ⟨rfl,i2,t2,f2,hs2⟩ .nil),hbe⟩) hkind hnc hnames hhas hs
theorem w_ {elt tg iter tg2 iter2 tg3 iter3:Expr} {ifs ifs2 ifs3:List Expr} {scope:Scope} {pos:Pos} {cl:List (Str × Addr)} {NY:List Str} {cap:List (Option Nat)} {wi wi2 wi3:TI} {g g2 g3:TG} {tt tt2 tt3:TT} {te:TE} (hc:X.calm=true) (hi:PI X tg iter wi)
    (hclos:closureFor scope X.env=pure cl) (hci:CellsIn X.env cl) (hcap:CapOk X.env (relabel scope X.env) X.N NY cap)
    (hb:∀ fp s H C,PG (bi X scope cl NY fp s H C) tg g∧iw (bi X scope cl NY fp s H C) ifs tt∧PI (bi X scope cl NY fp s H C) tg2 iter2 wi2∧PG (bi X scope cl NY fp s H C) tg2 g2∧iw (bi X scope cl NY fp s H C) ifs2 tt2∧PI (bi X scope cl NY fp s H C) tg3 iter3 wi3∧PG (bi X scope cl NY fp s H C) tg3 g3∧iw (bi X scope cl NY fp s H C) ifs3 tt3∧PE (bi X scope cl NY fp s H C) elt te)
    (hkind:scope.kind=.function:=by rfl) (hnc:(scope.names.all fun y=>y.2 != .cell)=true:=by rfl)
    (hnames:(scope.names.all fun y=>y.2 != .local || scope.names.lookup y.1 == some .local)=true:=by rfl)
    (hhas:((relabel scope X.env).names.all fun p=>(p.2 != .cell && p.2 != .free) || (cl.lookup p.1).isSome)=true:=by rfl)
    (hs:∀ x,foldedSetIterable iter X.env x=pure x:=by intro _;rfl) (hs2:∀ E x,foldedSetIterable iter2 E x=pure x:=by intro _ _;rfl) (hs3:∀ E x,foldedSetIterable iter3 E x=pure x:=by intro _ _;rfl) :
    PE X (.ListComp elt [⟨tg,iter,ifs,0⟩,⟨tg2,iter2,ifs2,0⟩,⟨tg3,iter3,ifs3,0⟩] scope pos) (yE cap wi g tt wi2 g2 tt2 wi3 g3 tt3 te) :=
  tR (r2:=(wi2,g2,tt2)) (rs:=[(wi3,g3,tt3)]) hc hi hclos hci hcap (fun fp s H C=>by obtain ⟨hbg,hbt,i2,t2,f2,i3,t3,f3,hbe⟩:=hb fp s H C;exact ⟨hbg,hbt,(.cons ⟨rfl,i2,t2,f2,hs2⟩ (.cons ⟨rfl,i3,t3,f3,hs3⟩ .nil)),hbe⟩) hkind hnc hnames hhas hs
end
open PySem PySem.Spec PyProof.Rows
def jk (h:Heap) (S:List Addr):Heap:=⟨h.objs.mapIdx fun i o=>if i∈S then { o with data:=.freed } else o,h.life⟩
theorem fb {h:Heap} {S:List Addr} {b:Addr} (hb:b∈S):(jk h S).get? b=none:=by
  unfold jk Heap.get?;simp only [Array.getElem?_mapIdx];cases e:h.objs[b]? with
  | none=>rfl
  | some o=>simp [hb]
theorem kH {h:Heap} {S:List Addr} {b:Addr} (hb:b∉S):(jk h S).get? b=h.get? b:=by
  unfold jk Heap.get?;simp only [Array.getElem?_mapIdx];cases e:h.objs[b]? with
  | none=>rfl
  | some o=>simp [hb]
theorem ge (h:Heap) (S:List Addr):(jk h S).StaysIn h:=fun b o e=>by
  by_cases hb:b∈S
  · rw [fb hb] at e;cases e
  · rw [kH hb] at e;exact e
theorem dF {h h1 base:Heap} {S:List Addr}:∀ {l:List Env},(∀ b∈l.filterMap (·.frame),b∈S)→h1.FunFrames base l→h1.FunFrames (jk h S) l
  | [],_,_=>trivial
  | env :: dz,hs,⟨hk,⟨L,o,hf,hn,ho,hd⟩,hr⟩=>by
    refine ⟨hk,⟨L,o,hf,fb (hs L ?_),ho,hd⟩,dF (fun b hb=>hs b ?_) hr⟩
    · rw [abq,hf];exact aav
    · rw [abq,hf];exact aai _ hb
def Trc (h:Heap) (e T:Addr) (cls:Value):Prop:=∃ oe vs oT ts a0,h.get? e=some oe∧(oe.cls=cls∧vs[0]?=some a0)∧oe.data=.fields vs∧vs[1]?=some (.ref T)∧T≠e∧h.get? T=some oT∧oT.data=.fields ts∧ts[3]?=some .none
section
variable {M:Model} {A:Around} {E:Value→Shared→Prop} {s:Shared}
structure Lft (l:List Env) (e:Addr) (x:List Addr) (h h':Heap):Prop where
  keep:∀ b o,b∉l.filterMap (·.frame)→b≠e→b∉x→h.get? b=some o→h'.get? b=some o
  slot:∀ b o,b∈l.filterMap (·.frame)→h.get? b=some o→∃ sl,h'.get? b=some { o with slots:=sl }
theorem ni {base b0:Heap} {l:List Env} {e:Addr} {x:List Addr} {cls:Value} {h h':Heap} (hl:h.FunFrames b0 l) {a0:Value} (L:Heap.LeftW (jk h (e :: x++l.filterMap (·.frame))) l e cls a0 h h') (he:h.get? e≠none) :
    Lft l e x h h'∧∃ T,Trc h' e T cls∧(T∈x∨h.get? T=none):=by
  obtain ⟨k1,k2,k3,k4⟩:=L;refine ⟨⟨fun b o hb hbe hx ho=>k1 b o (by rw [kH];exact ho;simp [hb,hbe,hx]),fun b o hb ho=>?_⟩,?_⟩
  · obtain ⟨_,o',ho',hd⟩:=hl.mem hb;rw [ho] at ho';cases ho';exact k4 b o ho hd
  · obtain ⟨oe,vs,T,oT,ts,h1,h2,h3,h4,h5,h6,h7,h8,h9⟩:=k3;refine ⟨T,⟨oe,vs,oT,ts,a0,h1,h2,h3,h4,h6,h7,h8,h9⟩,?_⟩;by_cases hT:T∈x
    · exact .inl hT
    · refine .inr ?_;have nf:T∉l.filterMap (·.frame):=fun z=>by
        obtain ⟨_,o,ho,hd⟩:=k2.mem z;rw [h7] at ho;cases ho;exact hd ts h8
      rw [kH (by simp [hT,h6,nf])] at h5;exact h5
theorem oV {b0:Heap} {env:Env} {outer:List Env} {L e:Addr} {oe:Obj} {vs:Array Value} {Q:Unit→Shared→Prop} (hfr:A.frames=some (env :: outer)) (hl:s.heap.FunFrames b0 (env :: outer)) (hf:env.frame=some L)
    (he:s.heap.get? e=some oe) (hd:oe.data=.fields vs) (h1:vs[1]?=some .none) {a0:Value} (h0:vs[0]?=some a0)
    (h:∀ h' T,Lft (env :: outer) e [] s.heap h'→Trc h' e T oe.cls→s.heap.get? T=none→Q () { s with heap:=h' }):wpAny M A (leaving env (.ref e)) Q E s:=by
  refine wpAny_leaving_firstW (a0:=a0) (base:=jk s.heap (e :: []++(env :: outer).filterMap (·.frame))) hfr (dF (fun b hb=>aab _ hb) hl) hf he (ge _ _) (fb (by simp)) hd h1 h0 fun h' L'=>?_;obtain ⟨l',T,t,z⟩:=ni (base:=b0) hl L' (by rw [he];simp);rcases z with z|z
  · exact absurd z (by simp)
  · exact h h' T l' t z
theorem qo {b0:Heap} {env:Env} {outer:List Env} {L e T:Addr} {cls:Value} {Q:Unit→Shared→Prop} (hfr:A.frames=some (env :: outer)) (hl:s.heap.FunFrames b0 (env :: outer)) (hf:env.frame=some L)
    (ht:Trc s.heap e T cls)
    (h:∀ h' T',Lft (env :: outer) e [T] s.heap h'→Trc h' e T' cls→(T'=T∨s.heap.get? T'=none)→Q () { s with heap:=h' }):wpAny M A (leaving env (.ref e)) Q E s:=by
  obtain ⟨oe,vs,oT,ts,a0,h1,h2,h3,h4,h6,h7,h8,h9⟩:=ht;refine wpAny_leaving_nextW (a0:=a0) (base:=jk s.heap (e :: [T]++(env :: outer).filterMap (·.frame))) (cls:=cls) hfr (dF (fun b hb=>aab _ hb) hl) hf ⟨oe,vs,T,oT,ts,h1,h2,h3,h4,fb (by simp),h6,h7,h8,h9⟩ (ge _ _) (fb (by simp)) fun h' L'=>?_;obtain ⟨l',T',t,z⟩:=ni (base:=b0) hl L' (by rw [h1];simp);refine h h' T' l' t ?_;rcases z with z|z
  · exact .inl (by simpa using z)
  · exact .inr z
end
def CX1 (P:Program) (w:World):CXT:=fun outer H s E e s'=>∃ (ea T C:Addr) (H':Hp),e=.ref ea∧s'.os=s.os∧AllBare s'.gens∧Un (frs outer) [] H H' s.heap s'.heap∧HOk P w H' s'.heap∧s.heap.get? ea=none∧s.heap.get? T=none∧H' ea=none∧H' T=none∧Trc s'.heap ea T (.ref C)∧E (.ref C) none H'
theorem jo {h h' base:Heap}:∀ {l:List Env},(∀ b∈frs l,∀ o,h.get? b=some o→∃ sl,h'.get? b=some { o with slots:=sl })→h.FunFrames base l→h'.FunFrames base l
  | [],_,_=>trivial
  | env :: dz,k,⟨hk,⟨L,o,hf,hn,ho,hd⟩,hr⟩=>by
    have m:∀ b,b=L∨b∈frs dz→b∈frs (env :: dz):=fun b hb=>by
      show b∈(env :: dz).filterMap (·.frame);rw [abq,hf];rcases hb with rfl|hb
      · exact aav
      · exact aai _ hb
    obtain ⟨sl,e⟩:=k L (m L (.inl rfl)) o ho;exact ⟨hk,⟨L,_,hf,hn,e,hd⟩,jo (fun b hb=>k b (m b (.inr hb))) hr⟩
theorem kS {env:Env} {outer:List Env} {L:Addr} (hf:env.frame=some L):frs (env :: outer)=L :: frs outer:=by
  show (env :: outer).filterMap (·.frame)=_;rw [abq,hf];rfl
theorem qL {env:Env} {outer:List Env} {L e:Addr} {x:List Addr} {H0 H':Hp} {h0 h1 h2:Heap} (hf:env.frame=some L) (u:Un (frs (env :: outer)) [] H0 H' h0 h1) (l:Lft (env :: outer) e x h1 h2) (hL:h0.get? L=none) (he:h0.get? e=none) (hx:∀ b∈x,h0.get? b=none) :
    Un (frs outer) [] H0 H' h0 h2:=by
  have ne:∀ b o,h0.get? b=some o→b≠L∧b≠e∧b∉x:=fun b o q=>⟨(fun z=>by rw [z,hL] at q;cases q),(fun z=>by rw [z,he] at q;cases q),(fun z=>by rw [hx b z] at q;cases q)⟩
  have fr:∀ b,b∈frs (env :: outer)↔b=L∨b∈frs outer:=fun b=>by rw [kS hf,aao]
  have fwd:∀ b o,h0.get? b=some o→∀ o',h1.get? b=some o'→∃ sl,h2.get? b=some { o' with slots:=sl }:=fun b o q o' q'=>by
    by_cases hb:b∈frs (env :: outer)
    · exact l.slot b o' hb q'
    · exact ⟨o'.slots,l.keep b o' hb (ne b o q).2.1 (ne b o q).2.2 q'⟩
  refine ⟨fun b o q n hb _=>?_,fun b o q n hb _=>?_,fun b o q n h=>u.free b o q n h,fun b o q h=>?_,u.tups,u.frzs,u.tbls⟩
  · have nb:b∉frs (env :: outer):=fun z=>((fr b).mp z).elim (ne b o q).1 hb;exact l.keep b o nb (ne b o q).2.1 (ne b o q).2.2 (u.keep b o q n nb (by simp))
  · obtain ⟨sl,e1⟩:=u.slot b o q n ((fr b).mpr (.inr hb)) (by simp);obtain ⟨sl',e2⟩:=fwd b o q _ e1;exact ⟨sl',e2⟩
  · obtain ⟨o',e1⟩:=u.there b o q h;obtain ⟨sl,e2⟩:=fwd b o q o' e1;exact ⟨_,e2⟩
theorem o4 {P:Program} {w:World} {l:List Env} {e:Addr} {x:List Addr} {H:Hp} {h1 h2:Heap} (ok:HOk P w H h1) (f:Lft l e x h1 h2) (hl:∀ b∈frs l,H b=none) (he:H e=none) (hx:∀ b∈x,H b=none):HOk P w H h2:=fun b u q =>
  (ok b u q).stay (fun c v hc r=>by
    have hn:H c≠none:=by rcases hc with rfl|hc;rw [q];simp;rw [hc];simp
    exact f.keep c v (fun z=>hn (hl c z)) (fun z=>hn (by rw [z];exact he)) (fun z=>hn (hx c z)) r) (fun _ r=>r) fun _ _ r=>r
section
variable {P:Program} {w:World} {K:aaa} {mg:Str→Option Value} {base:Heap} {N:List Str} {qual:Str} {scope:Scope} {f:Addr} {cd:Value} {A:Around} {outer:List Env} {s0:Shared} {H0:Hp} {E:XK}
theorem wQ {pins:List (Addr × Obj)} {σ:St} {H:Hp} {s:Shared} {h':Heap} {e C:Addr} {args:List Value} (I:Inv (gY (CX1 P w) P w K mg base N qual scope f cd A outer s0 H0 E) pins σ H s) (mk:Heap.MadeExcOf s.heap h' e (.ref C) args) (q:E (.ref C) none H) :
    (gY (CX1 P w) P w K mg base N qual scope f cd A outer s0 H0 E).xe (.ref e) { s with heap:=h' }:=by
  have hf:(envOfC qual scope s0.heap.objs.size f cd).frame=some s0.heap.objs.size:=rfl;obtain ⟨t,he,ht,_⟩:=mk.there;have fr:h'.FunFrames base (envOfC qual scope s0.heap.objs.size f cd :: outer):=jo (fun b _ o ho=>⟨o.slots,mk.keeps b o ho⟩) I.stack;have un1:Un (frs (envOfC qual scope s0.heap.objs.size f cd :: outer)) [] H0 H s0.heap h':=(Un.mono I.base (fun b hb=>by rw [kS hf];exact aai _ hb) (fun b hb=>hb)).trans (Un.kept mk.keeps);have none_of:∀ b,s.heap.get? b=none→s0.heap.get? b=none∧H b=none:=fun b hb=>by
    constructor
    · cases z:s0.heap.get? b with
      | none=>rfl
      | some o =>
        obtain ⟨o',z'⟩:=I.base.there b o z (fun z=>nomatch z);rw [hb] at z';cases z'
    · cases z:H b with
      | none=>rfl
      | some o =>
        obtain ⟨u,hu⟩:=(I.hok b o z).get;rw [hb] at hu;cases hu
  refine oV (b0:=base) (s:={ s with heap:=h' }) (oe:={ cls:=.ref C,data:=.fields #[.ref t,.none,.none,.none,.bool false,.none] }) I.ok.frames fr hf he rfl rfl (a0:=.ref t) rfl fun h2 T lf tr hT=>?_;have hT':s.heap.get? T=none:=by
    cases z:s.heap.get? T with
    | none=>rfl
    | some o =>
      have:=mk.keeps T o z;have hT:h'.get? T=none:=hT;rw [hT] at this;cases this
  have hL:s0.heap.get? s0.heap.objs.size=none:=by
    cases z:s0.heap.get? s0.heap.objs.size with
    | none=>rfl
    | some o=>exact absurd (aat z) (abm _)
  exact ⟨e,T,C,H,rfl,I.os,I.bare,qL hf un1 lf hL (none_of e mk.new).1 (fun b hb=>nomatch hb),o4 (I.hok.kept mk.keeps) lf I.stkFree (none_of e mk.new).2 (fun b hb=>nomatch hb),(none_of e mk.new).1,(none_of T hT').1,(none_of e mk.new).2,(none_of T hT').2,tr,q⟩
theorem dE:jq (CX1 P w) (gY (CX1 P w) P w K mg base N qual scope f cd A outer s0 H0 E) E:=by
  rintro pins σ H s e s' I ⟨ea,T,C,H',rfl,os,bare,un,hok,n1,n2,m1,m2,tr,q⟩;have hf:(envOfC qual scope s0.heap.objs.size f cd).frame=some s0.heap.objs.size:=rfl;have un:Un (frs (envOfC qual scope s0.heap.objs.size f cd :: outer)) [] H H' s.heap s'.heap:=un;have fr:s'.heap.FunFrames base (envOfC qual scope s0.heap.objs.size f cd :: outer):=jo (fun b hb o ho=>un.any ho (I.stkFree b hb) (fun z=>nomatch z)) I.stack;have un1:Un (frs (envOfC qual scope s0.heap.objs.size f cd :: outer)) [] H0 H' s0.heap s'.heap:=(Un.mono I.base (fun b hb=>by rw [kS hf];exact aai _ hb) (fun b hb=>hb)).trans un;have none_of:∀ b,s.heap.get? b=none→s0.heap.get? b=none:=fun b hb=>by
    cases z:s0.heap.get? b with
    | none=>rfl
    | some o =>
      obtain ⟨o',z'⟩:=I.base.there b o z (fun z=>nomatch z);rw [hb] at z';cases z'
  have hL:s0.heap.get? s0.heap.objs.size=none:=by
    cases z:s0.heap.get? s0.heap.objs.size with
    | none=>rfl
    | some o=>exact absurd (aat z) (abm _)
  have frN:∀ b∈frs (envOfC qual scope s0.heap.objs.size f cd :: outer),H' b=none:=fun b hb=>by
    obtain ⟨_,o,ho,_⟩:=(show s.heap.FunFrames base (envOfC qual scope s0.heap.objs.size f cd :: outer) from I.stack).mem hb;exact un.free b o ho (I.stkFree b hb) (fun z=>nomatch z)
  refine qo (b0:=base) I.ok.frames fr hf tr fun h2 T' lf tr' hT=>?_;have x1:∀ b∈[T],s0.heap.get? b=none:=fun b hb=>by rw [aam.mp hb];exact none_of T n2
  have x2:∀ b∈[T],H' b=none:=fun b hb=>by rw [aam.mp hb];exact m2
  refine ⟨ea,T',C,H',rfl,os.trans I.os,bare,qL hf un1 lf hL (none_of ea n1) x1,o4 hok lf frN m1 x2,none_of ea n1,?_,m1,?_,tr',q⟩
  · rcases hT with rfl|hT
    · exact none_of _ n2
    · cases z:s0.heap.get? T' with
      | none=>rfl
      | some o =>
        obtain ⟨o',z'⟩:=un1.there T' o z (fun z=>nomatch z);rw [hT] at z';cases z'
  · rcases hT with rfl|hT
    · exact m2
    · cases z:H' T' with
      | none=>rfl
      | some o =>
        obtain ⟨u,hu⟩:=(hok T' o z).get;rw [hT] at hu;cases hu
end
structure EC (K:aaa) (C:Addr):Prop where
  ex:∃ nm q N bs bm hdct sn sub ab col dd k0 k1 k2 k3 k5 B newId initId bmB mN,ExcBaseFacts B newId initId bmB∧bm.contains (.type "BaseException")=true∧mN ("__init__":Str)=none ∧
    ∀ h,K.In h→h.get? C=some (excClassObj nm q C N bs bm hdct sn sub ab col dd k0 k1 k2 k3 k5 newId)∧h.Ns N mN∧OwnTail h bmB bm
def Rz (X:Cx) (E:XK):Prop:=∀ (pins:List (Addr × Obj)) (σ:St) (H:Hp) (s:Shared) (h':Heap) (e C:Addr) (args:List Value),Inv X pins σ H s→Heap.MadeExcOf s.heap h' e (.ref C) args→E (.ref C) none H→X.xe (.ref e) { s with heap:=h' }
theorem rz1 {P:Program} {w:World} {K:aaa} {mg:Str→Option Value} {base:Heap} {N:List Str} {qual:Str} {scope:Scope} {f:Addr} {cd:Value} {A:Around} {outer:List Env} {s0:Shared} {H0:Hp} {E:XK} :
    Rz (gY (CX1 P w) P w K mg base N qual scope f cd A outer s0 H0 E) E:=fun _ _ _ _ _ _ _ _ I mk q=>wQ I mk q
theorem j0 {X:Cx} {E:XK} {C:Addr} {x t:Str} {np p cpos pos:Pos} {j:Nat} (hz:Rz X E) (ec:EC X.K C) (hc:X.calm=true) (hg:Gl X x) (hm:X.mg x=some (.ref C))
    (hs:backTo cpos (starEach [.Constant (.str t) j p] X.env)=[(false,eval (.Constant (.str t) j p) X.env)]:=by rfl) (hdb:(x == ("__debug__":Str))=false:=by decide) :
    PS X (.Raise (some (.Call (.Name x np) [.Constant (.str t) j p] [] cpos)) none pos) (fun _ _ H=>E (.ref C) none H):=by
  intro pins s σ H D I h;obtain ⟨nm,q,N,bs,bm,hdct,sn,sub,ab,col,dd,k0,k1,k2,k3,k5,B,newId,initId,bmB,mN,F,hb,hni,hK⟩:=ec.ex;refine wpAny_Raise_call_subT (nm:=nm) (q:=q) (N:=N) (bs:=bs) (hdct:=hdct) (sn:=sn) (sub:=sub) (ab:=ab) (col:=col) (dd:=dd) (k0:=k0) (k1:=k1) (k2:=k2) (k3:=k3) (k5:=k5) F hb (I.ok.hd hc) (by rw [hs];rfl) hni (gR I hg hm ⟨rfl,?_⟩ hdb);rw [hs];refine Calls.evalArgs_plain (Calls.spliced_cons (Calls.Constant_str (Calls.spliced_nil ?_)));have I1:Inv X pins σ H { s with toks:=s.toks+1 }:=I.tok _;obtain ⟨h1,h2,h3⟩:=hK _ I1.kIn;exact ⟨rfl,(by show 1≤sizeLine;decide),h1,h2,h3,fun h' e mk=>hz pins σ H _ h' e C _ I1 mk h⟩
theorem Fun.ok1 {P:Program} {w:World} {K:aaa} {mg:Str→Option Value} {base:Heap} {x qual:Str} {st:Stmt} {f:Addr} {fd:FuncData} {N ps:List Str} {k:Nat} {sp:Sp} (F:Fun K x qual st f fd) (S:FnScope N ps (aj st)) (len:∀ vs H Q E,sp vs H Q E→vs.length=ps.length)
    (hbody:∀ (cdv:Value) (A:Around) (outer:List Env) (s:Shared) (H:Hp) (vs:List V) (Q:VK) (E:XK),Room k (A.deeper (envOfC qual (aj st) s.heap.objs.size f cdv))→sp vs H Q E →
      ∃ t,PSs (gY (CX1 P w) P w K mg base N qual (aj st) f cdv A outer s H E) (bn st) t∧t { nx:=fun _ H'=>Q .non H',rt:=Q } (start N vs) H):FnOk P w K mg base (CX1 P w) (k+1) f fd ps sp:=by
  obtain ⟨oc,od,kV,doc,pm,an,cdv,ct,osl,rfl,lk,hcd⟩:=F.ex;exact rq lk hcd S len fun A outer s H vs Q E hr hsp=>hbody cdv A outer s H vs Q E hr hsp
def db (P:Program) (w:World) (K:aaa) (mg:Str→Option Value) (base:Heap) (x:Str) (k:Nat) (ps:List Str) (sp:Sp):Prop :=
  ∃ f fd,FnOk P w K mg base (CX1 P w) k f fd ps sp∧Binds K fd ps []∧aaZ K (.ref f)=true∧mg x=some (.ref f)
theorem b_ {X:Cx} {E:XK} {x:Str} {k k':Nat} {ps:List Str} {sp:Sp} {e:Expr} {es:List Expr} {t:TA} {p pos:Pos} (C:db X.prog X.w X.K X.mg X.base x k ps sp) (hx:jq (CX1 X.prog X.w) X E) (hr:Room k' X.A) (hk:k≤k') (hg:Gl X x) (ha:PA X (e :: es) t)
    (hdb:(x == ("__debug__":Str))=false:=by decide) (he:starEach (e :: es) X.env=(false,eval e X.env) :: starEach es X.env:=by rfl) (hpl:(backTo pos (starEach es X.env)).any (·.1)=false:=by rfl) :
    PE X (.Call (.Name x p) (e :: es) [] pos) (nX sp [] E t):=by
  obtain ⟨f,fd,F,b,kp,m⟩:=C;exact qS F (hr.mono hk) hg m kp b .nil hx ha hdb he hpl
def lA (X:Cx) (pins:List (Addr × Obj)) (a:Addr):Prop:=X.s₀.heap.get? a=none∧a≠X.env.locals∧(∀ x c,X.env.cells.lookup x=some c→c≠a)∧∀ p∈X.pn++pins,p.1≠a
def sU (X:Cx) (pins0:List (Addr × Obj)) (Cat:St→Addr→Hp→Prop):Cx :=
  { X with pn:=X.pn++pins0,xe:=fun e s'=>∃ ea T C H' σ,e=Value.ref ea∧Inv X pins0 σ H' s'∧Trc s'.heap ea T (.ref C)∧H' ea=none∧H' T=none∧lA X pins0 ea∧lA X pins0 T∧Cat σ C H' }
section
variable {X:Cx} {pins0 pins:List (Addr × Obj)} {Cat:St→Addr→Hp→Prop} {σ:St} {H:Hp} {s:Shared}
theorem vL (I:Inv X pins0 σ H s):Inv (sU X pins0 Cat) [] σ H s :=
  ⟨⟨I.ok.mod,I.ok.kind,I.ok.glob,I.ok.blt,I.ok.above,I.ok.inj,I.ok.has,I.ok.cab,I.ok.hd,I.ok.frames,I.ok.stk,I.ok.exf,I.ok.bs,I.ok.bsz,I.ok.noex,I.ok.exfs,I.ok.funs,I.ok.frf⟩,I.os,I.bare,I.base,I.loc,I.cell,I.free,I.freeC,fun p hp=>I.pin p (by
    have hp:p∈(X.pn++pins0)++[]:=hp
    rwa [abM] at hp),I.hok,I.len⟩
theorem fE (I:Inv (sU X pins0 Cat) pins σ H s):Inv X pins0 σ H s :=
  ⟨⟨I.ok.mod,I.ok.kind,I.ok.glob,I.ok.blt,I.ok.above,I.ok.inj,I.ok.has,I.ok.cab,I.ok.hd,I.ok.frames,I.ok.stk,I.ok.exf,I.ok.bs,I.ok.bsz,I.ok.noex,I.ok.exfs,I.ok.funs,I.ok.frf⟩,I.os,I.bare,I.base,I.loc,I.cell,I.free,I.freeC,fun p hp=>I.pin p (show p∈(X.pn++pins0)++pins from aaG _ hp),I.hok,I.len⟩
theorem Inv.fresh_of (I:Inv X pins σ H s) {a:Addr} (hx:X.ex=[]) (h:s.heap.get? a=none):lA X pins a:=by
  refine ⟨?_,fun z=>?_,fun x c e z=>?_,fun p hp z=>?_⟩
  · cases q:X.s₀.heap.get? a with
    | none=>rfl
    | some o =>
      obtain ⟨o',q'⟩:=I.base.there a o q (by rw [hx];exact fun z=>nomatch z);rw [h] at q';cases q'
  · obtain ⟨m,⟨o,_,_,ho,_⟩,_⟩:=I.loc;rw [← z,h] at ho;cases ho
  · obtain ⟨v,o,ho,_⟩:=I.cell x c e;rw [z,h] at ho;cases ho
  · have:=(I.pin p hp).1;rw [z,h] at this;cases this
def wK (sp:Sp) (Cat:St→Addr→Hp→Prop) (t:TA):TE:=fun σ H Q=>t σ H fun vs H1=>sp vs H1 Q fun v _ H'=>∀ C,v=Value.ref C→Cat σ C H'
theorem vx {x:Str} {k k':Nat} {ps:List Str} {sp:Sp} {e:Expr} {es:List Expr} {t:TA} {p pos:Pos} (C:db X.prog X.w X.K X.mg X.base x k ps sp) (hx:X.ex=[]) (hr:Room k' X.A) (hk:k≤k') (hg:Gl X x) (ha:PA (sU X pins0 Cat) (e :: es) t)
    (hdb:(x == ("__debug__":Str))=false:=by decide) (he:starEach (e :: es) X.env=(false,eval e X.env) :: starEach es X.env:=by rfl) (hpl:(backTo pos (starEach es X.env)).any (·.1)=false:=by rfl) :
    PE (sU X pins0 Cat) (.Call (.Name x p) (e :: es) [] pos) (wK sp Cat t):=by
  obtain ⟨f,fd,F,b,kp,m⟩:=C;intro pins s σ H Q I h;refine wpAny_Call_Name_kw (gR I hg m ?_ hdb);refine PySem.W.callWith_K (h₀:=X.base) I.ok.mod.kin kp (thn (ha pos pins s σ H _ I h) fun us s1 ⟨vs,H1,I1,r,q⟩=>⟨I1.kIn,?_⟩) he hpl;have r2:Vals vs (us++[]):=by rw [abM];exact r
  have hl:(us++[]).length=ps.length:=by rw [← r2.length];exact F.len _ _ _ _ q
  refine wpAny_call (codeAny_mono (F.run X.A X.stack s1 H1 ⟨us,[]⟩ (us++[]) vs Q _ (hr.mono hk) I1.env0 (b s1 us I1.kIn hl) r2 q) fun r s' hq=>?_);cases r with
  | ok fl =>
    cases fl with
    | ret u=>exact I1.after hq
    | next=>exact abc hq
    | brk=>exact abc hq
    | cont=>exact abc hq
  | error e =>
    obtain ⟨ea,T,C,H',rfl,os,bare,un,hok,n1,n2,m1,m2,tr,q⟩:=hq;have J:=fE I1;exact ⟨ea,T,C,H',σ,rfl,J.call' os un hok bare (fun b z=>nomatch z),tr,m1,m2,J.fresh_of hx n1,J.fresh_of hx n2,q C rfl⟩
end
section
variable {M:Model} {A:Around} {E:Value→Shared→Prop} {s:Shared}
theorem sf {b0:Heap} {env:Env} {outer:List Env} {L e T:Addr} {cls:Value} {Q:Unit→Shared→Prop} (hfr:A.frames=some (env :: outer)) (hl:s.heap.FunFrames b0 (env :: outer)) (hf:env.frame=some L) (ht:Trc s.heap e T cls)
    (h:∀ h' T',Lft (env :: outer) e [T] s.heap h'→Trc h' e T' cls→(T'=T∨s.heap.get? T'=none)→Q () { s with heap:=h' }) :
    wpAny M A (noteFrame (.ref e) env) (fun _ s2=>wpAny M A (setFlight (.ref e) none) Q E s2) E s:=by
  obtain ⟨oe,vs,oT,ts,a0,h1,h2,h3,h4,h6,h7,h8,h9⟩:=ht;refine wpAny_noteFrame_onW (a0:=a0) (base:=jk s.heap (e :: [T]++(env :: outer).filterMap (·.frame))) (cls:=cls) hfr (dF (fun b hb=>aab _ hb) hl) hf ⟨oe,vs,T,oT,ts,h1,h2,h3,h4,fb (by simp),h6,h7,h8,h9⟩ (ge _ _) (fb (by simp)) fun h1' N=>?_;obtain ⟨k1,k2,k3,k4⟩:=N;refine wpAny_setFlight_noneW (s:={ s with heap:=h1' }) k1 k2 k3 fun h2' j1 j2 j3 j4=>?_;have L':Heap.LeftW (jk s.heap (e :: [T]++(env :: outer).filterMap (·.frame))) (env :: outer) e cls a0 s.heap h2':=⟨j1,j2,j3,fun b o hb hn=>by
    obtain ⟨sl,q⟩:=k4 b o hb hn;exact ⟨sl,j4 b _ q hn⟩⟩
  obtain ⟨l',T',t,z⟩:=ni (base:=b0) hl L' (by rw [h1];simp);refine h h2' T' l' t ?_;rcases z with z|z
  · exact .inl (by simpa using z)
  · exact .inr z
end
def dr (a C:Addr):HO:=.ext fun h=>∃ o vs,h.get? a=some o∧o.cls=.ref C∧o.data=.fields vs
structure Und (K:aaa) (C P:Addr):Prop where
  ex:∃ nm q N bs bm hdct sn sub ab col dd k0 k1 k2 k3 k5 newId nm' q' N' bs' bm' hdct' sn' sub' ab' col' dd' k0' k1' k2' k3' k5' newId',(Value.ref C :: bm).contains (.ref P)=true∧bm'.contains (.type "BaseException")=true ∧
    ∀ h,K.In h→h.get? C=some (excClassObj nm q C N bs bm hdct sn sub ab col dd k0 k1 k2 k3 k5 newId)∧h.get? P=some (excClassObj nm' q' P N' bs' bm' hdct' sn' sub' ab' col' dd' k0' k1' k2' k3' k5' newId')
theorem sN {M:Model} {A:Around} {E:Value→Shared→Prop} {K:aaa} {C P e:Addr} {oe:Obj} {s:Shared} {Q:Bool→Shared→Prop} (u:Und K C P) (hk:K.In s.heap) (he:s.heap.get? e=some oe) (hcls:oe.cls=.ref C) (hq:Q true s):wpAny M A (excMatches (.ref e) (.ref P)) Q E s:=by
  obtain ⟨nm,q,N,bs,bm,hdct,sn,sub,ab,col,dd,k0,k1,k2,k3,k5,newId,nm',q',N',bs',bm',hdct',sn',sub',ab',col',dd',k0',k1',k2',k3',k5',newId',h1,h2,h3⟩:=u.ex;obtain ⟨hC,hP⟩:=h3 _ hk;obtain ⟨h,g,d,t,os⟩:=s;have hcB:(Value.ref P :: bm').contains (.type "BaseException")=true:=by rw [List.contains_cons,h2,Bool.or_true]
  have f:=tc_notTuple;unfold excMatches
  repeat (first|(with_reducible refine wpAny_loadPart_at he ?_;rw [hcls])|with_reducible refine wpAny_loadPart_at hP ?_|(with_reducible refine wpAny_isSubtype_exc hP ?_;rw [hcB])|(with_reducible refine wpAny_isSubtype_exc hC ?_;rw [h1])|wp_step)
  exact hq
section
variable {X:Cx} {pins:List (Addr × Obj)} {σ:St} {H:Hp} {s:Shared}
theorem uY {ea T C:Addr} (I:Inv X pins σ H s) (tr:Trc s.heap ea T (.ref C)) (m1:H ea=none) (f1:lA X pins ea):Inv X pins σ (upd H ea (dr ea C)) s:=by
  obtain ⟨oe,vs,oT,ts,a0,h1,h2,h3,h4,h6,h7,h8,h9⟩:=tr;exact I.adopt2 m1 (fun u z=>by rw [f1.1] at z;cases z) f1.2.1 f1.2.2.1 f1.2.2.2 ⟨⟨oe,vs,h1,h2.1,h3⟩,⟨oe,h1⟩,fun g1 g2 ⟨o,ws,z1,z2,z3⟩ k=>⟨o,ws,k o z1,z2,z3⟩⟩
theorem py {ea C:Addr} {x:List Addr} {h':Heap} (I:Inv X pins σ (upd H ea (dr ea C)) s) (f1:lA X pins ea) (fx:∀ T∈x,lA X pins T∧upd H ea (dr ea C) T=none) (lf:Lft X.stack ea x s.heap h') (hea:∃ o vs,h'.get? ea=some o∧o.cls=.ref C∧o.data=.fields vs) :
    Inv X pins σ (upd H ea (dr ea C)) { s with heap:=h' }:=by
  have tk:∀ b,upd H ea (dr ea C) b=none→b≠ea:=fun b hb z=>by rw [z,ae] at hb;cases hb
  have old:∀ b o,X.s₀.heap.get? b=some o→b≠ea∧b∉x∧b≠X.env.locals:=fun b o q=>by
    refine ⟨fun z=>?_,fun z=>?_,fun z=>?_⟩
    · rw [z,f1.1] at q;cases q
    · rw [(fx b z).1.1] at q;cases q
    · have h1:=aat q;rw [z] at h1;exact absurd I.ok.above (Nat.not_le.mpr h1)
  have one:∀ b o,b≠ea→b∉x→s.heap.get? b=some o→∃ sl,h'.get? b=some { o with slots:=sl }:=fun b o z1 z2 q=>by
    by_cases hb:b∈frs X.stack
    · exact lf.slot b o hb q
    · exact ⟨o.slots,lf.keep b o hb z1 z2 q⟩
  have nstk:∀ b,b≠X.env.locals→b∉X.fs→b∉frs X.stack:=fun b z1 z2 z=>by
    rcases aao.mp (I.stkSub b z) with z|z
    · exact z1 z
    · exact z2 z
  have cl:∀ x' c,X.env.cells.lookup x'=some c→∀ v,s.heap.IsCell c v→h'.IsCell c v:=fun x' c e v ⟨o,ho,hd⟩=>by
    obtain ⟨sl,z⟩:=one c o (f1.2.2.1 x' c e) (fun z=>(fx c z).1.2.2.1 x' c e rfl) ho;exact ⟨_,z,hd⟩
  refine ⟨I.ok,I.os,I.bare,⟨fun b o q n hb hx=>?_,fun b o q n hb hx=>?_,I.base.free,fun b o q hx=>?_,I.base.tups,I.base.frzs,I.base.tbls⟩,?_,fun x' c e=>?_,I.free,I.freeC,fun p hp=>?_,fun b u q=>?_,I.len⟩
  · exact lf.keep b o (nstk b (old b o q).2.2 hb) (old b o q).1 (old b o q).2.1 (I.base.keep b o q n hb hx)
  · obtain ⟨sl,z⟩:=I.base.slot b o q n hb hx;obtain ⟨sl',z'⟩:=one b _ (old b o q).1 (old b o q).2.1 z;exact ⟨sl',z'⟩
  · obtain ⟨o',z⟩:=I.base.there b o q hx;obtain ⟨sl',z'⟩:=one b _ (old b o q).1 (old b o q).2.1 z;exact ⟨_,z'⟩
  · obtain ⟨m,⟨o,es,ep,ho,hd,r⟩,hl⟩:=I.loc;obtain ⟨sl,z⟩:=one X.env.locals o (abC f1.2.1) (fun z=>(fx _ z).1.2.1 rfl) ho;refine ⟨m,⟨_,es,ep,z,hd,r⟩,fun i y v e1 e2 e3=>?_⟩;obtain ⟨u,ru,l⟩:=hl i y v e1 e2 e3;refine ⟨u,ru,?_⟩;rcases l with l|⟨k,c,e,z⟩
    · exact .inl l
    · exact .inr ⟨k,c,e,cl y c e _ z⟩
  · obtain ⟨v,z⟩:=I.cell x' c e;exact ⟨v,cl x' c e v z⟩
  · obtain ⟨z1,z2,z3,z4,z5⟩:=I.pin p hp;exact ⟨lf.keep _ _ (nstk _ z3 z4) (f1.2.2.2 p hp) (fun z=>(fx _ z).1.2.2.2 p hp rfl) z1,z2,z3,z4,z5⟩
  · by_cases z1:b=ea
    · subst z1;rw [ae] at q;cases q;obtain ⟨o,vs,y1,y2,y3⟩:=hea;exact ⟨⟨o,vs,y1,y2,y3⟩,⟨o,y1⟩,fun g1 g2 ⟨o,ws,y1,y2,y3⟩ k=>⟨o,ws,k o y1,y2,y3⟩⟩
    · have tr:∀ c v,upd H ea (dr ea C) c=some v→c≠ea→∀ o,s.heap.get? c=some o→h'.get? c=some o:=fun c v hc z o r=>lf.keep c o (fun y=>by rw [I.stkFree c y] at hc;cases hc) z (fun y=>by rw [(fx c y).2] at hc;cases hc) r;refine (I.hok b u q).stay (fun c v hc r=>?_) (fun _ r=>r) fun _ _ r=>r;rcases hc with rfl|hc
      · exact tr c u q z1 v r
      · refine tr c _ hc (fun z=>?_) v r;rw [z,ae] at hc;cases hc
end
section
variable {M:Model} {A:Around} {E:Value→Shared→Prop} {s:Shared}
theorem sC {b0:Heap} {l:List Env} {e T:Addr} {cls:Value} {Q:Unit→Shared→Prop} (hl:s.heap.FunFrames b0 l) (ht:Trc s.heap e T cls)
    (h:∀ h' T',Lft l e [T] s.heap h'→Trc h' e T' cls→(T'=T∨s.heap.get? T'=none)→Q () { s with heap:=h' }):wpAny M A (setFlight (.ref e) none) Q E s:=by
  obtain ⟨oe,vs,oT,ts,a0,h1,h2,h3,h4,h6,h7,h8,h9⟩:=ht;refine wpAny_setFlight_noneW (base:=jk s.heap (e :: [T]++l.filterMap (·.frame))) (cls:=cls) (a0:=a0) (fl:=.none) (ge _ _) (dF (fun b hb=>aab _ hb) hl) ⟨oe,vs,T,oT,ts,h1,h2,h3,h4,fb (by simp),h6,h7,h8,h9⟩ fun h2' j1 j2 j3 j4=>?_;have L':Heap.LeftW (jk s.heap (e :: [T]++l.filterMap (·.frame))) l e cls a0 s.heap h2':=⟨j1,j2,j3,fun b o hb hn=>⟨o.slots,j4 b o hb hn⟩⟩
  obtain ⟨l',T',t,z⟩:=ni (base:=b0) hl L' (by rw [h1];simp);refine h h2' T' l' t ?_;rcases z with z|z
  · exact .inl (by simpa using z)
  · exact .inr z
end
section
variable {X:Cx} {pins:List (Addr × Obj)} {σ:St} {H:Hp} {s:Shared}
theorem Inv.unset {i:Nat} {n:Str} {v:Option Value} {m:Str→Option Value} {h':Heap} {t':Nat} (I:Inv X pins σ H s) (hN:X.N.Nodup) (hi:X.N[i]?=some n) (hl:∀ (i:Nat) (x:Str) (v:V),X.N[i]?=some x→σ[i]?=some (some v)→Vis X.env.scope x→∃ u,RelV v u∧xH X.env s.heap m x u)
    (hn:h'.Ns X.env.locals (fun x=>if x=n then v else m x)) (hs:Heap.SameBut X.env.locals s.heap h'):Inv X pins (σ.set i none) H { s with heap:=h',toks:=t' }:=by
  have cne:∀ x c,X.env.cells.lookup x=some c→c≠X.env.locals:=fun x c e z=>by
    obtain ⟨v,o,ho,hd⟩:=I.cell x c e;obtain ⟨m,⟨o',es,ep,ho',hd',_⟩,_⟩:=I.loc;rw [z,ho'] at ho;cases ho;rw [hd'] at hd;cases hd
  have old:∀ b o,X.s₀.heap.get? b=some o→b≠X.env.locals:=fun b o q z=>by
    have h1:=aat q;rw [z] at h1;exact absurd I.ok.above (Nat.not_le.mpr h1)
  refine ⟨I.ok,I.os,I.bare,⟨fun b o q n hb hx=>hs.extBut b o (old b o q) (I.base.keep b o q n hb hx),fun b o q n hb hx=>?_,I.base.free,fun b o q hx=>?_,I.base.tups,I.base.frzs,I.base.tbls⟩,⟨_,hn,fun j y w e1 e2 e3=>?_⟩,fun x c e=>?_,I.free,I.freeC,fun p hp=>?_,fun b u q=>?_,?_⟩
  · obtain ⟨sl,z⟩:=I.base.slot b o q n hb hx;exact ⟨sl,hs.extBut b _ (old b o q) z⟩
  · obtain ⟨o',z⟩:=I.base.there b o q hx;exact ⟨o',hs.extBut b _ (old b o q) z⟩
  · by_cases hj:j=i
    · subst hj;rw [List.getElem?_set_self'] at e2;cases z:σ[j]? with
      | none=>rw [z] at e2;simp at e2
      | some _=>rw [z] at e2;simp at e2
    · rw [List.getElem?_set_ne (abC hj)] at e2;obtain ⟨u,ru,l⟩:=hl j y w e1 e2 e3;refine ⟨u,ru,?_⟩;rcases l with ⟨k,l⟩|⟨k,c,e,o,ho,hd⟩
      · refine .inl ⟨k,?_⟩;have : y≠n:=fun z=>hj (kC hN e1 (by rw [z];exact hi));show (if y=n then v else m y)=some u;rw [if_neg this];exact l
      · exact .inr ⟨k,c,e,o,hs.extBut c o (cne y c e) ho,hd⟩
  · obtain ⟨v,o,ho,hd⟩:=I.cell x c e;exact ⟨v,o,hs.extBut c o (cne x c e) ho,hd⟩
  · obtain ⟨z1,z2,z3,z4,z5⟩:=I.pin p hp;exact ⟨hs.extBut _ _ z3 z1,z2,z3,z4,z5⟩
  · refine (I.hok b u q).stay (fun c v hc r=>hs.extBut c v (fun z=>?_) r) (fun _ r=>r) fun _ _ r=>r;rcases hc with rfl|hc
    · rw [z,I.free] at q;cases q
    · rw [z,I.free] at hc;cases hc
  · rw [List.length_set];exact I.len
def qJ (X:Cx) (v:Value):Cx:={ X with A:=X.A.mark (some v),calm:=false,xe:=fun _ _=>False }
theorem o3 {v:Value} (I:Inv X pins σ H s):Inv (qJ X v) pins σ H s :=
  ⟨⟨I.ok.mod,I.ok.kind,I.ok.glob,I.ok.blt,I.ok.above,I.ok.inj,I.ok.has,I.ok.cab,(fun z=>absurd (show false=true from z) aar),I.ok.frames,I.ok.stk,I.ok.exf,I.ok.bs,I.ok.bsz,I.ok.noex,I.ok.exfs,I.ok.funs,I.ok.frf⟩,I.os,I.bare,I.base,I.loc,I.cell,I.free,I.freeC,I.pin,I.hok,I.len⟩
theorem qv {v:Value} (c:X.calm=true→X.A.handled=none) (fr:X.A.frames=some X.stack) (I:Inv (qJ X v) pins σ H s):Inv X pins σ H s :=
  ⟨⟨I.ok.mod,I.ok.kind,I.ok.glob,I.ok.blt,I.ok.above,I.ok.inj,I.ok.has,I.ok.cab,c,fr,I.ok.stk,I.ok.exf,I.ok.bs,I.ok.bsz,I.ok.noex,I.ok.exfs,I.ok.funs,I.ok.frf⟩,I.os,I.bare,I.base,I.loc,I.cell,I.free,I.freeC,I.pin,I.hok,I.len⟩
end
theorem Trc.there {h:Heap} {e T C:Addr} (t:Trc h e T (.ref C)):∃ o vs,h.get? e=some o∧o.cls=.ref C∧o.data=.fields vs:=by
  obtain ⟨oe,vs,oT,ts,a0,h1,h2,h3,_⟩:=t;exact ⟨oe,vs,h1,h2.1,h3⟩
theorem Trc.ne {h:Heap} {e T:Addr} {c:Value} (t:Trc h e T c):T≠e:=by
  obtain ⟨oe,vs,oT,ts,a0,h1,h2,h3,h4,h6,_⟩:=t;exact h6
def yL (K:aaa) (Pa:Addr) (iE:Nat) (tb:(St→Addr→Hp→Prop)→TS) (ts:TS):TS:=fun D σ H =>
  tb (fun σ' C H'=>Und K C Pa∧∀ ea,H' ea=none→ts { nx:=fun σ2 H2=>D.nx (σ2.set iE none) H2,rt:=fun _ _=>False } (σ'.set iE (some (.ref ea))) (upd H' ea (dr ea C))) D σ H
theorem wS {X:Cx} {body:List Stmt} {tb:(St→Addr→Hp→Prop)→TS} {ts:TS} {iE:Nat} {n x:Str} {Pa:Addr} {b₀:Stmt} {suite:List Stmt} {tp hpos pos:Pos} (hx:X.ex=[]) (hst:X.stack=X.env :: X.outer) (hfr:X.env.frame=some X.env.locals)
    (hg:Gl X x) (hm:X.mg x=some (.ref Pa)) (hN:X.N.Nodup) (hi:X.N[iE]?=some n) (hl:X.env.scope.names.lookup n=some .local) (hb:∀ pins0 Cat,PSs (sU X pins0 Cat) body (tb Cat)) (hs:∀ v,PSs (qJ X v) (b₀ :: suite) ts) (hdb:(x == ("__debug__":Str))=false:=by decide) :
    PS X (.Try body [.ExceptHandler (some (.Name x tp)) (some n) (b₀ :: suite) hpos] [] [] pos) (yL X.K Pa iE tb ts):=by
  intro pins s σ H D I h;refine wpAny_Try_except (wpAny_mono (hb pins _ [] s σ H D (vL I) h) (fun f s1 q=>?_) (fun e s1 q=>?_))
  · cases f with
    | next=>obtain ⟨σ',H',I',q⟩:=q;exact wpAny_execs_nil ⟨σ',H',fE I',q⟩
    | brk=>obtain ⟨σ',H',I',q⟩:=q;exact ⟨σ',H',fE I',q⟩
    | cont=>obtain ⟨σ',H',I',q⟩:=q;exact ⟨σ',H',fE I',q⟩
    | ret u=>obtain ⟨v,σ',H',I',r,q⟩:=q;exact ⟨v,σ',H',fE I',r,q⟩
  · obtain ⟨ea,T,C,H',σ',rfl,J,tr,m1,m2,f1,f2,und,cat⟩:=q;have fr:X.A.frames=some (X.env :: X.outer):=by rw [← hst];exact J.ok.frames
    have stk:s1.heap.FunFrames X.base (X.env :: X.outer):=by rw [← hst];exact J.stack
    refine sf (b0:=X.base) fr stk hfr tr fun h2 T2 lf tr2 hT2=>?_;have J1:=uY J tr m1 f1;have mT:upd H' ea (dr ea C) T=none:=by rw [aw tr.ne];exact m2
    have J2:Inv X pins σ' (upd H' ea (dr ea C)) { s1 with heap:=h2 }:=py J1 f1 (x:=[T]) (fun b hb=>by rw [aam.mp hb];exact ⟨f2,mT⟩) (by rw [hst];exact lf) tr2.there;have fT2:lA X pins T2∧upd H' ea (dr ea C) T2=none:=by
      rcases hT2 with rfl|z
      · exact ⟨f2,mT⟩
      · refine ⟨J1.fresh_of hx z,?_⟩;cases q:upd H' ea (dr ea C) T2 with
        | none=>rfl
        | some o =>
          obtain ⟨u,hu⟩:=(J1.hok T2 o q).get;rw [z] at hu;cases hu
    refine wpAny_handleBy_cons (codeAny_handlers_test ?_) (by intro q;cases q);refine gR (X:=qJ X (.ref ea)) (o3 J2) hg hm ?_ hdb;obtain ⟨oe,vs,he2,hc2,_⟩:=tr2.there;refine sN (s:={ s1 with heap:=h2 }) und J2.kIn he2 hc2 ?_;show codeAny _ _ _ _ _;refine codeAny_handlers_suite_as ?_;have stk2:h2.FunFrames X.base (X.env :: X.outer):=by rw [← hst];exact J2.stack
    refine sC (s:={ s1 with heap:=h2 }) (b0:=X.base) (l:=X.env :: X.outer) stk2 tr2 fun h3 T3 lf3 tr3 hT3=>?_;have J3:Inv X pins σ' (upd H' ea (dr ea C)) { s1 with heap:=h3 }:=py (s:={ s1 with heap:=h2 }) J2 f1 (x:=[T2]) (fun b hb=>by rw [aam.mp hb];exact fT2) (by rw [hst];exact lf3) tr3.there;refine gt (v:=.ref ea) J3 hN hi (.inl hl) rfl (fun s4 J4=>?_) (.inr hl);refine wpAny_mono (hs (.ref ea) pins s4 _ _ _ (o3 J4) (cat ea m1)) (fun f s5 q5=>?_) (fun _ _ z=>z.elim);cases f with
    | next =>
      obtain ⟨σ5,H5,I5,q5⟩:=q5;have I5:=qv J.ok.hd J.ok.frames I5;obtain ⟨m,hn,hlk⟩:=id I5.loc;exact wpAny_nameGoes_keeps hl hn (by rw [I5.ok.kind];rfl) fun h6 v hn6 hs6=>⟨_,H5,I5.unset hN hi hlk hn6 hs6,q5⟩
    | brk=>obtain ⟨_,_,_,q⟩:=q5;exact abc q
    | cont=>obtain ⟨_,_,_,q⟩:=q5;exact abc q
    | ret u=>obtain ⟨_,_,_,_,_,q⟩:=q5;exact abc q
open PySem PySem.Spec PyProof.Rows
structure Lkp (M:Model) (h:Heap) (C:Addr):Prop where
  ga:acp M h (typeLookup (.ref C) "__getattribute__") (some (.builtin "BaseException.__getattribute__"))
  no:acp M h (typeLookup (.ref C) "__getattr__") none
  cls:acp M h (typeLookup (.ref C) "__class__") (some (.builtin "object.__class__"))
  be:acp M h (isSubtype (.ref C) (.type "BaseException")) true
  obj:acp M h (isSubtype (.ref C) (.type (".".intercalate ("object.__class__".cutAt '.').dropLast))) true
section
variable {prog:Program} {w:World} {A:Around} {E:Value→Shared→Prop} {h:Heap} {g:Array GenState} {d:Drawn} {t:Nat} {os:OsState} {a C:Addr} {o:Obj}
theorem vW {R:Result→Shared→Prop} (L:Lkp (model prog w) h C) (hx:h.get? a=some o) (hc:o.cls=.ref C) (hq:R (.ok (.ret (.ref C))) ⟨h,g,d,t,os⟩) :
    codeAny (model prog w) A (.call (.builtin "getset_descriptor.__get__") ⟨[.builtin "object.__class__",.ref a,.ref C],[]⟩) R ⟨h,g,d,t,os⟩:=by
  have hT5:(⟨h,g,d,t,os⟩:Shared).TypeIs (.builtin "object.__class__") "getset_descriptor":=acg;refine codeAny_call_builtin F.slot_gs_get.plain F.entry_gs_get (F.slot_gs_get.check _ _ _ _ _ _ _ _ hT5 (F.args_gs_get _ _ _) ?_)
  repeat (any_goals (first|assumption|(with_reducible refine wpAny_loadPart_at hx ?_;rw [hc])|(refine L.obj _ _ _ _ (fun _ _ e=>e) ?_)|wp_step))
  refine ⟨Code.quiet_builtin _ (by decide +kernel),codeAny_builtin F.entry_object_class ?_⟩
  repeat (any_goals (first|assumption|(with_reducible refine wpAny_loadPart_at hx ?_;rw [hc])|wp_step))
theorem sR {M:Model} {nameV:Value} {Q:Unit→Shared→Prop} (L:Lkp M h C) (hx:h.get? a=some o) (hc:o.cls=.ref C) (hq:Q () ⟨h,g,d,t,os⟩):wpAny M A (checkBuiltinCall "BaseException.__getattribute__" ⟨[.ref a,nameV],[]⟩) Q E ⟨h,g,d,t,os⟩:=by
  have hk:builtinKind "BaseException.__getattribute__" = some .slot:=by decide +kernel
  have hsplit:splitId "BaseException.__getattribute__" = some ("BaseException","__getattribute__"):=by decide +kernel
  have ha:=F.args_bexc_ga (.ref a) nameV;simp only [checkBuiltinCall,hk,hsplit];refine wpAny_bind ?_;unfold isInstance
  repeat (first|(with_reducible refine wpAny_loadPart_at hx ?_;rw [hc])|(refine L.be _ _ _ _ (fun _ _ e=>e) ?_)|wp_step)
  exact hq
theorem sQ {tk:Tok} {Q:Fin→Shared→Prop} (L:Lkp (model prog w) h C) (hx:h.get? a=some o) (hc:o.cls=.ref C) (hq:Q (.done (.ret (.ref C))) ⟨h,g,d,t,os⟩) :
    wpAny (model prog w) A (Builtin.«object.__getattribute__» ⟨[.ref a,.str "__class__" tk],[]⟩) Q E ⟨h,g,d,t,os⟩:=by
  have hT5:(⟨h,g,d,t,os⟩:Shared).TypeIs (.builtin "object.__class__") "getset_descriptor":=acg;have f5:=acg;have f6:=F.slot_gs_get.lookup;have f7:=F.slot_gs_set.lookup
  repeat (any_goals (first|assumption|(with_reducible refine wpAny_loadPart_at hx ?_;rw [hc])|(refine L.cls _ _ _ _ (fun _ _ e=>e) ?_)|wp_step))
  refine vW L hx hc ?_
  repeat (any_goals (first|assumption|wp_step))
theorem uU {tk:Tok} {R:Result→Shared→Prop} (L:Lkp (model prog w) h C) {B:String} (hg:Slot B "__getattribute__" "BaseException.__getattribute__") (hx:h.get? a=some o) (hc:o.cls=.ref C) (hq:R (.ok (.ret (.ref C))) ⟨h,g,d,t,os⟩) :
    codeAny (model prog w) A (.call (.builtin "BaseException.__getattribute__") ⟨[.ref a,.str "__class__" tk],[]⟩) R ⟨h,g,d,t,os⟩ :=
  codeAny_call_builtin hg.plain F.entry_bexc_ga (sR L hx hc (sQ L hx hc hq))
theorem xy {tk:Tok} {fill expr:Bool} {Q:Value→Shared→Prop} (L:Lkp (model prog w) h C) {B:String} (hg:Slot B "__getattribute__" "BaseException.__getattribute__") (hx:h.get? a=some o) (hc:o.cls=.ref C) (hq:Q (.ref C) ⟨h,g,d,t,os⟩) :
    wpAny (model prog w) A (getAttrBy (.ref a) (.str "__class__" tk) fill expr) Q E ⟨h,g,d,t,os⟩:=by
  have f3:=hg.bind (.ref a);have hx0:(expr && onTheHeap (Value.builtin "BaseException.__getattribute__"))=false:=by cases expr <;> rfl
  have hx2:(Value.builtin "BaseException.__getattribute__" == Value.builtin "object.__getattribute__")=false:=by decide +kernel
  have hx1:(onTheHeap (Value.ref C) && Value.builtin "BaseException.__getattribute__" == Value.builtin "object.__getattribute__")=false:=by rw [hx2];rfl
  repeat (any_goals (first|assumption|(with_reducible refine wpAny_loadPart_at hx ?_;rw [hc])|(refine L.ga _ _ _ _ (fun _ _ e=>e) ?_)|(refine L.no _ _ _ _ (fun _ _ e=>e) ?_)|wp_step))
  refine uU L hg hx hc ?_
  repeat (any_goals (first|assumption|wp_step))
theorem uV {Q:Option Value→Shared→Prop} (L:Lkp (model prog w) h C) {B:String} (hg:Slot B "__getattribute__" "BaseException.__getattribute__") (hx:h.get? a=some o) (hc:o.cls=.ref C) (hq:Q (some (.ref C)) ⟨h,g,d,t+1,os⟩):wpAny (model prog w) A (getAttr? (.ref a) "__class__") Q E ⟨h,g,d,t,os⟩:=by
  unfold getAttr? getAttrBy?
  repeat (any_goals (first|assumption|with_reducible apply xy L hg hx hc|wp_step))
end
structure ExC (K:aaa) (C:Addr):Prop where
  lk:∀ (M:Model) (h:Heap),K.In h→Lkp M h C
  cl:(aa0 K C).isSome=true
  sl:∃ B,Slot B "__getattribute__" "BaseException.__getattribute__"
theorem oW {K:aaa} {e C:Addr} (x:ExC K C):PySem.W.KitX K (.ref e) (.ref C) (fun h=>∃ o,h.get? e=some o∧o.cls=.ref C) where
  ty:=fun M h _ p=>by
    obtain ⟨o,h1,h2⟩:=p;exact h2 ▸ (PySem.W.Looks.ld h1).andThen .now
  it:=fun _ _ X _=>by
    have hcD:=x.cl;unfold aa0 at hcD;split at hcD
    · rename_i c' d' cd' sl' ho;intro A' Q' E' s' k q;unfold isType loadHead;exact wpAny_bind (wpAny_loadPart (k _ _ (X _ _ ho)) (wpAny_pure q))
    · cases hcD
  ne:=fun h tp dd its n sl X htp=>by
    refine Bool.eq_false_iff.mpr fun q=>?_;have e:C=tp:=Value.ref.inj (beq_iff_eq.mp q);subst e;have hcD:=x.cl;unfold aa0 at hcD;split at hcD
    · rename_i c' d' cd' sl' ho;have z:=(X _ _ ho).symm.trans htp;cases z
    · cases hcD
  ca:=fun {prog w A E Q s} X p k=>by
    obtain ⟨h,g,d,t,os⟩:=s;obtain ⟨o,h1,h2⟩:=p;obtain ⟨B,hg⟩:=x.sl;exact uV (x.lk _ _ X) hg h1 h2 k
open PySem PySem.Spec PyProof.Rows
theorem hZ:∀ {bs:List Bool} {its:List Value},Vals (bs.map V.bl) its→its=bs.map Value.bool
  | [],_,.nil=>rfl
  | b :: r,_,.cons h t=>by
    cases (show _=Value.bool b from h);rw [hZ t];rfl
theorem rA {X:Cx} {pins:List (Addr × Obj)} {σ:St} {H:Hp} {s:Shared} (I:Inv X pins σ H s) {A:Around} (hu:A.units+0 < cLine) (b:Bool):SeqAt.EqAt A s (.bool b) (.bool true) (Value.bool b == Value.bool true):=by
  have z:=(EqR.flat (K:=X.K) (H:=H) (n:=0) (x:=.bl b) (y:=.bl true) rfl rfl).at I (A:=A) (u:=.bool b) (v:=.bool true) rfl rfl hu;have e:eqV (.bl b) (.bl true)=(Value.bool b == Value.bool true):=by cases b <;> rfl
  rw [e] at z;exact z
theorem sh {X:Cx} (hu:X.A.units+64 < cLine):MtR X "list.count" (fun x vs H Q=>∃ (l:Addr) (bs:List Bool),x=.ref l∧vs=[.bl true]∧SqL X.K H l (bs.map V.bl)∧Q (.int (bs.countP id:Nat)) H):=by
  intro pins s σ H x vs v us Q I rx rv h;obtain ⟨l,bs,rfl,rfl,hq,q⟩:=h;cases rx;obtain ⟨u,rfl,ru⟩:=gm rv;cases ru;obtain ⟨its,r,⟨o,n,ho,hc,hs,hd⟩,hz⟩:=I.list hq;have ei:=hZ r;subst ei;obtain ⟨oc,od,dat,sl⟩:=o;cases (show oc=_ from hc);cases (show dat=_ from hd);refine call_meets F.slot_list_count ⟨_,ho,rfl⟩ F.entry_list_count (F.args_list_count_2 _ _) (SeqAt.list_countAt l (bs.map Value.bool).toArray n od sl (.bool true) (fun v=>v == .bool true)) ⟨ho,fun y hy=>?_,?_⟩
  · have hy':y∈bs.map Value.bool:=by simpa using hy
    obtain ⟨b,_,rfl⟩:=abr.mp hy';exact rA I (by show X.A.units+1+0 < cLine;lia) b
  · have e:(bs.map Value.bool).countP (fun v=>v == .bool true)=bs.countP id:=by
      rw [List.countP_map];congr 1;funext b;cases b <;> rfl
    refine ⟨.int (bs.countP id:Nat),H,I.tok _,⟨s.toks,?_⟩,q⟩;show Value.int (((bs.map Value.bool).toArray.toList.countP fun v=>v == .bool true:Nat):Int) s.toks=_;rw [show (bs.map Value.bool).toArray.toList=bs.map Value.bool from rfl,e]
theorem sg {X:Cx} (hu:X.A.units+64 < cLine):MtR X "list.index" (fun x vs H Q=>∃ (l:Addr) (bs:List Bool) (j:Nat),x=.ref l∧vs=[.bl true]∧SqL X.K H l (bs.map V.bl)∧bs[j]?=some true∧(∀ m,m < j→bs[m]?=some false)∧bs.length≤1000∧Q (.int (j:Nat)) H):=by
  intro pins s σ H x vs v us Q I rx rv h;obtain ⟨l,bs,j,rfl,rfl,hq,hj,hb,hl,q⟩:=h;cases rx;obtain ⟨u,rfl,ru⟩:=gm rv;cases ru;obtain ⟨its,r,⟨o,n,ho,hc,hs,hd⟩,hz⟩:=I.list hq;have ei:=hZ r;subst ei;obtain ⟨oc,od,dat,sl⟩:=o;cases (show oc=_ from hc);cases (show dat=_ from hd);have hjl:j < bs.length:=(aan.mp hj).1;refine call_meets F.slot_list_index ⟨_,ho,rfl⟩ F.entry_list_index (F.args_list_index_2 _ _) (SeqAt.list_indexAt l (bs.map Value.bool).toArray n od sl (.bool true) (fun v=>v == .bool true) j (by simpa using hjl) (by lia) ?_ ?_) ⟨ho,fun y hy=>?_,?_⟩
  · have : bs[j]=true:=(aan.mp hj).2;simp [this]
  · intro m hm hmj;have : bs[m]'(by simpa using hm)=false:=(aan.mp (hb m hmj)).2;simp [this]
  · have hy':y∈bs.map Value.bool:=by simpa using hy
    obtain ⟨b,_,rfl⟩:=abr.mp hy';exact rA I (by show X.A.units+1+0 < cLine;lia) b
  · exact ⟨.int (j:Nat),H,I.tok _,⟨_,rfl⟩,q⟩
theorem jN:∀ {ns:List Int} {its:List Value},Vals (ns.map V.int) its→∃ ts:List (Int × Tok),its=ts.map (fun p=>Value.int p.1 p.2)∧ts.map (·.1)=ns
  | [],_,.nil=>⟨[],rfl,rfl⟩
  | i :: r,_,.cons h t=>by
    obtain ⟨k,rfl⟩:=(show ∃ k,_=Value.int i k from h)
    obtain ⟨ts,e1,e2⟩:=jN t;exact ⟨(i,k) :: ts,by rw [e1];rfl,by rw [aaH,e2]⟩
theorem pA {X:Cx} (hc:X.calm=true):dG X (.builtin "sum") (fun xs H Q=>∃ (p:Addr) (ns:List Int),xs=[.ref p]∧SqL X.K H p (ns.map V.int)∧Q (.int ns.sum) H):=by
  intro pins s σ H xs us Q I r h;obtain ⟨p,ns,rfl,hq,q⟩:=h;obtain ⟨u,rfl,rx⟩:=gm r;cases rx;obtain ⟨its,r',pl,hz⟩:=I.list hq;obtain ⟨ts,e1,e2⟩:=jN r';subst e1;have el:(ts.map (fun p=>Value.int p.1 p.2)).toArray=intItems ts.toArray:=by unfold intItems;simp
  refine sum_intListG (xs:=ts.toArray) (I.ok.hd hc) (by rw [← el];exact pl.isList) fun h' tk t' hk=>?_;have e:preSum (numAt ts.toArray) ts.toArray.size=ns.sum:=by
    rw [preSum_eq,abe (by simp),← e2]
  rw [e];exact ⟨.int ns.sum,H,I.kept (t':=tk) hk,⟨t',rfl⟩,q⟩
open PySem PySem.Spec PyProof.Rows
open PySem PySem.Spec PyProof.Rows
def jy (es:Array DictEntry):Bool:=es.toList.all fun e=>match e.key with|.str _ _=>true|_=>false
theorem uA {es:Array DictEntry} (h:jy es=true):StrKeys es:=fun e he=>by
  have z:=aa4.mp h e (by simpa using he);cases q:e.key with
  | str n t=>exact ⟨n,t,rfl⟩
  | _=>rw [q] at z;cases z
section
variable {K:aaa} {C Pa N N':Addr} {nm nm' q q':Str} {bs bs' sub sub':List Value} {hdct hdct':Bool} {sn sn':List Str} {ab ab':Bool} {col col':Option Bool} {dd dd':Option Addr} {k0 k1 k2 k3 k5 k0' k1' k2' k3' k5' oc oc':Option Value}
  {c1 c2:Value} {od od':Option Addr} {es es':Array DictEntry} {n n':Nat} {sl sl':Array (Option Value)}
theorem v_ (s:K.lookup N=some ⟨c1,od,.dict es n,sl⟩) (t:jy es=true) {h:Heap} (X:K.In h):h.Ns N (nsFind es):=⟨_,es,n,X _ _ s,rfl,uA t,fun _=>rfl⟩
abbrev mE:List Value:=[.type "ValueError",.type "Exception",.type "BaseException",.type "object"]
theorem qA (l:K.lookup C=some (excClassObj nm q C N bs (.ref Pa :: mE) hdct sn sub ab col dd k0 k1 k2 k3 k5 "ValueError.__new__")) (s:K.lookup N=some ⟨c1,od,.dict es n,sl⟩) (t:jy es=true) (i:nsFind es "__init__" = none)
    (l':K.lookup Pa=some (excClassObj nm' q' Pa N' bs' mE hdct' sn' sub' ab' col' dd' k0' k1' k2' k3' k5' "ValueError.__new__")) (s':K.lookup N'=some ⟨c2,od',.dict es' n',sl'⟩) (t':jy es'=true) (i':nsFind es' "__init__" = none):EC K C :=
  ⟨_,_,_,_,_,_,_,_,_,_,_,_,_,_,_,_,"ValueError",_,_,_,nsFind es,PySem.F.excBase_ValueError,(by rfl),i,fun h X=>⟨X _ _ l,v_ s t X,.own (X _ _ l') (v_ s' t' X) i' .base⟩⟩
theorem mG (l:K.lookup C=some (excClassObj nm q C N bs (.ref Pa :: mE) hdct sn sub ab col dd k0 k1 k2 k3 k5 "ValueError.__new__"))
    (l':K.lookup Pa=some (excClassObj nm' q' Pa N' bs' mE hdct' sn' sub' ab' col' dd' k0' k1' k2' k3' k5' "ValueError.__new__")):Und K C Pa :=
  ⟨_,_,_,_,_,_,_,_,_,_,_,_,_,_,_,_,_,_,_,_,_,_,_,_,_,_,_,_,_,_,_,_,_,_,(by simp),(by rfl),fun h X=>⟨X _ _ l,X _ _ l'⟩⟩
theorem qz (l:K.lookup C=some (excClassObj nm q C N bs (.ref Pa :: mE) hdct sn sub ab col dd k0 k1 k2 k3 k5 "ValueError.__new__")) (f1:aaW K (.ref C) "__getattribute__" = some (some (.builtin "BaseException.__getattribute__"))) (f2:aaW K (.ref C) "__getattr__" = some none)
    (f3:aaW K (.ref C) "__class__" = some (some (.builtin "object.__class__"))) (f4:aaq K (.ref C) (.type "BaseException")=some true) (f5:aaq K (.ref C) (.type "object")=some true):ExC K C where
  lk:=fun M h X=>⟨PySem.W.looks_findIn X f1,PySem.W.looks_findIn X f2,PySem.W.looks_findIn X f3,PySem.W.looks_subIn X f4,by
    have e:(".".intercalate ("object.__class__".cutAt '.').dropLast) = "object":=by decide +kernel
    rw [e];exact PySem.W.looks_subIn X f5⟩
  cl:=by unfold aa0;rw [l];rfl
  sl:=⟨"ValueError",PySem.F.attrBase_ValueError.ga⟩
theorem aZ {D:Addr} {cd:ClassData} {b:Bool} (ne:(Value.ref C == Value.ref D)=false) (h1:aa0 K D=some cd) (h2:abb K (.ref D)=some (.type "type")) (h3:aaq K (.ref C) (.ref D)=some b):aaJ K (.ref C) (.ref D)=some b:=by
  unfold aaJ PySem.W.kitCls;rw [ne,if_neg (by simp)];show (if ((aa0 K D).isSome && abb K (Value.ref D) == some (Value.type "type"))=true then aaq K (Value.ref C) (Value.ref D) else none)=some b;rw [h1,h2];exact (if_pos (by simp)).trans h3
theorem kI:aaJ K (.ref C) (.ref C)=some true:=by
  unfold aaJ;rw [if_pos (beq_self_eq_true _)]
theorem nz (h3:aaq K (.ref C) (.type "ValueError")=some true):aaJ K (.ref C) (.type "ValueError")=some true:=by
  unfold aaJ PySem.W.kitCls;have e:PySem.W.kitMeta "ValueError" = true:=by decide +kernel
  have e1:(Value.ref C == Value.type "ValueError")=false:=rfl;simp only [e1,e,if_true];exact h3
end
end L2
namespace L2
open PySem
theorem kJ {K:aaa} {t a b c d:Value} (h1:aaJ K t a=some false) (h2:aaJ K t b=some false) (h3:aaJ K t c=some false) (h4:aaJ K t d=some false):PySem.W.kitAny K t [a,b,c,d]=some false:=by
  simp only [PySem.W.kitAny,h1,h2,h3,h4]
open PySem PySem.Spec PyProof.Rows
open PySem PySem.Spec PyProof.Rows
section
variable {X:Cx}
theorem Inv.useEnd {pins:List (Addr × Obj)} {σ:St} {H2 H3:Hp} {s2 s4:Shared} {C Dd:Addr} {i₀:Nat} {x:Str} {px:Pos} (I2:Inv X pins σ H2 s2) (hC:s2.heap.objs.size≤C) (hN:X.N.Nodup) (hiN:X.N[i₀]?=some x) (hx:Loc X.env.scope x) (hf:X.fn x=true∨X.env.scope.names.lookup x=some .local)
    (I7:Inv X pins σ H3 s4) (cC:H3 C=none) (hnC:∃ m,s4.heap.Ns C m) {Nx:St→Hp→Prop} (qn:Nx (σ.set i₀ (some (.ref Dd))) H3) :
    compPost (model X.prog X.w) X.A X.xe (some (assign (.Name x px) X.env)) (fun _ s'=>∃ σ' H',Inv X pins σ' H' s'∧Nx σ' H') (.ref Dd) C (.ok .next) s4:=by
  obtain ⟨m,oC,es,ep,hoC,hdC,rC⟩:=hnC;have nL:C≠X.env.locals:=abd (aas I2.lt hC);have I8:Inv X ((C,oC) :: pins) σ H3 s4:=I7.pins_of fun p hp=>by
    rcases aao.mp hp with z|z
    · rw [z];exact ⟨hoC,cC,nL,fun hz=>I2.nofs hC hz,fun v z=>by rw [hdC] at z;cases z⟩
    · exact I7.pin p (aab _ z)
  show wpAny _ X.A (assign (.Name x px) X.env (.ref Dd)) _ _ s4;refine wpAny_assign_Name (gt (v:=.ref Dd) I8 hN hiN hx rfl (fun s5 I9=>?_) hf);have pC:=I9.pin (C,oC) (aab _ aav);exact ⟨m,⟨oC,es,ep,pC.1,hdC,rC⟩,fun h' hsb=>⟨_,_,I2.offC hC (I9.pins_of fun p hp=>I9.pin p (aab _ (aai _ hp))) cC fun b o hb e=>hsb.extBut b o hb e,qn⟩⟩
theorem qQ {i₀:Nat} {x:Str} {px spos:Pos} {elt tg iter:Expr} {ifs:List Expr} {scope:Scope} {pos:Pos} {cl:List (Str × Addr)} {NY:List Str} {cap:List (Option Nat)} {wi:TI} {g:TG} {tt:TT} {te:TE} (hN:X.N.Nodup) (hiN:X.N[i₀]?=some x) (hx:Loc X.env.scope x) (hc:X.calm=true) (hi:PI X tg iter wi)
    (hclos:closureFor scope X.env=pure cl) (hci:CellsIn X.env cl) (hcap:CapOk X.env (relabel scope X.env) X.N NY cap)
    (hb:∀ fp s H C,PG (bi X scope cl NY fp s H C) tg g∧iw (bi X scope cl NY fp s H C) ifs tt∧PE (bi X scope cl NY fp s H C) elt te)
    (hkind:scope.kind=.function:=by rfl) (hnc:(scope.names.all fun y=>y.2 != .cell)=true:=by rfl)
    (hnames:(scope.names.all fun y=>y.2 != .local || scope.names.lookup y.1 == some .local)=true:=by rfl)
    (hhas:((relabel scope X.env).names.all fun p=>(p.2 != .cell && p.2 != .free) || (cl.lookup p.1).isSome)=true:=by rfl)
    (hs:∀ x,foldedSetIterable iter X.env x=pure x:=by intro _;rfl) (hsw:swapsWith (.ListComp elt [⟨tg,iter,ifs,0⟩] scope pos) (some (.Name x px)) spos.line X.env=pure true:=by rfl)
    (hf:X.fn x=true∨X.env.scope.names.lookup x=some .local:=by first|exact .inl rfl|exact .inr rfl|assumption) :
    PS X (.Assign [.Name x px] (.ListComp elt [⟨tg,iter,ifs,0⟩] scope pos) spos) (wL (tLc cap wi g tt te) (uG i₀)):=by
  intro pins s σ H D I h;rw [exec_Assign_Name_used _ _ _ _ hsw];refine wpAny_bind (wpAny_standAt (wpAny_bind ?_));show wpAny _ X.A (do let _ ← comprehension (.ListComp elt [⟨tg,iter,ifs,0⟩] scope pos) scope X.env _ (newList []) false (eval iter X.env) (some (assign (.Name x px) X.env))) _ _ s;refine wpAny_bind (wpAny_mono (wpAny_comprehension_free (use:=some (assign (.Name x px) X.env)) (Q:=fun _ s'=>∃ σ' H',Inv X pins σ' H' s'∧D.nx σ' H') rfl hs hclos hkind (jM hnames) (wpAny_mono (hi pins s σ H _ I h) (fun v s1 h1=>wpAny_mono h1 (fun itv s2 h2=>?_) fun _ _ e=>e) fun _ _ e=>e)) (fun _ s' hq=>wpAny_pure (wpAny_pure hq)) fun _ _ e=>e);obtain ⟨it,fp,tn,J,H2,e,I2,T,st2,f2,W,⟨m0,w0⟩,turn⟩:=h2;subst e;refine wpAny_newObj_type (wpAny_newFunctionEnv (qH hnc) (by intro y hy;simp at hy) (fun h₁ hns₁ hsb₁=>?_) hkind);dsimp only at hns₁ hsb₁ ⊢;obtain ⟨hC,B,hD⟩:=I2.newC hci hkind hhas hns₁ fun b o hb e=>hsb₁.extBut b o hb (aac _ e);generalize (s2.heap.push { cls:=.type "list",dict:=none,data:=.seq ([]:List Value).toArray }).objs.size=C at hC B ⊢;obtain ⟨hbg,hbt,hbe⟩:=hb fp s2 H2 C;have stW:=T.keep _ _ h₁ st2 fun b _ o e=>B.old b o e;have loop:=I2.goLast f2 (T.lt st2) B hcap fZ hc hC rfl hD T stW hbe hbg hbt (G:=[⟨tg,iter,ifs,0⟩]) rfl rfl (scope:=scope) (pos:=pos) (iter:=iter) (t':=s2.toks+([]:List (Str × Value)).length) turn w0 (R:=compPost (model X.prog X.w) X.A X.xe (some (assign (.Name x px) X.env)) (fun _ s'=>∃ σ' H',Inv X pins σ' H' s'∧D.nx σ' H') (.ref s2.heap.objs.size) C) fun ys its k H s I4 rv hz fin=>by
    obtain ⟨I5,hD3,hC3,hn⟩:=I2.lstDone f2 (aae _) (abo hC) rfl I4 rv hz;exact I2.useEnd (abo hC) hN hiN hx hf I5 hC3 hn (fin _ hD3)
  exact codeAny_compStart_list loop (T.self _ 0 _ _ _ stW loop)
end
open PySem PySem.Spec PyProof.Rows
section
variable {X:Cx}
end
open PySem PySem.Spec PyProof.Rows
section
variable {prog:Program} {w:World} {A:Around} {E:Value→Shared→Prop} {s:Shared} {I:Addr} {fp wr:List Addr} {G:Array GenState→Array GenState→Prop} {n:Nat} {P:Nat→Value→Prop} {St:Nat→Shared→Prop}
end
end L2
set_option maxHeartbeats 1000000
namespace L2
open PySem PySem.Spec PyProof.Rows
section
variable {X:Cx} {pos:Pos} {t u:TS}
end
open PySem PySem.Spec PyProof.Rows
section
variable {X:Cx}
end
open PySem PySem.Spec PyProof.Rows
section
variable {X:Cx}
end
end L2
namespace PySem
open Builtin Builtin.Str Builtin.Int
section
variable {prog:Program} {w:World} {A:Around} {E:Value→Shared→Prop} {s:Shared} {x:Str} {t:Tok} {Q:Value→Shared→Prop}
  {I:Addr} {fp wr:List Addr} {G:Array GenState→Array GenState→Prop} {n:Nat} {P:Nat→Value→Prop} {St:Nat→Shared→Prop}
end
end PySem
namespace L2
open PySem PySem.Spec PyProof.Rows
section
variable {X:Cx}
end
open PySem PySem.Spec PyProof.Rows
section
variable {X:Cx}
end
open PySem PySem.Spec PyProof.Rows
section
variable {X:Cx} {pins:List (Addr × Obj)} {σ:St} {H:Hp} {s:Shared} {A:Around} {Q:Value→Shared→Prop} {E:Value→Shared→Prop} {b:Bool}
end
section
variable {X:Cx} {a b c d:Expr} {ta tb tc td:TE} {pos:Pos}
def vi (r r' r'':R2) (ta tb tc td:TE):TE:=fun σ H Q=>ta σ H fun x H1=>tb σ H1 fun y H2=>r x y H2 fun z H3=>∃ k,z=.bl k ∧
  (if k=true then tc σ H3 fun w' H4=>r' y w' H4 fun z' H5=>∃ k',z'=.bl k'∧(if k'=true then td σ H5 fun w'' H6=>r'' w' w'' H6 Q else Q (.bl false) H5) else Q (.bl false) H3)
theorem jc {op op' op'':CmpOp} {r r' r'':R2} (ho:OpR X (compareOp op) r) (ho':OpR X (compareOp op') r') (ho'':OpR X (compareOp op'') r'') (ha:PE X a ta) (hb:PE X b tb) (hc:PE X c tc) (hd:PE X d td)
    (hm:lastMarks [op,op',op''] [b,c,d]=false:=by with_unfolding_all rfl):PE X (.Compare a [op,op',op''] [b,c,d] pos) (vi r r' r'' ta tb tc td):=by
  intro pins s σ H Q I h;refine Compare_chain (thn (ha pins s σ H _ I h) fun v s1 ⟨x,H1,I1,r1,q1⟩=>chain_link (thn (hb pins s1 σ H1 _ I1 q1) fun u s2 ⟨y,H2,I2,r2,q2⟩ =>
    thn (ho pins s2 σ H2 x y v u _ I2 r1 r2 q2) fun d s3 ⟨z,H3,I3,r3,k,e,q3⟩=>?_)) hm
  subst e;cases r3;refine wpAny_truthy_bool ?_;cases k with
  | false=>exact ite_ff ⟨.bl false,H3,I3,rfl,q3⟩
  | true =>
    refine ite_tt (chain_link (thn (hc pins s3 σ H3 _ I3 q3) fun w' s4 ⟨z',H4,I4,r4,q4⟩=>thn (ho' pins s4 σ H4 y z' u w' _ I4 r2 r4 q4) fun d' s5 ⟨z2,H5,I5,r5,k2,e2,q5⟩=>?_));subst e2;cases r5;refine wpAny_truthy_bool ?_;cases k2 with
    | false=>exact ite_ff ⟨.bl false,H5,I5,rfl,q5⟩
    | true=>exact ite_tt (chain_last (thn (hd pins s5 σ H5 _ I5 q5) fun w'' s6 ⟨z3,H6,I6,r6,q6⟩=>ho'' pins s6 σ H6 z' z3 w' w'' Q I6 r4 r6 q6))
end
section
variable {X:Cx}
end
open PySem PySem.Spec PyProof.Rows
section
variable {X:Cx} {o e:Expr} {es:List Expr} {to:TE} {t:TA} {name:Str} {apos cpos:Pos} {T id:String} {r:V→List V→Hp→VK→Prop} {K:aaa}
end
open PySem PySem.Spec PyProof.Rows
structure Trn (J:It) (n:Nat) (Kp:Hp→Prop) (item:Nat→V→Hp→Hp→Prop):Prop where
  go:∀ i H,i < n→Kp H→J.go i H
  stop:∀ H,Kp H→J.stop n H
  yld:∀ i H x H',i < n→Kp H→J.yld i H x H'→item i x H H'
theorem Trn.list {K:aaa} {a:Addr} {xs:List V}:Trn (Itl K a) xs.length (fun H=>SqL K H a xs) (fun i x H H'=>H'=H∧xs[i]?=some x) :=
  ⟨fun i H hi q=>⟨xs,xs[i],q,by simp [hi]⟩,fun H q=>⟨xs,q,aae _⟩,fun i H x H' hi q y=>⟨y.1,y.2 xs q⟩⟩
theorem Trn.tup {K:aaa} {a:Addr} {xs:List V}:Trn (Itt K a) xs.length (fun H=>SqT K H a xs) (fun i x H H'=>H'=H∧xs[i]?=some x) :=
  ⟨fun i H hi q=>⟨xs,xs[i],q,by simp [hi]⟩,fun H q=>⟨xs,q,aae _⟩,fun i H x H' hi q y=>⟨y.1,y.2 xs q⟩⟩
theorem Trn.range {lo:Int} {n:Nat}:Trn (Itr lo n) n (fun _=>True) (fun i x H H'=>H'=H∧x=.int (lo+i)) :=
  ⟨fun i H hi _=>hi,fun H _=>aae _,fun i H x H' hi _ y=>y⟩
theorem eV {J:It} {n:Nat} {Kp:Hp→Prop} {item:Nat→V→Hp→Hp→Prop} (T:Trn J n Kp item) {cap:List (Option Nat)} {g:TG} {tt:TT} {te:TE} {σ:St} {H:Hp} {Q:VK} (Pv:Nat→List V→Hp→Prop) (h0:Pv 0 [] H) (hk:∀ i ys H,i≤n→Pv i ys H→Kp H∧ys.length < sizeLine)
    (hs:∀ i x ys H H',i < n→item i x H H'→Pv i ys H→∀ Nx:List V→Hp→Prop,(∀ ys' H2,Pv (i+1) ys' H2→Nx ys' H2)→g x (da cap σ) H' fun σ2 H2=>tt σ2 H2 fun b H3=>if b=true then te σ2 H3 fun v H4=>Nx (ys++[v]) H4 else Nx ys H3)
    (hd:∀ ys H,Pv n ys H→∀ p,H p=none→Q (.ref p) (upd H p (.lst ys))):vY cap g tt te σ Q J H:=by
  refine ⟨fun i m ys H=>m=n - i∧i≤n∧Pv i ys H,⟨n,by simp,aaO _,h0⟩,?_⟩;rintro i m ys H ⟨rfl,hi,p⟩;by_cases hlt:i < n
  · refine .inr ⟨T.go i H hlt (hk i ys H hi p).1,(hk i ys H hi p).2,fun x H' y=>?_⟩;exact hs i x ys H H' hlt (T.yld i H x H' hlt (hk i ys H hi p).1 y) p (fun ys' H4=>∃ m',m' < n - i∧m'=n - (i+1)∧i+1≤n∧Pv (i+1) ys' H4) fun ys' H2 h=>⟨_,by lia,rfl,hlt,h⟩
  · have e:i=n:=by lia
    subst e;exact .inl ⟨T.stop H (hk _ ys H hi p).1,hd ys H p⟩
theorem xl {J:It} {n:Nat} {Kp:Hp→Prop} {item:Nat→V→Hp→Hp→Prop} (T:Trn J n Kp item) {cap:List (Option Nat)} {g:TG} {tt:TT} {wi2:TI} {g2:TG} {tt2:TT} {te:TE} {σ:St} {H:Hp} {Q:VK} (Pv:Nat→List V→Hp→Prop) (h0:Pv 0 [] H) (hk:∀ i ys H,i≤n→Pv i ys H→Kp H)
    (hs:∀ i x ys H H',i < n→item i x H H'→Pv i ys H→∀ Nx:List V→Hp→Prop,(∀ ys' H2,Pv (i+1) ys' H2→Nx ys' H2)→g x (da cap σ) H' fun σ2 H2=>tt σ2 H2 fun b H3=>if b=true then wi2 σ2 H3 (wq g2 tt2 te ys σ2 Nx) else Nx ys H3)
    (hd:∀ ys H,Pv n ys H→∀ p,H p=none→Q (.ref p) (upd H p (.lst ys))):wu cap g tt wi2 g2 tt2 te σ Q J H:=by
  refine ⟨fun i m ys H=>m=n - i∧i≤n∧Pv i ys H,⟨n,by simp,aaO _,h0⟩,?_⟩;rintro i m ys H ⟨rfl,hi,p⟩;by_cases hlt:i < n
  · refine .inr ⟨T.go i H hlt (hk i ys H hi p),fun x H' y=>?_⟩;exact hs i x ys H H' hlt (T.yld i H x H' hlt (hk i ys H hi p) y) p (fun ys' H4=>∃ m',m' < n - i∧m'=n - (i+1)∧i+1≤n∧Pv (i+1) ys' H4) fun ys' H2 h=>⟨_,by lia,rfl,hlt,h⟩
  · have e:i=n:=by lia
    subst e;exact .inl ⟨T.stop H (hk _ ys H hi p),hd ys H p⟩
theorem xi {J:It} {n:Nat} {Kp:Hp→Prop} {item:Nat→V→Hp→Hp→Prop} (T:Trn J n Kp item) {g2:TG} {tt2:TT} {te:TE} {ys:List V} {σ:St} {H:Hp} {Fin:List V→Hp→Prop} (Pv:Nat→List V→St→Hp→Prop) (h0:Pv 0 ys σ H) (hk:∀ i ys σ H,i≤n→Pv i ys σ H→Kp H∧ys.length < sizeLine)
    (hs:∀ i x ys σ H H',i < n→item i x H H'→Pv i ys σ H→∀ Nx:List V→St→Hp→Prop,(∀ ys' σ' H2,Pv (i+1) ys' σ' H2→Nx ys' σ' H2)→g2 x σ H' fun σ3 H5=>tt2 σ3 H5 fun b H6=>if b=true then te σ3 H6 fun v H7=>Nx (ys++[v]) σ3 H7 else Nx ys σ3 H6)
    (hd:∀ ys σ H,Pv n ys σ H→Fin ys H):wq g2 tt2 te ys σ Fin J H:=by
  refine ⟨fun i m ys σ H=>m=n - i∧i≤n∧Pv i ys σ H,⟨n,by simp,aaO _,h0⟩,?_⟩;rintro i m ys σ H ⟨rfl,hi,p⟩;by_cases hlt:i < n
  · refine .inr ⟨T.go i H hlt (hk i ys σ H hi p).1,(hk i ys σ H hi p).2,fun x H' y=>?_⟩;exact hs i x ys σ H H' hlt (T.yld i H x H' hlt (hk i ys σ H hi p).1 y) p (fun ys' σ' H4=>∃ m',m' < n - i∧m'=n - (i+1)∧i+1≤n∧Pv (i+1) ys' σ' H4) fun ys' σ' H2 h=>⟨_,by lia,rfl,hlt,h⟩
  · have e:i=n:=by lia
    subst e;exact .inl ⟨T.stop H (hk _ ys σ H hi p).1,hd ys σ H p⟩
open PySem PySem.Spec PyProof.Rows
theorem uZ {X:Cx} (hc:X.calm=true):dG X (.builtin "any") (fun xs H Q=>∃ (p:Addr) (bs:List Bool),xs=[.ref p]∧SqL X.K H p (bs.map V.bl)∧Q (.bl (bs.any id)) H):=by
  intro pins s σ H xs us Q I r h;obtain ⟨p,bs,rfl,hq,q⟩:=h;obtain ⟨u,rfl,rx⟩:=gm r;cases rx;obtain ⟨its,r',pl,hz⟩:=I.list hq;have hlen:=r'.length;rw [aak] at hlen;have hps:p < s.heap.objs.size:=by obtain ⟨o,n,ho,_⟩:=pl;exact aat ho
  refine call_any_walk (wpAny_pyIter_list pl.isList ?_);refine ⟨s.heap.objs.size,_,_,_,_,_,fun i=>bs.getD i false,rfl,ace (A:=X.A.in1) (I.ok.hd hc) s.heap.objs.size p (aaE hps) its.toArray,⟨⟨_,aaB _ rfl,rfl,rfl⟩,pl.isList.at fun o x=>aac _ x⟩,?_,?_⟩
  · intro i v s' Q' E' hP hQ';have hv:its.toArray[i]?=some v:=hP;have hv2:its[i]?=some v:=by simpa using hv
    have hi:i < bs.length:=by
      have:=(aan.mp hv2).1;lia
    have hb:(bs.map V.bl)[i]?=some (.bl bs[i]):=by rw [aaX,aad hi];rfl
    obtain ⟨u,hu,ru⟩:=r'.get hb;rw [hv2] at hu;cases hu;cases ru;have e:bs.getD i false=bs[i]:=by rw [aay,aad hi];rfl
    have hQ2:Q' (bs.getD i false) s':=hQ';rw [e] at hQ2;exact wpAny_pure hQ2
  · intro h' tk k;have I2:Inv X pins σ H { s with heap:=h',toks:=tk }:=by
      refine I.turnedL (fp:=[s.heap.objs.size]) (t':=tk) (fun b o hb x=>k b o (by simpa using hb) (aac _ x)) fun b hb=>?_;have e:b=s.heap.objs.size:=by simpa using hb
      subst e;exact I.fpOk (aae _) (I.hok.fresh (aae _))
    have e:(aaQ its.toArray.size).any (fun i=>bs.getD i false)=bs.any id:=by
      have e1:its.toArray.size=bs.length:=by simp;lia
      rw [e1];apply Bool.eq_iff_iff.mpr;rw [List.any_eq_true,List.any_eq_true];constructor
      · rintro ⟨i,hi,hh⟩;have hi:=aaV.mp hi;rw [aay,aad hi] at hh;exact ⟨_,abz hi,hh⟩
      · rintro ⟨b,hb,hh⟩;obtain ⟨i,hi,e⟩:=aby hb;refine ⟨i,aaV.mpr hi,?_⟩;rw [aay,aad hi];rw [← e] at hh;exact hh
    rw [e];exact ⟨.bl (bs.any id),H,I2,rfl,q⟩
theorem sT {X:Cx} {K:aaa} (hK:X.K=K) (hc:X.calm=true):dG X (.builtin "any") (fun xs H Q=>∃ (p:Addr) (bs:List Bool),xs=[.ref p]∧SqL K H p (bs.map V.bl)∧Q (.bl (bs.any id)) H):=by subst hK;exact uZ hc
theorem EqR.pair {K:aaa} {H:Hp} {n:Nat} {p q:Int × Int} {x y:V} (hx:PairIn H p x) (hy:PairIn H q y):EqR K H (n+1) x y (decide (p=q)):=by
  obtain ⟨a,rfl,ha⟩:=hx;obtain ⟨b,rfl,hb⟩:=hy;have:=EqR.tup (K:=K) (n:=n) (e:=fun j=>if j=0 then p.1 == q.1 else p.2 == q.2) (SqT.of ha) (SqT.of hb) fun j x y hx hy=>by
    match j,hx,hy with
    | 0,hx,hy=>simp at hx hy;subst hx hy;exact EqR.flat (K:=K) (H:=H) (n:=n) (x:=.int p.1) (y:=.int q.1) rfl rfl
    | 1,hx,hy=>simp at hx hy;subst hx hy;exact EqR.flat (K:=K) (H:=H) (n:=n) (x:=.int p.2) (y:=.int q.2) rfl rfl
    | j+2,hx,hy=>simp at hx
  have e:((aaQ (min [V.int p.1,V.int p.2].length [V.int q.1,V.int q.2].length)).all (fun j=>if j=0 then p.1 == q.1 else p.2 == q.2) && [V.int p.1,V.int p.2].length == [V.int q.1,V.int q.2].length)=decide (p=q):=by
    obtain ⟨a1,a2⟩:=p;obtain ⟨b1,b2⟩:=q;have : aaQ (min [V.int a1,V.int a2].length [V.int b1,V.int b2].length)=[0,1]:=rfl;rw [this,abL];simp
  rw [e] at this;exact this
theorem jd {X:Cx} {pins:List (Addr × Obj)} {σ:St} {H:Hp} {s:Shared} (I:Inv X pins σ H s) {p:Int × Int}:∀ {ps:List (Int × Int)} {us:List V} {its:List Value},PairsIn H ps us→Vals us its →
    ∃ f:Value→Bool,(∀ y∈its,∃ q v,PairIn H q v∧RelV v y∧f y=decide (q=p))∧its.any f=decide (p∈ps):=by
  classical
  intro ps us its h r;refine ⟨fun y=>decide (∃ a,y=Value.ref a∧H a=some (.tup [.int p.1,.int p.2])),?_,?_⟩
  · induction h generalizing its with
    | nil=>cases r;intro y hy;cases hy
    | @cons q v ps us hq _ ih =>
      cases r with
      | cons rv rt =>
        intro y hy;rcases aao.mp hy with rfl|hy
        · refine ⟨q,v,hq,rv,?_⟩;obtain ⟨a,rfl,ha⟩:=hq;cases rv;by_cases c:q=p
          · subst c;rw [decide_eq_true rfl];exact decide_eq_true ⟨a,rfl,ha⟩
          · rw [decide_eq_false c];refine decide_eq_false ?_;rintro ⟨b,e,hb⟩;cases e;rw [ha] at hb;apply c;obtain ⟨q1,q2⟩:=q;obtain ⟨p1,p2⟩:=p;simp at hb;rw [hb.1,hb.2]
        · exact ih rt y hy
  · induction h generalizing its with
    | nil=>cases r;simp
    | @cons q v ps us hq _ ih =>
      cases r with
      | cons rv rt =>
        rw [ab3,ih rt];obtain ⟨a,rfl,ha⟩:=hq;cases rv;by_cases c:q=p
        · subst c;have e0:decide (∃ b,Value.ref a=Value.ref b∧H b=some (.tup [.int q.1,.int q.2]))=true:=decide_eq_true ⟨a,rfl,ha⟩;show (decide (∃ b,Value.ref a=Value.ref b∧H b=some (.tup [.int q.1,.int q.2])) || _)=_;rw [e0];simp
        · refine (fun (e0:decide (∃ b,Value.ref a=Value.ref b∧H b=some (HO.tup [.int p.1,.int p.2]))=false)=>?_) ?_
          · show (decide (∃ b,Value.ref a=Value.ref b∧H b=some (.tup [.int p.1,.int p.2])) || _)=_;rw [e0,Bool.false_or,abL,decide_eq_true_eq,decide_eq_true_eq,aao];exact ⟨.inr,fun h=>h.elim (fun e=>absurd e.symm c) id⟩
          · refine decide_eq_false ?_;rintro ⟨b,e,hb⟩;cases e;rw [ha] at hb;apply c;obtain ⟨q1,q2⟩:=q;obtain ⟨p1,p2⟩:=p;simp at hb;rw [hb.1,hb.2]
def x6 (K:aaa) (neg:Bool):R2:=fun x y H Q=>∃ (p:Int × Int) (l:Addr) (us:List V) (ps:List (Int × Int)),PairIn H p x∧y=.ref l∧SqL K H l us∧PairsIn H ps us∧Q (.bl (if neg then !decide (p∈ps) else decide (p∈ps))) H
theorem tW {X:Cx} {K:aaa} (hK:X.K=K) (hu:X.A.units+64 < cLine):OpR X (compareOp .In) (x6 K false):=by
  subst hK;intro pins s σ H x y v u Q I rx ry h;obtain ⟨p,l,us,ps,hp,rfl,hq,hps,q⟩:=h;cases ry;obtain ⟨its,r,pl,hz⟩:=I.list hq;obtain ⟨f,hf,ha⟩:=jd (p:=p) I hps r;refine SeqAt.in_listAt f pl.isList (fun w hw=>?_) ⟨.bl _,H,I,rfl,?_⟩
  · obtain ⟨q',v',h1,h2,h3⟩:=hf w (by simpa using hw);rw [h3];exact (EqR.pair (K:=X.K) (n:=0) h1 hp).at I h2 rx (by show X.A.units+1+(0+1) < cLine;lia)
  · rw [show its.toArray.any f=its.any f by simp,ha];exact q
theorem rX {X:Cx} {K:aaa} (hK:X.K=K) (hu:X.A.units+64 < cLine):OpR X (compareOp .NotIn) (x6 K true):=by
  subst hK;intro pins s σ H x y v u Q I rx ry h;obtain ⟨p,l,us,ps,hp,rfl,hq,hps,q⟩:=h;cases ry;obtain ⟨its,r,pl,hz⟩:=I.list hq;obtain ⟨f,hf,ha⟩:=jd (p:=p) I hps r;refine SeqAt.notIn_listAt f pl.isList (fun w hw=>?_) ⟨.bl _,H,I,rfl,?_⟩
  · obtain ⟨q',v',h1,h2,h3⟩:=hf w (by simpa using hw);rw [h3];exact (EqR.pair (K:=X.K) (n:=0) h1 hp).at I h2 rx (by show X.A.units+1+(0+1) < cLine;lia)
  · rw [show its.toArray.any f=its.any f by simp,ha];exact q
theorem rV {X:Cx} {K:aaa} {a:Expr} {ta:TE} (hK:X.K=K) (ha:PE X a ta) (he:∀ whole,isTrue a X.env whole=(do let v ← whole;standAt a.pos;holding [v] (truthy v))) :
    PT X a (fun σ H Q=>ta σ H fun x H'=>∃ k,xE K x H' k∧Q k H'):=by subst hK;exact eI ha he
open PySem PySem.Spec PyProof.Rows
abbrev nI (X:Cx) (scope:Scope) (x₁:Str) (cl:List (Str × Addr)) (NY:List Str) (fp:List Addr) (s:Shared) (H:Hp) (C:Addr):Cx:=fc X (compEnvC scope ((x₁,C+1) :: cl) C X.env) (fun y=>y == x₁) NY fp s H
theorem vG {M:Model} {A:Around} {E:Value→Shared→Prop} {s:Shared} {scope:Scope} {globals:Addr} {closure:List (Str × Addr)} {qual:Str} {env0:Env} {x₁:Str} {Q:Env→Shared→Prop}
    (hcf:∀ n acc,cellsFrom n scope.names acc=(x₁,n) :: acc) (hpc:∀ h:Heap,pushCells h scope.names=h.push { cls:=.type "cell",data:=.cell none })
    (h:Q (newEnv scope s.heap.objs.size globals ((x₁,s.heap.objs.size+1) :: closure) qual none .none (some env0) builtinsNs) { s with heap:=(s.heap.push { cls:=.type "dict",data:=.dict #[] }).push { cls:=.type "cell",data:=.cell none } }) :
    wpAny M A (newFunctionEnv scope globals closure [] qual none .none (some env0)) Q E s:=by
  simp only [newFunctionEnv,Option.isSome_some,if_true];refine wpAny_bind (wpAny_alloc ?_);refine wpAny_bind (wpAny_layCells _ (fun name kind cells=>by cases hkc:kind == NameKind.cell <;> simp [hkc]) _ _ _ _ ?_);rw [hcf,hpc,show ({ s with heap:=s.heap.push { cls:=.type "dict",data:=.dict #[] } }:Shared).heap.objs.size=s.heap.objs.size+1 from Heap.size_push ..];refine wpAny_bind ?_;rw [List.forIn_nil];exact wpAny_pure (wpAny_pure h)
section
variable {X:Cx}
theorem Inv.newCC {pins:List (Addr × Obj)} {σ:St} {H2:Hp} {s2:Shared} (I2:Inv X pins σ H2 s2) {scope:Scope} {x₁:Str} {cl:List (Str × Addr)} (hci:CellsIn X.env cl) (hkind:scope.kind=.function) (hhas:((relabel scope X.env).names.all fun p=>(p.2 != .cell && p.2 != .free) || (cl.lookup p.1).isSome || p.1 == x₁)=true) {o:Obj} (hof:o.isFreed=false) :
    s2.heap.objs.size < (s2.heap.push o).objs.size∧BlkC X s2 (((s2.heap.push o).push { cls:=.type "dict",data:=.dict #[] }).push { cls:=.type "cell",data:=.cell none }) (compEnvC scope ((x₁,(s2.heap.push o).objs.size+1) :: cl) (s2.heap.push o).objs.size X.env) (fun y=>y == x₁)∧(((s2.heap.push o).push { cls:=.type "dict",data:=.dict #[] }).push { cls:=.type "cell",data:=.cell none }).get? s2.heap.objs.size=some o:=by
  have hC:s2.heap.objs.size < (s2.heap.push o).objs.size:=by rw [Heap.size_push];exact abU _
  generalize hG:s2.heap.push o=G2 at hC;have hcell:((G2.push { cls:=.type "dict",data:=.dict #[] }).push { cls:=.type "cell",data:=.cell none }).get? (G2.objs.size+1)=some { cls:=.type "cell",data:=.cell none }:=by
    have:=aaB (G2.push { cls:=.type "dict",data:=.dict #[] }) (o:={ cls:=.type "cell",data:=.cell none }) rfl;rw [Heap.size_push] at this;exact this
  have hold:∀ b u,G2.get? b=some u→((G2.push { cls:=.type "dict",data:=.dict #[] }).push { cls:=.type "cell",data:=.cell none }).get? b=some u:=fun b o e=>aac _ (aac _ e);have look:∀ x c,((x₁,G2.objs.size+1) :: cl).lookup x=some c→(x=x₁∧c=G2.objs.size+1)∨(x≠x₁∧X.env.cells.lookup x=some c):=fun x c e=>by
    rw [List.lookup_cons] at e;cases q:x == x₁ with
    | true=>rw [q] at e;cases e;exact .inl ⟨by simpa using q,rfl⟩
    | false=>rw [q] at e;exact .inr ⟨by simpa using q,hci.get e⟩
  refine ⟨hC,⟨hkind,rfl,rfl,abo hC,fun b u e=>hold b u (hG ▸ aac _ e),⟨_,(Heap.Ns.new G2 (.type "dict")).push _⟩,fun x c e=>?_,fun x hx=>?_⟩,hold _ _ (hG ▸ aaB _ hof)⟩
  · rcases look x c e with ⟨rfl,rfl⟩|⟨q,z⟩
    · refine .inr ⟨by simp,acd (abo hC),Nat.succ_ne_self _,hcell,fun y e2=>?_⟩;rcases look y _ e2 with q|q
      · exact q.1
      · exact absurd (ab1 (ab1 (I2.cellLt _ _ q.2) hC) (abU _)) (abm _)
    · exact .inl ⟨by simpa using q,z⟩
  · have hx':(relabel scope X.env).names.lookup x=some .cell∨(relabel scope X.env).names.lookup x=some .free:=hx;have key:∀ k,(relabel scope X.env).names.lookup x=some k→(k=.cell∨k=.free)→∃ c,((x₁,G2.objs.size+1) :: cl).lookup x=some c:=fun k e hk=>by
      have q:=aa4.mp hhas (x,k) (abg e);rw [List.lookup_cons];cases z:x == x₁ with
      | true=>exact ⟨_,rfl⟩
      | false =>
        have q':(cl.lookup x).isSome=true:=by
          rcases hk with rfl|rfl <;> simpa [z] using q
        exact abG.mp q'
    rcases hx' with e|e
    · exact key _ e (.inl rfl)
    · exact key _ e (.inr rfl)
theorem ui {x₁:Str} {NY:List Str} {cap:List (Option Nat)} (h:((NY.zip cap).all fun p=>p.1 != x₁ || p.2 == none)=true):((NY.zip cap).all fun p=>!(fun y=>y == x₁) p.1 || p.2 == none)=true:=h
theorem wZ {x₁:Str} {elt tg iter:Expr} {ifs:List Expr} {scope:Scope} {pos:Pos} {cl:List (Str × Addr)} {NY:List Str} {cap:List (Option Nat)} {wi:TI} {g:TG} {tt:TT} {te:TE} (hc:X.calm=true) (hi:PI X tg iter wi)
    (hclos:closureFor scope X.env=pure cl) (hci:CellsIn X.env cl) (hcap:CapOk X.env (relabel scope X.env) X.N NY cap)
    (hb:∀ fp s H C,PG (nI X scope x₁ cl NY fp s H C) tg g∧iw (nI X scope x₁ cl NY fp s H C) ifs tt∧PE (nI X scope x₁ cl NY fp s H C) elt te)
    (hcf:∀ n acc,cellsFrom n scope.names acc=(x₁,n) :: acc:=by intro _ _;rfl) (hpc:∀ h:Heap,pushCells h scope.names=h.push { cls:=.type "cell",data:=.cell none }:=by intro _;rfl) (hx1:((NY.zip cap).all fun p=>p.1 != x₁ || p.2 == none)=true:=by rfl)
    (hkind:scope.kind=.function:=by rfl)
    (hnames:(scope.names.all fun y=>y.2 != .local || scope.names.lookup y.1 == some .local)=true:=by rfl)
    (hhas:((relabel scope X.env).names.all fun p=>(p.2 != .cell && p.2 != .free) || (cl.lookup p.1).isSome || p.1 == x₁)=true:=by rfl)
    (hs:∀ x,foldedSetIterable iter X.env x=pure x:=by intro _;rfl) :
    PE X (.ListComp elt [⟨tg,iter,ifs,0⟩] scope pos) (tLc cap wi g tt te):=by
  intro pins s σ H Q I h;rw [eval_ListComp];refine wpAny_comprehension_free (use:=none) rfl hs hclos hkind (jM hnames) (wpAny_mono (hi pins s σ H _ I h) (fun v s1 h1=>wpAny_mono h1 (fun itv s2 h2=>?_) fun _ _ e=>e) fun _ _ e=>e);obtain ⟨it,fp,tn,J,H2,e,I2,T,st2,f2,W,⟨m0,w0⟩,turn⟩:=h2;subst e;refine wpAny_newObj_type (vG hcf hpc ?_);dsimp only;obtain ⟨hC,B,hD⟩:=I2.newCC (x₁:=x₁) hci hkind hhas (o:={ cls:=.type "list",dict:=none,data:=.seq ([]:List Value).toArray }) rfl;generalize ((s2.heap.push { cls:=.type "list",dict:=none,data:=.seq ([]:List Value).toArray }).push { cls:=.type "dict",data:=.dict #[] }).push { cls:=.type "cell",data:=.cell none }=h₁ at B hD ⊢;generalize (s2.heap.push { cls:=.type "list",dict:=none,data:=.seq ([]:List Value).toArray }).objs.size=C at hC B ⊢;obtain ⟨hbg,hbt,hbe⟩:=hb fp s2 H2 C;have stW:=T.keep _ _ h₁ st2 fun b _ o e=>B.old b o e;have loop:=I2.goLast f2 (T.lt st2) B hcap (ui hx1) hc hC rfl hD T stW hbe hbg hbt (G:=[⟨tg,iter,ifs,0⟩]) rfl rfl (scope:=scope) (pos:=pos) (iter:=iter) (t':=s2.toks) turn w0 (R:=compPost (model X.prog X.w) X.A X.xe none (EP X pins σ Q) (.ref s2.heap.objs.size) C) fun ys its k H s I4 rv hz fin=>I2.lstEnd f2 (aae _) (abo hC) rfl I4 rv hz fin;exact codeAny_compStart_list loop (T.self _ 0 _ _ _ stW loop)
end
open PySem PySem.Spec PyProof.Rows
section
variable {X:Cx} {a b c d e:Expr} {ta tb tc td te:TE} {pos:Pos}
end
end L2
namespace L2
open PySem PySem.Spec PyProof.Rows PySem.W
def cdO (c:Addr) (qual:Str):HO:=.ext fun h=>h.CodeRec (.ref c) qual
structure LTab (P:Addr) (qual:Str) (H:Hp) (ps:Array Value):Prop where
  tab:H P=some (.tbl ps)
  tri:TriplesOk ps.toList
  cds:∀ pos cv,codeAmong pos ps.toList=some cv→∃ c',cv=.ref c'∧H c'=some (cdO c' qual)
theorem lU {pos:Pos} {a b:Int} {c cv:Value} (l:List Value) (h:TriplesOk l) (hn:codeAmong pos (l++[rawInt a,rawInt b,c])=some cv):codeAmong pos l=some cv∨cv=c:=by
  fun_induction TriplesOk l with
  | case1 =>
    simp only [abP,codeAmong,rawInt] at hn;split at hn
    · exact .inr (aa1 hn).symm
    · cases hn
  | case2 a' t b' u x dz ih =>
    simp only [abf,codeAmong] at hn ⊢;split at hn
    · rename_i hc;rw [if_pos hc];exact .inl hn
    · rename_i hc;rw [if_neg hc];exact ih h hn
  | case3 l h1 h2=>exact h.elim
theorem xA {P:Program} {w:World} {H:Hp} {h:Heap} {c:Addr} {qual:Str} (r:h.CodeRec (.ref c) qual):ObjOk P w H h c (cdO c qual):=by
  refine ⟨r,?_,fun h1 h2 p k=>?_⟩
  · obtain ⟨c',o,vs,t,e,ho,_⟩:=r;cases e;exact ⟨o,ho⟩
  · obtain ⟨c',o,vs,t,e,ho,r⟩:=p;cases e;exact ⟨c,o,vs,t,rfl,k o ho,r⟩
section
variable {X:Cx} {pins:List (Addr × Obj)} {σ:St} {H:Hp} {s:Shared}
theorem Inv.tbl (I:Inv X pins σ H s) {P:Addr} {ps:Array Value} (h:H P=some (.tbl ps)):s.heap.get? P=some (tabObj ps):=I.hok P _ h
abbrev gc (X:Cx) (params:Arguments) (body:Expr) (scope:Scope) (c':Addr) (ctv:Value):Obj :=
  kla_obj "<lambda>" (X.env.qual ++ "<lambda>") params body scope [] ((X.mg "__name__").getD .none) c' ctv
theorem uw (I:Inv X pins σ H s) {params:Arguments} {body:Expr} {scope:Scope} {pos:Pos} {c P:Addr} {ps:Array Value} (hdef:defaultsOf params X.env=([],[])) (hcl:closureFor scope X.env=pure [])
    (hcode:X.env.code=.ref c) (C:CodeHd X.base c P) (hB:X.base.BuiltinsAt X.mg P) (T:LTab P (X.env.qual ++ "<lambda>") H ps) {Q:Value→Shared→Prop}
    (h:∀ f c' ctv H' s',Inv X (pins++[(f,gc X params body scope c' ctv)]) σ H' s'→(∃ ps',LTab P (X.env.qual ++ "<lambda>") H' ps')→H' c'=some (cdO c' (X.env.qual ++ "<lambda>"))→But P H H'→Q (.ref f) s') :
    wpAny (model X.prog X.w) X.A (eval (.Lambda params body scope pos) X.env) Q X.xe s:=by
  refine kla_eval hdef ?_;have hP:=I.tbl T.tab;have hns:s.heap.Ns mainGlobals X.mg:=I.mod.glob.keeps I.bk;have C':CodeHd s.heap c P:=C.keeps I.bk;have pinned:∀ {H':Hp} {h':Heap} {tk:Tok} {c':Addr} {ctv:Value},Inv X pins σ H' { s with heap:=h'.push (gc X params body scope c' ctv),toks:=tk }→s.heap.objs.size≤h'.objs.size→HOk X.prog X.w H' h' →
      Inv X (pins++[(h'.objs.size,gc X params body scope c' ctv)]) σ H' { s with heap:=h'.push (gc X params body scope c' ctv),toks:=tk }:=fun {H' h' tk c' ctv} J hs hk=>by
    refine J.pins_of fun p hp=>?_;rcases aap.mp hp with hp|hp
    · exact J.pin p (aab _ hp)
    · rw [aam.mp hp];refine ⟨aaB _ rfl,hk.fresh (aae _),abd (aas I.lt hs),I.nofs hs,fun v z=>by cases z⟩
  cases hA:codeAmong pos ps.toList with
  | none =>
    have hgP:mainGlobals≠P:=fun e=>by
      obtain ⟨o,es,ep,e0,d0,_⟩:=hns;rw [e,hP] at e0;cases e0;cases d0
    refine kla_makeFunction hcl I.ok.glob hns hcode C' hP T.tri hA hgP (hB.keeps I.bk) fun c' ctv h' tk hx hge hlt hrec hP'=>?_;have hsz:s.heap.objs.size≤h'.objs.size:=aaT hge (abo hlt);have nc:H c'=none:=I.hok.fresh hge;have ncP:c'≠P:=fun e=>by rw [e,T.tab] at nc;cases nc
    have keepB:∀ b o,b≠P→s.heap.get? b=some o→h'.get? b=some o:=fun b o hb e=>hx b o hb e;have eP:upd (upd H P (.tbl (ps++#[rawInt pos.line,rawInt pos.col,.ref c']))) c' (cdO c' (X.env.qual ++ "<lambda>")) P=some (.tbl (ps++#[rawInt pos.line,rawInt pos.col,.ref c'])):=by
      rw [aw ncP.symm,ae]
    have eO:∀ b,b≠P→b≠c'→upd (upd H P (.tbl (ps++#[rawInt pos.line,rawInt pos.col,.ref c']))) c' (cdO c' (X.env.qual ++ "<lambda>")) b=H b:=fun b h1 h2=>by
      rw [aw h2,aw h1]
    have eS:∀ b o,b≠P→H b=some o→upd (upd H P (.tbl (ps++#[rawInt pos.line,rawInt pos.col,.ref c']))) c' (cdO c' (X.env.qual ++ "<lambda>")) b=some o:=fun b o h1 h2=>by
      rw [eO b h1 (ak h2 nc)];exact h2
    have eC:upd (upd H P (.tbl (ps++#[rawInt pos.line,rawInt pos.col,.ref c']))) c' (cdO c' (X.env.qual ++ "<lambda>")) c'=some (cdO c' (X.env.qual ++ "<lambda>")):=ae;generalize upd (upd H P (.tbl (ps++#[rawInt pos.line,rawInt pos.col,.ref c']))) c' (cdO c' (X.env.qual ++ "<lambda>"))=H2 at eP eO eS eC;have ok:HOk X.prog X.w H2 h':=fun b o e=>by
      by_cases hb:b=P
      · subst hb;rw [eP] at e;cases e;exact hP'
      by_cases hb2:b=c'
      · subst hb2;rw [eC] at e;cases e;exact xA hrec
      rw [eO b hb hb2] at e;refine (I.hok b o e).stay (fun d v hd q=>keepB d v ?_ q) (fun d q=>eS d _ (fun z=>by rw [z,T.tab] at q;cases q) q) fun d xs q=>eS d _ (fun z=>by rw [z,T.tab] at q;cases q) q;rintro rfl;rcases hd with z|z
      · exact hb z.symm
      · rw [T.tab] at z;cases z
    have J:Inv X pins σ H2 { s with heap:=h'.push (gc X params body scope c' ctv),toks:=tk }:=by
      refine I.un (h':=h'.push (gc X params body scope c' ctv)) ⟨fun b o q n _ _=>?_,fun b o q n _ _=>?_,fun b o q n _=>?_,fun b o q _=>?_,fun b xs q=>?_,fun b o xs q=>?_,fun b qs q=>?_⟩ (ok.kept fun b u e=>aac _ e)
      · exact aac _ (keepB b o (fun z=>by rw [z,T.tab] at n;cases n) q)
      · exact ⟨o.slots,aac _ (keepB b o (fun z=>by rw [z,T.tab] at n;cases n) q)⟩
      · rw [eO b (fun z=>by rw [z,T.tab] at n;cases n) (aaE (aas (aat q) hge))];exact n
      · by_cases hb:b=P
        · subst hb;exact ⟨_,aac _ hP'⟩
        · exact ⟨o,aac _ (keepB b o hb q)⟩
      · exact eS b _ (fun z=>by rw [z,T.tab] at q;cases q) q
      · exact eS b _ (fun z=>by rw [z,T.tab] at q;cases q) q
      · by_cases hb:b=P
        · subst hb;rw [T.tab] at q;cases q;exact ⟨_,eP⟩
        · exact ⟨#[],by rw [eS b _ hb q];simp⟩
    refine h _ c' ctv H2 _ (pinned J hsz ok) ⟨_,eP,?_,fun pos' cv hc=>?_⟩ eC (fun b o hb e=>eS b o hb e)
    · rw [Array.toList_append];exact TriplesOk_snoc _ _ _ _ T.tri
    · rw [Array.toList_append] at hc;rcases lU _ T.tri hc with z|z
      · obtain ⟨d,e1,e2⟩:=T.cds pos' cv z;exact ⟨d,e1,eS d _ (fun y=>by rw [y,T.tab] at e2;cases e2) e2⟩
      · exact ⟨c',z,eC⟩
  | some cv =>
    obtain ⟨c',rfl,ec⟩:=T.cds pos cv hA;refine kla_makeFunctionHit hcl I.ok.glob hns hcode C' hP T.tri hA (hB.keeps I.bk) fun ctv h' tk hk hsz=>?_;have J:Inv X pins σ H { s with heap:=h'.push (gc X params body scope c' ctv),toks:=tk }:=I.kept fun b u e=>aac _ (hk b u e);exact h _ c' ctv H _ (pinned J hsz (I.hok.kept hk)) ⟨ps,T⟩ ec (fun b o _ e=>e)
end
section
variable {CX:CXT} {P:Program} {w:World} {K:aaa} {mg:Str→Option Value} {base:Heap} {k:Nat}
theorem ux {A:Around} {outer:List Env} {s:Shared} {H:Hp} {f c':Addr} {ctv pm:Value} {name qual:Str} {params:Arguments} {body:Expr} {scope:Scope} {N ps:List Str} {args:Args} {us:List Value} {vs:List V} {Q:VK} {E:XK}
    (ho:s.heap.get? f=some (kla_obj name qual params body scope [] pm c' ctv)) (hcd:s.heap.CodeRec (.ref c') qual) (S:FnScope N ps scope) (hr:Room (k+1) A) (e0:Env0 P w K mg base A outer s H)
    (hb:bindArgs (kla_fn name qual params body scope [] pm (.ref c') ctv) args=pure (ps.zip us)) (r:Vals vs us) (hl:vs.length=ps.length)
    (hbody:∃ t,PE (gY CX P w K mg base N qual scope f (.ref c') A outer s H E) body t∧t (start N vs) H Q):codeAny (model P w) A (.call (.ref f) args) (CR CX outer P w H s Q E) s:=by
  have lim:s.heap.NoLimit:=e0.mod.nolimit.keeps fun b o e=>(e0.bs b o e).1;have hkind:∀ y∈ps.zip us,scope.names.lookup y.1=some .local∨(scope.names.lookup y.1=some .cell∧((cellsFrom (s.heap.objs.size+1) scope.names []).lookup y.1).isSome=true):=fun ⟨n,v⟩ hy=>by
    rcases S.par n (List.of_mem_zip hy).1 with q|q
    · exact .inl q
    · exact .inr ⟨q,aca _ _ _ (.inl q)⟩
  refine kla_callFunE hr.depth ho rfl S.co S.gen rfl hcd ?_;refine wpAny_of_eq hb ?_;refine wpAny_newFunctionEnv_cells S.kind hkind fun env he s1 x=>?_;subst he;refine ⟨lim.keeps x.toInCall.keep,kla_codeExpr ?_⟩;obtain ⟨t,ht,hq⟩:=hbody;have I:Inv (gY CX P w K mg base N qual scope f (.ref c') A outer s H E) [] (start N vs) H s1:=mq S hr.hd e0 hl r x;refine wpAny_mono (ht [] s1 (start N vs) H _ I hq) (fun u s' hs=>?_) fun e s' hs=>hs;obtain ⟨v,H',J,rv,q⟩:=hs;exact ⟨v,H',J.os,J.bare,J.base,J.hok,rv,q⟩
end
def a5 (kf:Nat→List Int):Nat→Nat
  | 0=>0
  | j+1=>if HT.lexLt (kf (j+1)) (kf (a5 kf j))=true then j+1 else a5 kf j
theorem lw (kf:Nat→List Int):∀ j,a5 kf j≤j
  | 0=>aae _
  | j+1=>by
    unfold a5;split
    · exact aae _
    · exact acd (lw kf j)
section
variable {X:Cx} {pins pl:List (Addr × Obj)} {σ:St} {H:Hp} {s:Shared}
theorem Inv.turn1 {a:Addr} {o o':Obj} {h':Heap} {tk:Nat} (I:Inv X (pins++(a,o) :: pl) σ H s) (k:∀ b ob,b≠a→s.heap.get? b=some ob→h'.get? b=some ob) (e:h'.get? a=some o') (d:∀ v,o'.data≠.cell v)
    (h0:X.s₀.heap.objs.size≤a) (hp:∀ p∈X.pn++pins,p.1≠a) (hpl:∀ p∈pl,p.1≠a):Inv X (pins++(a,o') :: pl) σ H { s with heap:=h',toks:=tk }:=by
  obtain ⟨pe,pn,pL,pf,pd⟩:=I.pin (a,o) (aab _ (aab _ aav));have J:Inv X (pins++pl) σ H s:=I.pins_of fun p hp=>I.pin p (aab _ (by
    rcases aap.mp hp with z|z
    · exact aaG _ z
    · exact aab _ (aai _ z)))
  have hc:∀ x c,X.env.cells.lookup x=some c→c≠a:=fun x c z y=>by
    obtain ⟨v,oc,ho,hd⟩:=I.cell x c z;rw [y,pe] at ho;cases ho;exact pd v hd
  have h3:∀ p∈X.pn++(pins++pl),p.1≠a:=fun p z=>by
    rcases aap.mp z with z|z
    · exact hp p (aaG _ z)
    · rcases aap.mp z with z|z
      · exact hp p (aab _ z)
      · exact hpl p z
  have T:Inv X (pins++pl) σ H { s with heap:=h',toks:=tk }:=J.turned k pn pL (.inr h0) hc h3;refine T.pins_of fun p z=>?_;rcases aap.mp z with z|z
  · exact T.pin p (aab _ (aaG _ z))
  · rcases aao.mp z with rfl|z
    · exact ⟨e,pn,pL,pf,d⟩
    · exact T.pin p (aab _ (aab _ z))
theorem Inv.turn0 {a:Addr} {o:Obj} {h':Heap} {tk:Nat} (I:Inv X (pins++(a,o) :: pl) σ H s) (k:∀ b ob,b≠a→s.heap.get? b=some ob→h'.get? b=some ob)
    (h0:X.s₀.heap.objs.size≤a) (hp:∀ p∈X.pn++pins,p.1≠a) (hpl:∀ p∈pl,p.1≠a):Inv X (pins++pl) σ H { s with heap:=h',toks:=tk }:=by
  obtain ⟨pe,pn,pL,pf,pd⟩:=I.pin (a,o) (aab _ (aab _ aav));have J:Inv X (pins++pl) σ H s:=I.pins_of fun p hp=>I.pin p (aab _ (by
    rcases aap.mp hp with z|z
    · exact aaG _ z
    · exact aab _ (aai _ z)))
  have hc:∀ x c,X.env.cells.lookup x=some c→c≠a:=fun x c z y=>by
    obtain ⟨v,oc,ho,hd⟩:=I.cell x c z;rw [y,pe] at ho;cases ho;exact pd v hd
  have h3:∀ p∈X.pn++(pins++pl),p.1≠a:=fun p z=>by
    rcases aap.mp z with z|z
    · exact hp p (aaG _ z)
    · rcases aap.mp z with z|z
      · exact hp p (aab _ z)
      · exact hpl p z
  exact J.turned k pn pL (.inr h0) hc h3
theorem Inv.swap {a b:Addr × Obj} (I:Inv X (pins++[a,b]) σ H s):Inv X (pins++[b,a]) σ H s:=I.pins_of fun p z=>I.pin p (aab _ (by
  rcases aap.mp z with z|z
  · exact aaG _ z
  · exact aab _ (by simp at z ⊢;exact z.symm)))
theorem Inv.at {a:Addr} {o:Obj} (I:Inv X (pins++pl) σ H s) (h:(a,o)∈pl):s.heap.get? a=some o:=(I.pin (a,o) (aab _ (aab _ h))).1
theorem si {l q Ia S:Addr} {xs:List V} {kf:Nat→List Int} {Kv:Nat→V→Hp→Prop} {G:Hp→Prop} {Q:VK} (hh:X.A.handled=none) (hlI:l≠Ia) (hSI:S≠Ia)
    (hI0:X.s₀.heap.objs.size≤Ia) (hS0:X.s₀.heap.objs.size≤S) (hpI:∀ p∈X.pn++pins,p.1≠Ia) (hpS:∀ p∈X.pn++pins,p.1≠S) (hl:∀ H,G H→SqL X.K H l xs) (mono:∀ i k H H',Kv i k H→Same H H'→Kv i k H')
    (turn:∀ i x u pl H s,xs[i]?=some x→RelV x u→G H→Inv X (pins++pl) σ H s→wpAny (model X.prog X.w) X.A.in1 (call (.ref q) [u]) (EP X (pins++pl) σ fun k H'=>Kv i k H'∧G H'∧Same H H') (fun _ _=>False) s)
    (cmp:∀ i j k k' u u' pl H s (Q:Value→Shared→Prop),Kv i k H→Kv j k' H→RelV k u→RelV k' u'→Inv X (pins++pl) σ H s→Q (.bool (HT.lexLt (kf i) (kf j))) s→wpAny (model X.prog X.w) X.A.in1 (richCompare .Lt u u') Q (fun _ _=>False) s)
    (hQ:∀ x H,xs[a5 kf (xs.length - 1)]?=some x→G H→Q x H) :
    ∀ (r j:Nat) (H:Hp) (s:Shared) (vb kb:Value) (xb kv:V) (c:Nat) (oI:Obj),xs.length - (j+1)=r→j+1≤xs.length→Inv X (pins++[(S,seqObj "list" #[vb,kb] c),(Ia,oI)]) σ H s→s.heap.IsListIter Ia l (j+1) →
      xs[a5 kf j]?=some xb→RelV xb vb→RelV kv kb→Kv (a5 kf j) kv H→G H →
      codeAny (model X.prog X.w) X.A (.builtin "min.loop" ⟨[.ref Ia,.ref q,.ref S],[]⟩) (fun r s'=>match r with|.ok (.ret v)=>EP X pins σ Q v s'|.ok _=>False|.error e=>X.xe e s') s:=by
  have hname:(toString "min" ++ toString ".loop":String) = "min.loop":=by decide
  have unpin:∀ {pl H s},Inv X (pins++pl) σ H s→Inv X pins σ H s:=fun I=>I.pins_of fun p z=>I.pin p (aab _ (aaG _ z));intro r
  induction r with
  | zero =>
    intro j H s vb kb xb kv c oI hr hj I hit hxb rvb rkb hk g;have hin:j+1=xs.length:=by lia
    have nS:=I.at (pl:=[(S,seqObj "list" #[vb,kb] c),(Ia,oI)]) (.head _);obtain ⟨its,rl,pL,_⟩:=I.list (hl H g);have W:=ace (prog:=X.prog) (w:=X.w) (A:=X.A.in1) hh Ia l hlI its.toArray;have hsz:its.toArray.size=xs.length:=by rw [aah,rl.length]
    refine codeAny_builtin abp ?_;rw [abu aaI _];show wpAny _ X.A.in1 (seqItems? (.ref S) >>= _) _ _ _;refine wpAny_bind (wpAny_seqItems nS rfl ?_);show wpAny _ X.A.in1 (tryCatch (pyNext (.ref Ia)) _ >>= _) _ _ _;refine wpAny_bind (wpAny_tryCatch (W.done _ _ _ ⟨by rw [hsz,← hin];exact hit,pL.isList⟩ fun h' tk' hk'=>?_));have hk1:∀ b o,b≠Ia→s.heap.get? b=some o→h'.get? b=some o:=fun b o hb e=>hk' b o (by simpa using hb) e;have I1:Inv X (pins++[(S,seqObj "list" #[vb,kb] c)]) σ H { s with heap:=h',toks:=tk' }:=I.swap.turn0 hk1 hI0 hpI (fun p hp=>by rw [aam.mp hp];exact hSI);have hS':=I1.at (pl:=[(S,seqObj "list" #[vb,kb] c)]) (.head _);have s1:=abx h' S (aaU fun _=>(#[]:Array Value));show wpAny _ X.A.in1 (updateSeq S (fun _=>#[]) >>= _) _ _ _;refine wpAny_bind ?_;refine wpAny_updateSeq hS' rfl (wpAny_bind (wpAny_letGo (wpAny_pure ?_)));have I2:=I1.turn0 (pl:=[]) (h':=h'.update S (aaU fun _=>(#[]:Array Value))) (tk:=tk') (fun b ob hb e=>(s1.2 b hb).trans e) hS0 hpS (fun p hp=>by simp at hp);rw [abM] at I2;refine ⟨xb,H,I2,rvb,hQ xb H ?_ g⟩;rw [show xs.length - 1=j by lia];exact hxb
  | succ r ih =>
    intro j H s vb kb xb kv c oI hr hj I hit hxb rvb rkb hk g;have hlt:j+1 < xs.length:=by lia
    have nS:=I.at (pl:=[(S,seqObj "list" #[vb,kb] c),(Ia,oI)]) (.head _);obtain ⟨its,rl,pL,_⟩:=I.list (hl H g);have W:=ace (prog:=X.prog) (w:=X.w) (A:=X.A.in1) hh Ia l hlI its.toArray;have hsz:its.toArray.size=xs.length:=by rw [aah,rl.length]
    refine codeAny_builtin abp ?_;rw [abu aaI _];show wpAny _ X.A.in1 (seqItems? (.ref S) >>= _) _ _ _;refine wpAny_bind (wpAny_seqItems nS rfl ?_);show wpAny _ X.A.in1 (tryCatch (pyNext (.ref Ia)) _ >>= _) _ _ _;refine wpAny_bind (wpAny_tryCatch (W.item (j+1) _ _ _ (by rw [hsz];exact hlt) ⟨hit,pL.isList⟩ fun v h' tk' hP hst' hk'=>?_));have hk1:∀ b o,b≠Ia→s.heap.get? b=some o→h'.get? b=some o:=fun b o hb e=>hk' b o (by simpa using hb) e;have hv:its[j+1]?=some v:=by simpa using hP
    obtain ⟨x,hx,rx⟩:∃ x,xs[j+1]?=some x∧RelV x v:=by
      have hxx:xs[j+1]?=some xs[j+1]:=aad hlt;obtain ⟨u,hu,ru⟩:=rl.get hxx;rw [hv] at hu;cases hu;exact ⟨_,hxx,ru⟩
    obtain ⟨oI',hoI',hoc,hod⟩:=id hst'.1;have I1:Inv X (pins++[(S,seqObj "list" #[vb,kb] c),(Ia,oI')]) σ H { s with heap:=h',toks:=tk' } :=
      (I.swap.turn1 hk1 hoI' (fun v z=>by rw [hod] at z;cases z) hI0 hpI (fun p hp=>by rw [aam.mp hp];exact hSI)).swap
    show wpAny _ X.A.in1 (tryCatch (holding [v] (call (.ref q) [v])) _ >>= _) _ _ _;refine wpAny_bind (wpAny_tryCatch (wpAny_holding (wpAny_mono (turn (j+1) x v _ H _ hx rx g I1) (fun kx s2 he=>?_) fun _ _ hF=>hF.elim)));obtain ⟨kx',H2,I2,rk2,hk2,g2,S2⟩:=he;have hkb:=mono _ _ _ _ hk S2;have nS2:=I2.at (pl:=[(S,seqObj "list" #[vb,kb] c),(Ia,oI')]) (.head _);have nI2:=I2.at (pl:=[(S,seqObj "list" #[vb,kb] c),(Ia,oI')]) (.tail _ (.head _));have hit2:s2.heap.IsListIter Ia l (j+1+1):=⟨oI',nI2,hoc,hod⟩
    show wpAny _ X.A.in1 (tryCatch (holding [v,kx] (richCompare .Lt kx kb >>= _)) _ >>= _) _ _ _;refine wpAny_bind (wpAny_tryCatch (wpAny_holding (wpAny_bind (wpAny_mono (cmp (j+1) (a5 kf j) kx' kv kx kb _ H2 s2 (fun z s'=>z=.bool (HT.lexLt (kf (j+1)) (kf (a5 kf j)))∧s'=s2) hk2 hkb rk2 rkb I2 ⟨rfl,rfl⟩) (fun z s3 hz=>?_) fun _ _ hF=>hF.elim))));obtain ⟨rfl,rfl⟩:=hz;refine wpAny_bind (wpAny_holding (wpAny_truthy_bool ?_));refine wpAny_bind (wpAny_letGo (wpAny_pure ?_));by_cases hb':HT.lexLt (kf (j+1)) (kf (a5 kf j))=true
    · have s1:=abx s3.heap S (aaU fun _=>#[v,kx]);obtain ⟨c2,hc2⟩:∃ c2,(s3.heap.update S (aaU fun _=>#[v,kx])).get? S=some (seqObj "list" #[v,kx] c2):=⟨_,get?_update_seq nS2 fun _=>#[v,kx]⟩
      simp only [hb',if_true];refine wpAny_bind ?_;refine wpAny_updateSeq nS2 rfl (wpAny_bind (wpAny_letGo ?_));rw [hname];have eb:a5 kf (j+1)=j+1:=by conv=>lhs;unfold a5;rw [if_pos hb']
      have I3:Inv X (pins++[(S,seqObj "list" #[v,kx] c2),(Ia,oI')]) σ H2 { s3 with heap:=s3.heap.update S (aaU fun _=>#[v,kx]),toks:=s3.toks } :=
        I2.turn1 (fun b ob hb e=>(s1.2 b hb).trans e) hc2 (fun v z=>by cases z) hS0 hpS (fun p hp=>by rw [aam.mp hp];exact hSI.symm)
      refine wpAny_pure ⟨plainId_quiet aaI _,ih (j+1) H2 _ v kx x kx' c2 oI' (by lia) hlt I3 ⟨oI',(s1.2 Ia hSI.symm).trans nI2,hoc,hod⟩ (by rw [eb];exact hx) rx rk2 (by rw [eb];exact hk2) g2⟩
    · simp only [hb',Bool.false_eq_true,if_false];refine wpAny_bind (wpAny_letGo ?_);rw [hname];have eb:a5 kf (j+1)=a5 kf j:=by conv=>lhs;unfold a5;rw [if_neg hb']
      refine wpAny_pure ⟨plainId_quiet aaI _,ih (j+1) H2 _ vb kb xb kv c oI' (by lia) hlt I2 hit2 (by rw [eb];exact hxb) rvb rkb (by rw [eb];exact hkb) g2⟩
theorem yS {l q:Addr} {xs:List V} {kf:Nat→List Int} {Kv:Nat→V→Hp→Prop} {G:Hp→Prop} {Q:VK} (hh:X.A.handled=none) (I:Inv X pins σ H s) (hne:0 < xs.length) (g:G H)
    (hl:∀ H,G H→SqL X.K H l xs) (mono:∀ i k H H',Kv i k H→Same H H'→Kv i k H')
    (turn:∀ i x u pl H s,xs[i]?=some x→RelV x u→G H→Inv X (pins++pl) σ H s→wpAny (model X.prog X.w) X.A.in1 (call (.ref q) [u]) (EP X (pins++pl) σ fun k H'=>Kv i k H'∧G H'∧Same H H') (fun _ _=>False) s)
    (cmp:∀ i j k k' u u' pl H s (Q:Value→Shared→Prop),Kv i k H→Kv j k' H→RelV k u→RelV k' u'→Inv X (pins++pl) σ H s→Q (.bool (HT.lexLt (kf i) (kf j))) s→wpAny (model X.prog X.w) X.A.in1 (richCompare .Lt u u') Q (fun _ _=>False) s)
    (hQ:∀ x H,xs[a5 kf (xs.length - 1)]?=some x→G H→Q x H) :
    wpAny (model X.prog X.w) X.A (call (.builtin "min") [.ref l] [(Str.ofString "key",.ref q)]) (EP X pins σ Q) X.xe s:=by
  have hname:(toString "min" ++ toString ".loop":String) = "min.loop":=by decide
  obtain ⟨its,rl,pL,_⟩:=I.list (hl H g);have hls:=pL.isList;obtain ⟨ol,hol,_⟩:=id hls;have hll:l < s.heap.objs.size:=aat hol;refine kmk_tree PySem.F.kind_min PySem.F.plain_min PySem.F.entry_min (kmk_min_key _ _) ?_;show wpAny _ X.A.in1 (abw "min" ["key","default"] 0 ⟨[],[(Str.ofString "key",.ref q)]⟩ >>= _) _ _ s;refine wpAny_bind (wpAny_of_eq (show abw "min" ["key","default"] 0 ⟨[],[(Str.ofString "key",.ref q)]⟩=pure [some (.ref q),none] from rfl) ?_);refine wpAny_bind (wpAny_pure ?_);refine wpAny_bind (wpAny_pyIter_list hls ?_);refine wpAny_bind (wpAny_newList ?_ (aaO _));rw [hname];have hS:(s.heap.push { cls:=.type "list_iterator",data:=.fields #[.ref l,.int 0 0] }).objs.size=s.heap.objs.size+1:=size_push' ..;have hlI:l≠s.heap.objs.size:=aaE hll;have hSI:(s.heap.push { cls:=.type "list_iterator",data:=.fields #[.ref l,.int 0 0] }).objs.size≠s.heap.objs.size:=by rw [hS];exact abd (abU _)
  have gI:((s.heap.push { cls:=.type "list_iterator",data:=.fields #[.ref l,.int 0 0] }).push (seqObj "list" #[] 0)).get? s.heap.objs.size=some { cls:=.type "list_iterator",data:=.fields #[.ref l,.int 0 0] } :=
    aac _ (aaB _ rfl)
  have gS:((s.heap.push { cls:=.type "list_iterator",data:=.fields #[.ref l,.int 0 0] }).push (seqObj "list" #[] 0)).get? (s.heap.push { cls:=.type "list_iterator",data:=.fields #[.ref l,.int 0 0] }).objs.size=some (seqObj "list" #[] 0):=aaB _ rfl;have kk:∀ b u,s.heap.get? b=some u→((s.heap.push { cls:=.type "list_iterator",data:=.fields #[.ref l,.int 0 0] }).push (seqObj "list" #[] 0)).get? b=some u:=fun b u e=>aac _ (aac _ e);have hI0:X.s₀.heap.objs.size≤s.heap.objs.size:=I.sz;have hS0:X.s₀.heap.objs.size≤(s.heap.push { cls:=.type "list_iterator",data:=.fields #[.ref l,.int 0 0] }).objs.size:=by rw [hS];exact acd I.sz
  have hpI:∀ p∈X.pn++pins,p.1≠s.heap.objs.size:=fun p hp=>aaE (aat (I.pin p hp).1);have hpS:∀ p∈X.pn++pins,p.1≠(s.heap.push { cls:=.type "list_iterator",data:=.fields #[.ref l,.int 0 0] }).objs.size:=fun p hp=>by rw [hS];exact aaE (abR (aat (I.pin p hp).1))
  have I0:Inv X (pins++[((s.heap.push { cls:=.type "list_iterator",data:=.fields #[.ref l,.int 0 0] }).objs.size,seqObj "list" #[] 0),(s.heap.objs.size,{ cls:=.type "list_iterator",data:=.fields #[.ref l,.int 0 0] })]) σ H
      { s with heap:=(s.heap.push { cls:=.type "list_iterator",data:=.fields #[.ref l,.int 0 0] }).push (seqObj "list" #[] 0),toks:=s.toks }:=by
    refine (I.kept (t':=s.toks) kk).pins_of fun p hp=>?_;rcases aap.mp hp with hp|hp
    · exact (I.kept (t':=s.toks) kk).pin p (aab _ hp)
    · rcases aao.mp hp with rfl|hp
      · refine ⟨gS,I.hok.fresh (by rw [hS];exact acr _),?_,I.nofs (by rw [hS];exact acr _),fun v z=>by cases z⟩;rw [hS];exact abd (abR I.lt)
      · rw [aam.mp hp];exact ⟨gI,I.hok.fresh (aae _),abd I.lt,I.nofs (aae _),fun v z=>by cases z⟩
  refine wpAny_pure ⟨plainId_quiet aaI _,?_⟩;have W:=ace (prog:=X.prog) (w:=X.w) (A:=X.A.in1) hh s.heap.objs.size l hlI its.toArray;have hsz:its.toArray.size=xs.length:=by rw [aah,rl.length]
  refine codeAny_builtin abp ?_;rw [abu aaI _];show wpAny _ X.A.in1 (seqItems? (.ref _) >>= _) _ _ _;refine wpAny_bind (wpAny_seqItems gS rfl ?_);show wpAny _ X.A.in1 (tryCatch (pyNext (.ref s.heap.objs.size)) _ >>= _) _ _ _;refine wpAny_bind (wpAny_tryCatch (W.item 0 _ _ _ (by rw [hsz];exact hne) ⟨⟨_,gI,rfl,rfl⟩,hls.at fun o e=>kk _ o e⟩ fun v h' tk' hP hst' hk'=>?_));have hv:its[0]?=some v:=by simpa using hP
  obtain ⟨x,hx,rx⟩:∃ x,xs[0]?=some x∧RelV x v:=by
    have hxx:xs[0]?=some xs[0]:=aad hne;obtain ⟨u,hu,ru⟩:=rl.get hxx;rw [hv] at hu;cases hu;exact ⟨_,hxx,ru⟩
  obtain ⟨oI',hoI',hoc,hod⟩:=id hst'.1;have I1:=(I0.swap.turn1 (h':=h') (tk:=tk') (fun b ob hb e=>hk' b ob (by simpa using hb) e) hoI' (fun v z=>by rw [hod] at z;cases z) hI0 hpI (fun p hp=>by rw [aam.mp hp];exact hSI)).swap;show wpAny _ X.A.in1 (tryCatch (holding [v] (call (.ref q) [v])) _ >>= _) _ _ _;refine wpAny_bind (wpAny_tryCatch (wpAny_holding (wpAny_mono (turn 0 x v _ H _ hx rx g I1) (fun kx s2 he=>?_) fun _ _ hF=>hF.elim)));obtain ⟨kx',H2,I2,rk2,hk2,g2,S2⟩:=he;generalize (s.heap.push { cls:=.type "list_iterator",data:=.fields #[.ref l,.int 0 0] }).objs.size=S at hSI hS0 hpS I2 ⊢;generalize s.heap.objs.size=Ia at hlI hSI hI0 hpI I2 hst' ⊢;have nS2:=I2.at (pl:=[(S,seqObj "list" #[] 0),(Ia,oI')]) (.head _);have nI2:=I2.at (pl:=[(S,seqObj "list" #[] 0),(Ia,oI')]) (.tail _ (.head _));have s1:=abx s2.heap S (aaU fun _=>#[v,kx]);obtain ⟨c2,hc2⟩:∃ c2,(s2.heap.update S (aaU fun _=>#[v,kx])).get? S=some (seqObj "list" #[v,kx] c2):=⟨_,get?_update_seq nS2 fun _=>#[v,kx]⟩
  show wpAny _ X.A.in1 (updateSeq S (fun _=>#[v,kx]) >>= _) _ _ _;refine wpAny_bind ?_;refine wpAny_updateSeq nS2 rfl ?_;rw [hname];have I3:Inv X (pins++[(S,seqObj "list" #[v,kx] c2),(Ia,oI')]) σ H2 { s2 with heap:=s2.heap.update S (aaU fun _=>#[v,kx]),toks:=s2.toks } :=
    I2.turn1 (fun b ob hb e=>(s1.2 b hb).trans e) hc2 (fun v z=>by cases z) hS0 hpS (fun p hp=>by rw [aam.mp hp];exact hSI.symm)
  refine wpAny_pure ⟨plainId_quiet aaI _,?_⟩;exact si hh hlI hSI hI0 hS0 hpI hpS hl mono turn cmp hQ _ 0 H2 _ v kx x kx' c2 oI' rfl hne I3 ⟨oI',(s1.2 Ia hSI.symm).trans nI2,hoc,hod⟩ hx rx rk2 hk2 g2
end
theorem ye (a b:Int):HT.lexLt [a] [b]=decide (a < b):=by
  show (if a=b then HT.lexLt [] [] else decide (a < b))=_;by_cases h:a=b
  · rw [if_pos h,HT.lexLt_nil_nil,decide_eq_false (by lia)]
  · rw [if_neg h]
def KeyIn (kd:Bool) (ks:List Int) (k:V) (H:Hp):Prop:=if kd=true then ∃ a,k=.ref a∧H a=some (.tup (ks.map V.int)) else ∃ n,ks=[n]∧k=.int n
theorem KeyIn.mono {kd:Bool} {ks:List Int} {k:V} {H H':Hp} (h:KeyIn kd ks k H) (g:Same H H'):KeyIn kd ks k H':=by
  unfold KeyIn at h ⊢;split at h
  · obtain ⟨a,e,ha⟩:=h;rename_i c;rw [if_pos c];exact ⟨a,e,g _ _ ha⟩
  · rename_i c;rw [if_neg c];exact h
theorem PairsIn.tups {H H':Hp} (t:∀ b xs,H b=some (.tup xs)→H' b=some (.tup xs)):∀ {ps:List (Int × Int)} {vs:List V},PairsIn H ps vs→PairsIn H' ps vs
  | _,_,.nil=>.nil
  | _,_,.cons ⟨a,e,h⟩ r=>.cons ⟨a,e,t _ _ h⟩ (PairsIn.tups t r)
def c_ (key:Int × Int→List Int) (ps:List (Int × Int)) (i:Nat):List Int:=match ps[i]? with|some p=>key p|none=>[]
def xP (P:Addr) (qual:Str) (key:Int × Int→List Int) (ta:TA):TE:=fun σ H Q=>ta σ H fun vs H1=>∃ l us ps,vs=[.ref l]∧H1 l=some (.lst us)∧PairsIn H1 ps us∧0 < us.length∧(∃ tp,LTab P qual H1 tp) ∧
  ∀ x H',us[a5 (c_ key ps) (us.length - 1)]?=some x→But P H1 H'→(∃ tp,LTab P qual H' tp)→Q x H'
section
variable {X:Cx}
theorem me {e:Expr} {ta:TA} {tb:TE} {params:Arguments} {body:Expr} {scope:Scope} {lpos kpos p pos:Pos} {c P:Addr} {y:Str} {kd:Bool} {key:Int × Int→List Int} (hr:Room 2 X.A) (hg:Gl X "min") (hm:X.mg "min" = none) (hv:bootBuiltins "min" = some (.builtin "min")) (pa:PA X [e] ta)
    (hdef:defaultsOf params X.env=([],[])) (hcl:closureFor scope X.env=pure []) (hcode:X.env.code=.ref c) (C:CodeHd X.base c P) (hB:X.base.BuiltinsAt X.mg P) (S:FnScope [y] [y] scope)
    (hbind:∀ pm c' ctv u,bindArgs (kla_fn "<lambda>" (X.env.qual ++ "<lambda>") params body scope [] pm (.ref c') ctv) ⟨[u],[]⟩=pure [(y,u)])
    (hbody:∀ f c' s H E,PE (gY CX0 X.prog X.w X.K X.mg X.base [y] (X.env.qual ++ "<lambda>") scope f (.ref c') X.A.in1 X.stack s H E) body tb)
    (hkey:∀ p x H Q,PairIn H p x→(∀ k H',KeyIn kd (key p) k H'→Same H H'→Q k H')→tb [some x] H Q)
    (he:backTo pos (starEach [e] X.env)=(false,eval e X.env) :: backTo pos (starEach [] X.env):=by rfl)
    (hplain:(backTo pos (starEach [e] X.env)).any (·.1)=false:=by rfl) :
    PE X (.Call (.Name "min" p) [e] [⟨some "key",.Lambda params body scope lpos,kpos⟩] pos) (xP P (X.env.qual ++ "<lambda>") key ta):=by
  intro pins s σ H Q I h;refine wpAny_Call_Name_kw (jj I hg hm hv ?_);refine callWith_kw (thn (pa pos pins s σ H _ I h) fun us0 s1 hz=>?_) he hplain;obtain ⟨vs,H1,I1,r1,l,us,ps,rfl,el,hps,hne,⟨tp,T⟩,q⟩:=hz;obtain ⟨u1,rfl,ru⟩:∃ u,us0=[u]∧RelV (.ref l) u:=by
    cases r1 with
    | cons a b=>cases b;exact ⟨_,rfl,a⟩
  cases ru;refine kws_cons (uw I1 hdef hcl hcode C hB T fun f c' ctv H2 s2 I2 T2 ec B2=>?_);refine kws_nil ?_;have nlP:l≠P:=fun z=>by rw [z,T.tab] at el;cases el
  have len:=hps.length;refine wpAny_mono (yS (xs:=us) (kf:=c_ key ps) (Kv:=fun i k H=>∃ p,ps[i]?=some p∧KeyIn kd (key p) k H) (G:=fun H=>Same H2 H) (Q:=Q) hr.hd I2 hne (Same.refl _) (fun H g=>SqL.of (g _ _ (B2 _ _ nlP el))) (fun i k H H' h g=>by
      obtain ⟨p,e,h⟩:=h;exact ⟨p,e,h.mono g⟩) (fun i x u pl H3 s3 hx rx g I3=>?_) (fun i j k k' u u' pl H3 s3 Q' hk hk' rk rk' I3 hq=>?_) (fun x H3 hx g=>?_)) (fun v s3 hs=>?_) fun e s' hs=>hs
  · obtain ⟨p,hpi,hpx⟩:=cF (PairsIn.tups (fun b xs z=>g _ _ (B2 _ _ (fun y=>by rw [y,T.tab] at z;cases z) z)) hps) hx;have ho:s3.heap.get? f=some (gc X params body scope c' ctv):=(I3.pin (f,gc X params body scope c' ctv) (aab _ (aaG _ (aab _ (by simp))))).1;have hcd:s3.heap.CodeRec (.ref c') (X.env.qual ++ "<lambda>"):=(I3.hok c' _ (g _ _ ec)).1;refine wpAny_call (codeAny_mono (ux (k:=0) (CX:=CX0) (E:=E0) (Q:=fun k H'=>(∃ p,ps[i]?=some p∧KeyIn kd (key p) k H')∧Same H2 H'∧Same H3 H') (vs:=[x]) ho hcd S hr.in1 I3.env0.in1 (us:=[u]) (hbind _ _ _ _) (.cons rx .nil) rfl ⟨tb,hbody _ _ _ _ _,?_⟩) fun r s' hq=>?_)
    · exact hkey p x H3 _ hpx fun k H' hk hs=>⟨⟨p,hpi,hk⟩,g.trans hs,hs⟩
    · cases r with
      | error e=>exact abc hq
      | ok fl =>
        cases fl with
        | ret u=>exact I3.after hq
        | next=>exact abc hq
        | brk=>exact abc hq
        | cont=>exact abc hq
  · obtain ⟨p,hp,hk⟩:=hk;obtain ⟨p',hp',hk'⟩:=hk';have e1:c_ key ps i=key p:=by unfold c_;rw [hp]
    have e2:c_ key ps j=key p':=by unfold c_;rw [hp']
    rw [e1,e2] at hq;cases kd with
    | true =>
      obtain ⟨a,rfl,ea⟩:∃ a,k=.ref a∧H3 a=some (.tup ((key p).map V.int)):=hk;obtain ⟨a',rfl,ea'⟩:∃ a,k'=.ref a∧H3 a=some (.tup ((key p').map V.int)):=hk';cases rk;cases rk';obtain ⟨its,r1,p1,_⟩:=I3.tuple (SqT.of ea);obtain ⟨its2,r2,p2,_⟩:=I3.tuple (SqT.of ea');exact HT.lt_tupInts p1 p2 (gk r1) (gk r2) hr.in1.units0 hq
    | false =>
      obtain ⟨n,en,rfl⟩:∃ n,key p=[n]∧k=.int n:=hk;obtain ⟨n',en',rfl⟩:∃ n,key p'=[n]∧k'=.int n:=hk';rw [en,en',ye] at hq;obtain ⟨t,rfl⟩:∃ t,u=.int n t:=rk;obtain ⟨t',rfl⟩:∃ t,u'=.int n' t:=rk';exact CmpOf.ints_lt (prog:=X.prog) (w:=X.w) (A:=X.A.in1) (P:=fun i v=>∃ t,v=.int (if i=0 then n else n') t) (fun i=>if i=0 then n else n') (fun i v h=>h) 0 1 _ _ _ _ _ ⟨t,rfl⟩ ⟨t',rfl⟩ hq
  · obtain ⟨tp2,T2⟩:=T2;refine q x H3 hx (fun b o hb e=>g _ _ (B2 b o hb e)) ⟨tp2,g _ _ T2.tab,T2.tri,fun pos' cv hc=>?_⟩;obtain ⟨d,e1,e2⟩:=T2.cds pos' cv hc;exact ⟨d,e1,g _ _ e2⟩
  · obtain ⟨x,H3,I3,rx,hq⟩:=hs;exact ⟨x,H3,I3.unpinned,rx,hq⟩
end
end L2
namespace L2
open PySem PySem.Spec PyProof.Rows PySem.W
section
variable {X:Cx} {pins pl:List (Addr × Obj)} {σ:St} {H:Hp} {s:Shared}
theorem sx {l Ia S:Addr} {xs:List V} {kf:Nat→List Int} {H:Hp} {Q:VK} (hh:X.A.handled=none) (hlI:l≠Ia) (hSI:S≠Ia)
    (hI0:X.s₀.heap.objs.size≤Ia) (hS0:X.s₀.heap.objs.size≤S) (hpI:∀ p∈X.pn++pins,p.1≠Ia) (hpS:∀ p∈X.pn++pins,p.1≠S) (hl:SqL X.K H l xs)
    (cmp:∀ i j k k' u u' pl s (Q:Value→Shared→Prop),xs[i]?=some k→xs[j]?=some k'→RelV k u→RelV k' u'→Inv X (pins++pl) σ H s→Q (.bool (HT.lexLt (kf i) (kf j))) s→wpAny (model X.prog X.w) X.A.in1 (richCompare .Lt u u') Q (fun _ _=>False) s)
    (hQ:∀ x,xs[a5 kf (xs.length - 1)]?=some x→Q x H) :
    ∀ (r j:Nat) (s:Shared) (vb:Value) (xb:V) (c:Nat) (oI:Obj),xs.length - (j+1)=r→j+1≤xs.length→Inv X (pins++[(S,seqObj "list" #[vb,vb] c),(Ia,oI)]) σ H s→s.heap.IsListIter Ia l (j+1) →
      xs[a5 kf j]?=some xb→RelV xb vb →
      codeAny (model X.prog X.w) X.A (.builtin "min.loop" ⟨[.ref Ia,.none,.ref S],[]⟩) (fun r s'=>match r with|.ok (.ret v)=>EP X pins σ Q v s'|.ok _=>False|.error e=>X.xe e s') s:=by
  have hname:(toString "min" ++ toString ".loop":String) = "min.loop":=by decide
  have unpin:∀ {pl H s},Inv X (pins++pl) σ H s→Inv X pins σ H s:=fun I=>I.pins_of fun p z=>I.pin p (aab _ (aaG _ z));intro r
  induction r with
  | zero =>
    intro j s vb xb c oI hr hj I hit hxb rvb;have hin:j+1=xs.length:=by lia
    have nS:=I.at (pl:=[(S,seqObj "list" #[vb,vb] c),(Ia,oI)]) (.head _);obtain ⟨its,rl,pL,_⟩:=I.list hl;have W:=ace (prog:=X.prog) (w:=X.w) (A:=X.A.in1) hh Ia l hlI its.toArray;have hsz:its.toArray.size=xs.length:=by rw [aah,rl.length]
    refine codeAny_builtin abp ?_;rw [abu aaI _];show wpAny _ X.A.in1 (seqItems? (.ref S) >>= _) _ _ _;refine wpAny_bind (wpAny_seqItems nS rfl ?_);show wpAny _ X.A.in1 (tryCatch (pyNext (.ref Ia)) _ >>= _) _ _ _;refine wpAny_bind (wpAny_tryCatch (W.done _ _ _ ⟨by rw [hsz,← hin];exact hit,pL.isList⟩ fun h' tk' hk'=>?_));have hk1:∀ b o,b≠Ia→s.heap.get? b=some o→h'.get? b=some o:=fun b o hb e=>hk' b o (by simpa using hb) e;have I1:Inv X (pins++[(S,seqObj "list" #[vb,vb] c)]) σ H { s with heap:=h',toks:=tk' }:=I.swap.turn0 hk1 hI0 hpI (fun p hp=>by rw [aam.mp hp];exact hSI);have hS':=I1.at (pl:=[(S,seqObj "list" #[vb,vb] c)]) (.head _);have s1:=abx h' S (aaU fun _=>(#[]:Array Value));show wpAny _ X.A.in1 (updateSeq S (fun _=>#[]) >>= _) _ _ _;refine wpAny_bind ?_;refine wpAny_updateSeq hS' rfl (wpAny_bind (wpAny_letGo (wpAny_pure ?_)));have I2:=I1.turn0 (pl:=[]) (h':=h'.update S (aaU fun _=>(#[]:Array Value))) (tk:=tk') (fun b ob hb e=>(s1.2 b hb).trans e) hS0 hpS (fun p hp=>by simp at hp);rw [abM] at I2;refine ⟨xb,H,I2,rvb,hQ xb ?_⟩;rw [show xs.length - 1=j by lia];exact hxb
  | succ r ih =>
    intro j s vb xb c oI hr hj I hit hxb rvb;have hlt:j+1 < xs.length:=by lia
    have nS:=I.at (pl:=[(S,seqObj "list" #[vb,vb] c),(Ia,oI)]) (.head _);obtain ⟨its,rl,pL,_⟩:=I.list hl;have W:=ace (prog:=X.prog) (w:=X.w) (A:=X.A.in1) hh Ia l hlI its.toArray;have hsz:its.toArray.size=xs.length:=by rw [aah,rl.length]
    refine codeAny_builtin abp ?_;rw [abu aaI _];show wpAny _ X.A.in1 (seqItems? (.ref S) >>= _) _ _ _;refine wpAny_bind (wpAny_seqItems nS rfl ?_);show wpAny _ X.A.in1 (tryCatch (pyNext (.ref Ia)) _ >>= _) _ _ _;refine wpAny_bind (wpAny_tryCatch (W.item (j+1) _ _ _ (by rw [hsz];exact hlt) ⟨hit,pL.isList⟩ fun v h' tk' hP hst' hk'=>?_));have hk1:∀ b o,b≠Ia→s.heap.get? b=some o→h'.get? b=some o:=fun b o hb e=>hk' b o (by simpa using hb) e;have hv:its[j+1]?=some v:=by simpa using hP
    obtain ⟨x,hx,rx⟩:∃ x,xs[j+1]?=some x∧RelV x v:=by
      have hxx:xs[j+1]?=some xs[j+1]:=aad hlt;obtain ⟨u,hu,ru⟩:=rl.get hxx;rw [hv] at hu;cases hu;exact ⟨_,hxx,ru⟩
    obtain ⟨oI',hoI',hoc,hod⟩:=id hst'.1;have I1:Inv X (pins++[(S,seqObj "list" #[vb,vb] c),(Ia,oI')]) σ H { s with heap:=h',toks:=tk' } :=
      (I.swap.turn1 hk1 hoI' (fun v z=>by rw [hod] at z;cases z) hI0 hpI (fun p hp=>by rw [aam.mp hp];exact hSI)).swap
    have nS2:=I1.at (pl:=[(S,seqObj "list" #[vb,vb] c),(Ia,oI')]) (.head _);have nI2:=I1.at (pl:=[(S,seqObj "list" #[vb,vb] c),(Ia,oI')]) (.tail _ (.head _));show wpAny _ X.A.in1 (tryCatch (holding [v,v] (richCompare .Lt v vb >>= _)) _ >>= _) _ _ _;refine wpAny_bind (wpAny_tryCatch (wpAny_holding (wpAny_bind (wpAny_mono (cmp (j+1) (a5 kf j) x xb v vb _ _ (fun z s'=>z=.bool (HT.lexLt (kf (j+1)) (kf (a5 kf j)))∧s'={ s with heap:=h',toks:=tk' }) hx hxb rx rvb I1 ⟨rfl,rfl⟩) (fun z s3 hz=>?_) fun _ _ hF=>hF.elim))));obtain ⟨rfl,rfl⟩:=hz;refine wpAny_bind (wpAny_holding (wpAny_truthy_bool ?_));refine wpAny_bind (wpAny_letGo (wpAny_pure ?_));by_cases hb':HT.lexLt (kf (j+1)) (kf (a5 kf j))=true
    · have s1:=abx h' S (aaU fun _=>#[v,v]);obtain ⟨c2,hc2⟩:∃ c2,(h'.update S (aaU fun _=>#[v,v])).get? S=some (seqObj "list" #[v,v] c2):=⟨_,get?_update_seq nS2 fun _=>#[v,v]⟩
      simp only [hb',if_true];refine wpAny_bind ?_;refine wpAny_updateSeq nS2 rfl (wpAny_bind (wpAny_letGo ?_));rw [hname];have eb:a5 kf (j+1)=j+1:=by conv=>lhs;unfold a5;rw [if_pos hb']
      have I3:Inv X (pins++[(S,seqObj "list" #[v,v] c2),(Ia,oI')]) σ H { s with heap:=h'.update S (aaU fun _=>#[v,v]),toks:=tk' } :=
        I1.turn1 (fun b ob hb e=>(s1.2 b hb).trans e) hc2 (fun v z=>by cases z) hS0 hpS (fun p hp=>by rw [aam.mp hp];exact hSI.symm)
      refine wpAny_pure ⟨plainId_quiet aaI _,ih (j+1) _ v x c2 oI' (by lia) hlt I3 ⟨oI',(s1.2 Ia hSI.symm).trans nI2,hoc,hod⟩ (by rw [eb];exact hx) rx⟩
    · simp only [hb',Bool.false_eq_true,if_false];refine wpAny_bind (wpAny_letGo ?_);rw [hname];have eb:a5 kf (j+1)=a5 kf j:=by conv=>lhs;unfold a5;rw [if_neg hb']
      refine wpAny_pure ⟨plainId_quiet aaI _,ih (j+1) _ vb xb c oI' (by lia) hlt I1 ⟨oI',nI2,hoc,hod⟩ (by rw [eb];exact hxb) rvb⟩
theorem yT {l:Addr} {xs:List V} {kf:Nat→List Int} {Q:VK} (hh:X.A.handled=none) (I:Inv X pins σ H s) (hne:0 < xs.length)
    (hl:SqL X.K H l xs)
    (cmp:∀ i j k k' u u' pl s (Q:Value→Shared→Prop),xs[i]?=some k→xs[j]?=some k'→RelV k u→RelV k' u'→Inv X (pins++pl) σ H s→Q (.bool (HT.lexLt (kf i) (kf j))) s→wpAny (model X.prog X.w) X.A.in1 (richCompare .Lt u u') Q (fun _ _=>False) s)
    (hQ:∀ x,xs[a5 kf (xs.length - 1)]?=some x→Q x H) :
    wpAny (model X.prog X.w) X.A (call (.builtin "min") [.ref l]) (EP X pins σ Q) X.xe s:=by
  have hname:(toString "min" ++ toString ".loop":String) = "min.loop":=by decide
  obtain ⟨its,rl,pL,_⟩:=I.list hl;have hls:=pL.isList;obtain ⟨ol,hol,_⟩:=id hls;have hll:l < s.heap.objs.size:=aat hol;refine call_function_tree PySem.F.kind_min PySem.F.plain_min PySem.F.entry_min (PySem.F.args_min1 _) ?_;show wpAny _ X.A.in1 (abw "min" ["key","default"] 0 ⟨[],[]⟩ >>= _) _ _ s;refine wpAny_bind (wpAny_of_eq (show abw "min" ["key","default"] 0 ⟨[],[]⟩=pure [none,none] from rfl) ?_);refine wpAny_bind (wpAny_pure ?_);refine wpAny_bind (wpAny_pyIter_list hls ?_);refine wpAny_bind (wpAny_newList ?_ (aaO _));rw [hname];have hS:(s.heap.push { cls:=.type "list_iterator",data:=.fields #[.ref l,.int 0 0] }).objs.size=s.heap.objs.size+1:=size_push' ..;have hlI:l≠s.heap.objs.size:=aaE hll;have hSI:(s.heap.push { cls:=.type "list_iterator",data:=.fields #[.ref l,.int 0 0] }).objs.size≠s.heap.objs.size:=by rw [hS];exact abd (abU _)
  have gI:((s.heap.push { cls:=.type "list_iterator",data:=.fields #[.ref l,.int 0 0] }).push (seqObj "list" #[] 0)).get? s.heap.objs.size=some { cls:=.type "list_iterator",data:=.fields #[.ref l,.int 0 0] } :=
    aac _ (aaB _ rfl)
  have gS:((s.heap.push { cls:=.type "list_iterator",data:=.fields #[.ref l,.int 0 0] }).push (seqObj "list" #[] 0)).get? (s.heap.push { cls:=.type "list_iterator",data:=.fields #[.ref l,.int 0 0] }).objs.size=some (seqObj "list" #[] 0):=aaB _ rfl;have kk:∀ b u,s.heap.get? b=some u→((s.heap.push { cls:=.type "list_iterator",data:=.fields #[.ref l,.int 0 0] }).push (seqObj "list" #[] 0)).get? b=some u:=fun b u e=>aac _ (aac _ e);have hI0:X.s₀.heap.objs.size≤s.heap.objs.size:=I.sz;have hS0:X.s₀.heap.objs.size≤(s.heap.push { cls:=.type "list_iterator",data:=.fields #[.ref l,.int 0 0] }).objs.size:=by rw [hS];exact acd I.sz
  have hpI:∀ p∈X.pn++pins,p.1≠s.heap.objs.size:=fun p hp=>aaE (aat (I.pin p hp).1);have hpS:∀ p∈X.pn++pins,p.1≠(s.heap.push { cls:=.type "list_iterator",data:=.fields #[.ref l,.int 0 0] }).objs.size:=fun p hp=>by rw [hS];exact aaE (abR (aat (I.pin p hp).1))
  have I0:Inv X (pins++[((s.heap.push { cls:=.type "list_iterator",data:=.fields #[.ref l,.int 0 0] }).objs.size,seqObj "list" #[] 0),(s.heap.objs.size,{ cls:=.type "list_iterator",data:=.fields #[.ref l,.int 0 0] })]) σ H
      { s with heap:=(s.heap.push { cls:=.type "list_iterator",data:=.fields #[.ref l,.int 0 0] }).push (seqObj "list" #[] 0),toks:=s.toks }:=by
    refine (I.kept (t':=s.toks) kk).pins_of fun p hp=>?_;rcases aap.mp hp with hp|hp
    · exact (I.kept (t':=s.toks) kk).pin p (aab _ hp)
    · rcases aao.mp hp with rfl|hp
      · refine ⟨gS,I.hok.fresh (by rw [hS];exact acr _),?_,I.nofs (by rw [hS];exact acr _),fun v z=>by cases z⟩;rw [hS];exact abd (abR I.lt)
      · rw [aam.mp hp];exact ⟨gI,I.hok.fresh (aae _),abd I.lt,I.nofs (aae _),fun v z=>by cases z⟩
  refine wpAny_pure ⟨plainId_quiet aaI _,?_⟩;have W:=ace (prog:=X.prog) (w:=X.w) (A:=X.A.in1) hh s.heap.objs.size l hlI its.toArray;have hsz:its.toArray.size=xs.length:=by rw [aah,rl.length]
  refine codeAny_builtin abp ?_;rw [abu aaI _];show wpAny _ X.A.in1 (seqItems? (.ref _) >>= _) _ _ _;refine wpAny_bind (wpAny_seqItems gS rfl ?_);show wpAny _ X.A.in1 (tryCatch (pyNext (.ref s.heap.objs.size)) _ >>= _) _ _ _;refine wpAny_bind (wpAny_tryCatch (W.item 0 _ _ _ (by rw [hsz];exact hne) ⟨⟨_,gI,rfl,rfl⟩,hls.at fun o e=>kk _ o e⟩ fun v h' tk' hP hst' hk'=>?_));have hv:its[0]?=some v:=by simpa using hP
  obtain ⟨x,hx,rx⟩:∃ x,xs[0]?=some x∧RelV x v:=by
    have hxx:xs[0]?=some xs[0]:=aad hne;obtain ⟨u,hu,ru⟩:=rl.get hxx;rw [hv] at hu;cases hu;exact ⟨_,hxx,ru⟩
  obtain ⟨oI',hoI',hoc,hod⟩:=id hst'.1;have I1:=(I0.swap.turn1 (h':=h') (tk:=tk') (fun b ob hb e=>hk' b ob (by simpa using hb) e) hoI' (fun v z=>by rw [hod] at z;cases z) hI0 hpI (fun p hp=>by rw [aam.mp hp];exact hSI)).swap;generalize (s.heap.push { cls:=.type "list_iterator",data:=.fields #[.ref l,.int 0 0] }).objs.size=S at hSI hS0 hpS I1 ⊢;generalize s.heap.objs.size=Ia at hlI hSI hI0 hpI I1 hst' hoI' ⊢;have nS2:=I1.at (pl:=[(S,seqObj "list" #[] 0),(Ia,oI')]) (.head _);have nI2:=I1.at (pl:=[(S,seqObj "list" #[] 0),(Ia,oI')]) (.tail _ (.head _));have s1:=abx h' S (aaU fun _=>#[v,v]);obtain ⟨c2,hc2⟩:∃ c2,(h'.update S (aaU fun _=>#[v,v])).get? S=some (seqObj "list" #[v,v] c2):=⟨_,get?_update_seq nS2 fun _=>#[v,v]⟩
  show wpAny _ X.A.in1 (updateSeq S (fun _=>#[v,v]) >>= _) _ _ _;refine wpAny_bind ?_;refine wpAny_updateSeq nS2 rfl ?_;rw [hname];have I3:Inv X (pins++[(S,seqObj "list" #[v,v] c2),(Ia,oI')]) σ H { s with heap:=h'.update S (aaU fun _=>#[v,v]),toks:=tk' } :=
    I1.turn1 (fun b ob hb e=>(s1.2 b hb).trans e) hc2 (fun v z=>by cases z) hS0 hpS (fun p hp=>by rw [aam.mp hp];exact hSI.symm)
  refine wpAny_pure ⟨plainId_quiet aaI _,?_⟩;exact sx hh hlI hSI hI0 hS0 hpI hpS hl cmp hQ _ 0 _ v x c2 oI' rfl hne I3 ⟨oI',(s1.2 Ia hSI.symm).trans nI2,hoc,hod⟩ hx rx
end
section
variable {X:Cx}
def l_ (p:Int × Int):List Int:=[p.1,p.2]
theorem sS (hr:Room 1 X.A):dG X (.builtin "min") (fun xs H Q=>∃ l us ps,xs=[.ref l]∧H l=some (.lst us)∧PairsIn H ps us∧0 < us.length∧∀ x,us[a5 (c_ l_ ps) (us.length - 1)]?=some x→Q x H):=by
  intro pins s σ H xs us0 Q I r h;obtain ⟨l,us,ps,rfl,el,hps,hne,q⟩:=h;obtain ⟨u1,rfl,ru⟩:∃ u,us0=[u]∧RelV (.ref l) u:=by
    cases r with
    | cons a b=>cases b;exact ⟨_,rfl,a⟩
  cases ru;refine yT (kf:=c_ l_ ps) hr.hd I hne (SqL.of el) (fun i j k k' u u' pl s3 Q' hk hk' rk rk' I3 hq=>?_) q;obtain ⟨p,hp,a,rfl,ea⟩:=cF hps hk;obtain ⟨p',hp',a',rfl,ea'⟩:=cF hps hk';have e1:c_ l_ ps i=[p.1,p.2]:=by unfold c_;rw [hp];rfl
  have e2:c_ l_ ps j=[p'.1,p'.2]:=by unfold c_;rw [hp'];rfl
  rw [e1,e2] at hq;cases rk;cases rk';obtain ⟨its,r1,p1,_⟩:=I3.tuple (SqT.of ea);obtain ⟨its2,r2,p2,_⟩:=I3.tuple (SqT.of ea');exact HT.lt_tupInts p1 p2 (gk (ns:=[p.1,p.2]) r1) (gk (ns:=[p'.1,p'.2]) r2) hr.in1.units0 hq
end
end L2
namespace L2
open PySem PySem.Spec PyProof.Rows PySem.W
structure FunC (K:aaa) (x qual:Str) (st:Stmt) (f:Addr) (fd:FuncData) (c:Addr):Prop where
  ex:∃ (oc:Value) (od:Option Addr) (kV doc pm:Value) (an:Option Addr) (ct:Value) (osl:Array (Option Value)),
    fd=aaY x qual (bU st) (bn st) (aj st) .none kV doc pm an (.ref c) ct∧K.lookup f=some ⟨oc,od,.func fd,osl⟩∧abl K (.ref c) qual=true
  kp:aaZ K (.ref f)=true
section
variable {P:Program} {w:World} {K:aaa} {mg:Str→Option Value} {base:Heap}
theorem FunC.ok {x qual:Str} {st:Stmt} {f:Addr} {fd:FuncData} {N ps:List Str} {k:Nat} {sp:Sp} {c:Addr} (F:FunC K x qual st f fd c) (S:FnScope N ps (aj st)) (len:∀ vs H Q E,sp vs H Q E→vs.length=ps.length)
    (hbody:∀ (A:Around) (outer:List Env) (s:Shared) (H:Hp) (vs:List V) (Q:VK) (E:XK),Room k (A.deeper (envOfC qual (aj st) s.heap.objs.size f (.ref c)))→sp vs H Q E →
      ∃ t,PSs (gY CX0 P w K mg base N qual (aj st) f (.ref c) A outer s H E).nox (bn st) t∧t { nx:=fun _ H'=>Q .non H',rt:=Q } (start N vs) H):FnOk P w K mg base CX0 (k+1) f fd ps sp:=by
  obtain ⟨oc,od,kV,doc,pm,an,ct,osl,rfl,lk,hcd⟩:=F.ex;refine rq lk hcd S len fun A outer s H vs Q E hr hsp=>?_;obtain ⟨t,h,q⟩:=hbody A outer s H vs Q E hr hsp;exact ⟨t,h.nox,q⟩
theorem vR {x qual:Str} {st:Stmt} {f c:Addr} {oc:Value} {od an:Option Addr} {osl:Array (Option Value)} {kV doc pm ct:Value} (l:K.lookup f=some ⟨oc,od,.func (aaY x qual (bU st) (bn st) (aj st) .none kV doc pm an (.ref c) ct),osl⟩)
    (h:abl K (.ref c) qual=true) (k:aaZ K (.ref f)=true):FunC K x qual st f (aaY x qual (bU st) (bn st) (aj st) .none kV doc pm an (.ref c) ct) c:=⟨⟨oc,od,kV,doc,pm,an,ct,osl,rfl,l,h⟩,k⟩
end
open PySem PySem.Spec PyProof.Rows
theorem sA {T c:Addr} {qual:Str} {P:Program} {w:World} {K:aaa} {mg mb:Str→Option Value} {CX:CXT} {k:Nat} {fa a:Addr} {fd:FuncData} {x:Str} {sp:Sp} {s₁:Shared} {vs:List Value} {ns:List Int}
    (KX:K.In s₁.heap) (hns:s₁.heap.Ns mainGlobals mg) (hb:s₁.heap.Ns builtinsNs mb) (hbb:∀ x:Str,x ≠ "__name__"→mb x=bootBuiltins x) (hlim:s₁.heap.NoLimit) (hsm:∃ mm,s₁.heap.Ns sysModules mm) (hg:s₁.gens=#[])
    (ha:s₁.heap.get? a=some { cls:=.type "list",data:=.seq vs.toArray }) (hi:IntsAre vs ns) (hl:ns.length≤sizeLine) (hr:Room k callerA)
    (hT:s₁.heap.get? T=some (PySem.W.tabObj #[])) (hTc:s₁.heap.TableAt c T #[]) (hKT:K.lookup T=none) (hBT:s₁.heap.BuiltinsAt mg T)
    (F:∀ base:Heap,K.In base→base.Ns mainGlobals mg→base.BuiltinsAt mg T→FnOk P w K mg base CX k fa fd [x] sp) (hbind:∀ (s:Shared) (u:Value),BindsTo s fd ⟨[u],[]⟩ [(x,u)])
    (hsp:∀ H:Hp,LTab T qual H #[]→SqL K H a (ns.map V.int)→sp [.ref a] H (fun v _=>v=.bl true) fun _ _ _=>False)
    (hCX:∀ H e s',CX [] H s₁ (fun _ _ _=>False) e s'→False) :
    codeAny (model P w) callerA (.call (.ref fa) ⟨[.ref a],[]⟩) (fun r s'=>r=.ok (.ret (.bool true))∧OldK s₁.heap s'.heap∧s'.os=s₁.os∧AllBare s'.gens) s₁:=by
  have rv:=lZ hi;have lenV:=hi.length;have nTa:T≠a:=fun e=>by rw [e,ha] at hT;cases hT
  have core:∀ H0:Hp,y_ H0→SqL K H0 a (ns.map V.int)→HOk P w H0 s₁.heap→(∀ b,H0 b≠none→b=a)→(H0 a≠none→K.lookup a=none) →
      codeAny (model P w) callerA (.call (.ref fa) ⟨[.ref a],[]⟩) (fun r s'=>r=.ok (.ret (.bool true))∧OldK s₁.heap s'.heap∧s'.os=s₁.os∧AllBare s'.gens) s₁:=by
    intro H0 hO hS0 hok0 hA0 hK0;have h0T:H0 T=none:=by
      cases q:H0 T with
      | none=>rfl
      | some u=>exact absurd (hA0 T (by rw [q];simp)) nTa
    obtain ⟨H,eH⟩:∃ H:Hp,H=upd H0 T (.tbl #[]):=⟨_,rfl⟩
    have eT:H T=some (.tbl #[]):=by rw [eH,ae]
    have eN:∀ b,b≠T→H b=H0 b:=fun b hb=>by rw [eH,aw hb]
    have eS:∀ b o,H0 b=some o→H b=some o:=fun b o e=>by rw [eN b (ak e h0T)];exact e
    have hok:HOk P w H s₁.heap:=fun b o e=>by
      by_cases hb:b=T
      · subst hb;rw [eT] at e;cases e;exact hT
      · rw [eN b hb] at e;exact (hok0 b o e).stay (fun _ _ _ q=>q) (fun d q=>eS d _ q) fun d xs q=>eS d _ q
    have hS:SqL K H a (ns.map V.int):=by
      rcases hS0 with (h|⟨o,h⟩)|h
      · exact .inl (.inl (eS _ _ h))
      · exact .inl (.inr ⟨o,eS _ _ h⟩)
      · exact .inr h
    have hA:∀ b,H b≠none→b=a∨b=T:=fun b h=>by
      by_cases hb:b=T
      · exact .inr hb
      · rw [eN b hb] at h;exact .inl (hA0 b h)
    have base_of:∀ {b:Addr} {o:Obj},s₁.heap.get? b=some o→H b=none→(lS s₁.heap H).get? b=some o:=fun e n=>uD e n;have noB:∀ {b:Addr} {o:Obj},s₁.heap.get? b=some o→o.cls≠.none→(∀ its n,o.data≠.seq its n)→H b=none:=fun {b o} e d1 d2=>by
      cases q:H b with
      | none=>rfl
      | some u =>
        rcases hA b (by rw [q];simp) with z|z
        · subst z;rw [ha] at e;cases e;exact absurd rfl (d2 _ _)
        · subst z;rw [hT] at e;cases e;exact absurd rfl d1
    have noA:∀ {b:Addr} {o:Obj} {es:Array DictEntry} {ep:Nat},s₁.heap.get? b=some o→o.data=.dict es ep→H b=none:=fun {b o es ep} e d=>by
      cases q:H b with
      | none=>rfl
      | some u =>
        rcases hA b (by rw [q];simp) with z|z
        · subst z;rw [ha] at e;cases e;cases d
        · subst z;rw [hT] at e;cases e;cases d
    have nsK:∀ {b:Addr} {m:Str→Option Value},s₁.heap.Ns b m→(lS s₁.heap H).Ns b m:=fun {b m} ⟨o,es,ep,e,d,r⟩=>⟨o,es,ep,base_of e (noA e d),d,r⟩
    have hKb:K.In (lS s₁.heap H):=fun b o e=>base_of (KX b o e) (by
      cases q:H b with
      | none=>rfl
      | some u =>
        rcases hA b (by rw [q];simp) with z|z
        · subst z;rw [eN b nTa.symm] at q;rw [hK0 (by rw [q];simp)] at e;cases e
        · subst z;rw [hKT] at e;cases e)
    have hBb:(lS s₁.heap H).BuiltinsAt mg T:=by
      obtain ⟨bm,ob,b1,b2,b3,b4,b5,b6,b7,b8⟩:=hBT;exact ⟨bm,ob,b1,b2,b3,b4,base_of b5 (noB b5 (by rw [b6];simp) (fun its n z=>by rw [b8] at z;cases z)),b6,b7,b8⟩
    have hM:Mod K mg (lS s₁.heap H):=⟨hKb,nsK hns,⟨mb,nsK hb,hbb⟩,let ⟨mc,h1,h2⟩:=hlim;⟨mc,nsK h1,h2⟩,let ⟨mm,h1⟩:=hsm;⟨mm,nsK h1⟩⟩
    have e0:Env0 P w K mg (lS s₁.heap H) callerA [] s₁ H:=⟨rfl,hM,fun b o e=>vF e,Nat.le_of_eq (sM _ _),trivial,fun b hb=>absurd (show b∈([]:List Addr) from hb) (by simp),hok,.of_eq hg⟩
    have hL:LTab T qual H #[]:=⟨eT,trivial,fun pos cv z=>by cases z⟩
    refine codeAny_mono ((F _ hKb (nsK hns) hBb).run callerA [] s₁ H ⟨[.ref a],[]⟩ [.ref a] [.ref a] _ _ hr e0 (hbind s₁ (.ref a)) (.cons rfl .nil) (hsp H hL hS)) fun r s' h=>?_;cases r with
    | error e=>exact (hCX H e s' h).elim
    | ok fl =>
      cases fl with
      | next=>exact abc h
      | brk=>exact abc h
      | cont=>exact abc h
      | ret u =>
        obtain ⟨v,H',os,bare,un,hok',r',q⟩:=h;have q':v=.bl true:=q;subst q';obtain rfl:u=Value.bool true:=r';refine ⟨rfl,⟨fun b o e=>?_,fun b o e=>un.there b o e (by simp)⟩,os,bare⟩;by_cases hbT:b=T
        · subst hbT;rw [hT] at e;cases e;obtain ⟨more,e2⟩:=un.tbls b #[] eT;have e3:s'.heap.get? b=some (PySem.W.tabObj (#[]++more)):=hok' b _ e2;exact .inr (.inl ⟨hTc.isCodeTable,rfl,#[],more,rfl,e3⟩)
        · cases q:H b with
          | none=>exact .inl (un.keep b o e q (by intro z;exact absurd (show b∈([]:List Addr) from z) (by simp)) (by simp))
          | some u =>
            rw [eN b hbT] at q;rcases hO b with z|⟨ob,xs,z⟩
            · rw [q] at z;cases z
            · have z2:=un.frzs b ob _ (eS _ _ z);obtain ⟨e1,_⟩:=hok0 b _ z;obtain ⟨e2,_⟩:=hok' b _ z2;rw [e] at e1;cases e1;exact .inl e2
  cases hk:K.lookup a with
  | some o =>
    have e:=KX a o hk;rw [ha] at e;cases e;refine core (fun _=>none) (fun _=>.inl rfl) (.inr ⟨_,vs.toArray,_,hk,rfl,rfl,rfl,by rw [aah,lenV];exact hl,by simpa using rv⟩) (fun b u z=>by have z':(none:Option HO)=some u:=z;cases z') (fun b z=>absurd rfl z) fun z=>absurd rfl z
  | none =>
    refine core (fun b=>if b=a then some (.frz { cls:=.type "list",data:=.seq vs.toArray } (.lst (ns.map V.int))) else none) (fun b=>?_) (.inl (.inr ⟨{ cls:=.type "list",data:=.seq vs.toArray },if_pos rfl⟩)) (fun b u z=>?_) (fun b z=>?_) fun _=>hk
    · by_cases hb:b=a
      · exact .inr ⟨_,_,if_pos hb⟩
      · exact .inl (if_neg hb)
    · by_cases hb:b=a
      · have z':=(if_pos hb).symm.trans z;cases z';subst hb;exact ⟨ha,by rw [aak];exact hl,vs,_,rv,ha⟩
      · have z':=(if_neg hb).symm.trans z;cases z'
    · by_cases hb:b=a
      · exact hb
      · exact absurd (if_neg hb) z
theorem walk_ofT {T c:Addr} {qual:Str} {l:PySem.W.OpenLaw} {n k:Nat} {q:Program} {loose:List Str} {XP:(Str→Option Value)→Heap→Prop} {YP:World→Heap→Prop} {d:DefRec} {K:Params→aaa} {CX:World→CXT} {sp:World→Sp} {x:Str}
    (hn:l.most=some n) (hn2:n≤sizeLine) (hdf:d.params.defaults=[]) (hr:Room k callerA) (hi:PyProof.Rows.importsNone q=true)
    (hY:∀ (w:World) (h:Heap),YP w h→(K w.params).In h∧h.get? T=some (PySem.W.tabObj #[])) (hC:∀ w:World,PySem.W.codeHdIn (K w.params) c T=true) (hKT:∀ w:World,(K w.params).lookup T=none)
    (F:∀ (w:World) (mg:Str→Option Value) (fa:Addr) (h:Heap),(K w.params).In h→h.Ns mainGlobals mg→mg d.name=some (.ref fa) →
      ∃ fd:FuncData,(∀ (s:Shared) (u:Value),BindsTo s fd ⟨[u],[]⟩ [(x,u)]) ∧
        ∀ base:Heap,(K w.params).In base→base.Ns mainGlobals mg→base.BuiltinsAt mg T→FnOk l.prog w (K w.params) mg base (CX w) k fa fd [x] (sp w))
    (hsp:∀ (w:World) (H:Hp) (a:Addr) (ns:List Int),ns.length≤n→LTab T qual H #[]→SqL (K w.params) H a (ns.map V.int)→sp w [.ref a] H (fun v _=>v=.bl true) fun _ _ _=>False)
    (hCX:∀ (w:World) (H:Hp) (s:Shared) (e:Value) (s':Shared),CX w [] H s (fun _ _ _=>False) e s'→False) :
    PySem.W.WalkO q loose XP YP l.row.toRowW d [] (fun f vs=>PySem.call f vs):=by
  refine Att.attach_call hn hdf fun w s₀ s₁ mg mb fa o pm cd doc a vs ns G Y ho hd hcd hmg hobj hints hlen hg=>?_;obtain ⟨KX,hT⟩:=hY w _ Y;obtain ⟨fd,hb,hF⟩:=F w mg fa _ KX G.T.g hmg;have hTc:s₁.heap.TableAt c T #[]:=(PySem.W.codeHd_of_K KX (hC w)).tab hT;obtain ⟨bm,ob,b1,b2,b3,b4,b5,b6⟩:=G.T.bmain;have hBT:s₁.heap.BuiltinsAt mg T:=by
    refine ⟨bm,ob,b1,b2,fun z=>?_,fun z=>?_,b3,b4,b5,b6⟩
    · obtain ⟨o',es,ep,e,hd',_⟩:=G.T.g;rw [z,e] at b3;cases b3;rw [hd'] at b6;cases b6
    · rw [z,hT] at b3;cases b3;cases b4
  exact sA (qual:=qual) KX G.T.g G.T.b G.T.builtins G.T.nolimit (let ⟨mm,h1,_⟩:=(G.T.seer hi).mods;⟨mm,h1⟩) hg hobj hints (aaT hlen hn2) hr hT hTc (hKT w) hBT hF hb (fun H hL hS=>hsp w H a ns hlen hL hS) fun H e s'=>hCX w H s₁ e s'
open PySem PySem.Spec PyProof.Rows
theorem xk {J:It} {n:Nat} {Kp:Hp→Prop} {item:Nat→V→Hp→Hp→Prop} (T:Trn J n Kp item) {cap:List (Option Nat)} {g:TG} {tt:TT} {wi2:TI} {g2:TG} {tt2:TT} {wi3:TI} {g3:TG} {tt3:TT} {te:TE} {σ:St} {H:Hp} {Q:VK} (Pv:Nat→List V→Hp→Prop) (h0:Pv 0 [] H) (hk:∀ i ys H,i≤n→Pv i ys H→Kp H)
    (hs:∀ i x ys H H',i < n→item i x H H'→Pv i ys H→∀ Nx:List V→Hp→Prop,(∀ ys' H2,Pv (i+1) ys' H2→Nx ys' H2)→g x (da cap σ) H' fun σ2 H2=>tt σ2 H2 fun b H3=>if b=true then wi2 σ2 H3 (va g2 tt2 wi3 g3 tt3 te ys σ2 Nx) else Nx ys H3)
    (hd:∀ ys H,Pv n ys H→∀ p,H p=none→Q (.ref p) (upd H p (.lst ys))):wt cap g tt wi2 g2 tt2 wi3 g3 tt3 te σ Q J H:=by
  refine ⟨fun i m ys H=>m=n - i∧i≤n∧Pv i ys H,⟨n,by simp,aaO _,h0⟩,?_⟩;rintro i m ys H ⟨rfl,hi,p⟩;by_cases hlt:i < n
  · refine .inr ⟨T.go i H hlt (hk i ys H hi p),fun x H' y=>?_⟩;exact hs i x ys H H' hlt (T.yld i H x H' hlt (hk i ys H hi p) y) p (fun ys' H4=>∃ m',m' < n - i∧m'=n - (i+1)∧i+1≤n∧Pv (i+1) ys' H4) fun ys' H2 h=>⟨_,by lia,rfl,hlt,h⟩
  · have e:i=n:=by lia
    subst e;exact .inl ⟨T.stop H (hk _ ys H hi p),hd ys H p⟩
theorem vI {J:It} {n:Nat} {Kp:Hp→Prop} {item:Nat→V→Hp→Hp→Prop} (T:Trn J n Kp item) {g2:TG} {tt2:TT} {wi3:TI} {g3:TG} {tt3:TT} {te:TE} {ys:List V} {σ:St} {H:Hp} {Fin:List V→Hp→Prop} (Pv:Nat→List V→St→Hp→Prop) (h0:Pv 0 ys σ H) (hk:∀ i ys σ H,i≤n→Pv i ys σ H→Kp H)
    (hs:∀ i x ys σ H H',i < n→item i x H H'→Pv i ys σ H→∀ Nx:List V→St→Hp→Prop,(∀ ys' σ' H2,Pv (i+1) ys' σ' H2→Nx ys' σ' H2)→g2 x σ H' fun σ3 H5=>tt2 σ3 H5 fun b H6=>if b=true then wi3 σ3 H6 (nU g3 tt3 te ys σ3 Nx) else Nx ys σ3 H6)
    (hd:∀ ys σ H,Pv n ys σ H→Fin ys H):va g2 tt2 wi3 g3 tt3 te ys σ Fin J H:=by
  refine ⟨fun i m ys σ H=>m=n - i∧i≤n∧Pv i ys σ H,⟨n,by simp,aaO _,h0⟩,?_⟩;rintro i m ys σ H ⟨rfl,hi,p⟩;by_cases hlt:i < n
  · refine .inr ⟨T.go i H hlt (hk i ys σ H hi p),fun x H' y=>?_⟩;exact hs i x ys σ H H' hlt (T.yld i H x H' hlt (hk i ys σ H hi p) y) p (fun ys' σ' H4=>∃ m',m' < n - i∧m'=n - (i+1)∧i+1≤n∧Pv (i+1) ys' σ' H4) fun ys' σ' H2 h=>⟨_,by lia,rfl,hlt,h⟩
  · have e:i=n:=by lia
    subst e;exact .inl ⟨T.stop H (hk _ ys σ H hi p),hd ys σ H p⟩
theorem vH {J:It} {n:Nat} {Kp:Hp→Prop} {item:Nat→V→Hp→Hp→Prop} (T:Trn J n Kp item) {g2:TG} {tt2:TT} {te:TE} {ys:List V} {σ:St} {H:Hp} {Fin:List V→St→Hp→Prop} (Pv:Nat→List V→St→Hp→Prop) (h0:Pv 0 ys σ H) (hk:∀ i ys σ H,i≤n→Pv i ys σ H→Kp H∧ys.length < sizeLine)
    (hs:∀ i x ys σ H H',i < n→item i x H H'→Pv i ys σ H→∀ Nx:List V→St→Hp→Prop,(∀ ys' σ' H2,Pv (i+1) ys' σ' H2→Nx ys' σ' H2)→g2 x σ H' fun σ3 H5=>tt2 σ3 H5 fun b H6=>if b=true then te σ3 H6 fun v H7=>Nx (ys++[v]) σ3 H7 else Nx ys σ3 H6)
    (hd:∀ ys σ H,Pv n ys σ H→Fin ys σ H):nU g2 tt2 te ys σ Fin J H:=by
  refine ⟨fun i m ys σ H=>m=n - i∧i≤n∧Pv i ys σ H,⟨n,by simp,aaO _,h0⟩,?_⟩;rintro i m ys σ H ⟨rfl,hi,p⟩;by_cases hlt:i < n
  · refine .inr ⟨T.go i H hlt (hk i ys σ H hi p).1,(hk i ys σ H hi p).2,fun x H' y=>?_⟩;exact hs i x ys σ H H' hlt (T.yld i H x H' hlt (hk i ys σ H hi p).1 y) p (fun ys' σ' H4=>∃ m',m' < n - i∧m'=n - (i+1)∧i+1≤n∧Pv (i+1) ys' σ' H4) fun ys' σ' H2 h=>⟨_,by lia,rfl,hlt,h⟩
  · have e:i=n:=by lia
    subst e;exact .inl ⟨T.stop H (hk _ ys σ H hi p).1,hd ys σ H p⟩
open PySem PySem.Spec PyProof.Rows
def x5 (K:aaa) (neg:Bool):R2:=fun x y H Q=>∃ (p:Int × Int) (l:Addr) (us:List V) (ps:List (Int × Int)),PairIn H p x∧y=.ref l∧(SqL K H l us∨SqT K H l us)∧PairsIn H ps us∧Q (.bl (if neg then !decide (p∈ps) else decide (p∈ps))) H
theorem qg {X:Cx} {K:aaa} (hK:X.K=K) (hu:X.A.units+64 < cLine):OpR X (compareOp .NotIn) (x5 K true):=by
  intro pins s σ H x y v u Q I rx ry h;obtain ⟨p,l,us,ps,hp,e,hq,hps,q⟩:=h;rcases hq with hq|hq
  · exact rX hK hu pins s σ H x y v u Q I rx ry ⟨p,l,us,ps,hp,e,hq,hps,q⟩
  · subst hK;subst e;cases ry;obtain ⟨its,r,pl,hz⟩:=I.tuple hq;obtain ⟨f,hf,ha⟩:=jd (p:=p) I hps r;refine SeqAt.notIn_tupleAt f pl (fun w hw=>?_) ⟨.bl _,H,I,rfl,?_⟩
    · obtain ⟨q',v',h1,h2,h3⟩:=hf w (by simpa using hw);rw [h3];exact (EqR.pair (K:=X.K) (n:=0) h1 hp).at I h2 rx (by show X.A.units+1+(0+1) < cLine;lia)
    · rw [show its.toArray.any f=its.any f by simp,ha];exact q
open PySem PySem.Spec PyProof.Rows
section
variable {prog:Program} {w:World} {A:Around} {E:Value→Shared→Prop} {s:Shared}
end
def Ent (P:Program) (w:World) (d:Addr) (o:Obj) (u:HO) (n:Nat) (rw:Nat→V→V→Hp→Prop) (es:Array DictEntry) (ep:Nat):Prop :=
  o.data=.dict es ep∧es.size=n∧∀ H h,HOk P w H h→H d=some (.frz o u)→h.get? d=some o∧∀ i e,es[i]?=some e→∃ k y,RelV k e.key∧RelV y e.val∧rw i k y H
theorem gK {J:It} {n:Nat} {Kp:Hp→Prop} {item:Nat→V→Hp→Hp→Prop} (T:Trn J n Kp item) {g:TG} {tb:TS} {D:Ends} {σ:St} {H:Hp} (Pv:Nat→St→Hp→Prop) (h0:Pv 0 σ H) (hk:∀ i σ H,i≤n→Pv i σ H→Kp H)
    (hs:∀ i x σ H H',i < n→item i x H H'→Pv i σ H→g x σ H' fun σ2 H2=>tb { D with nx:=Pv (i+1),ct:=Pv (i+1),bk:=D.nx } σ2 H2) (hd:∀ σ H,Pv n σ H→D.nx σ H) :
    ∃ W:Nat→Nat→St→Hp→Prop,(∃ m,W 0 m σ H)∧∀ i m σ H,W i m σ H →
      (J.stop i H∧D.nx σ H)∨(J.go i H∧∃ N:St→Hp→Prop,(∀ σ' H',N σ' H'→∃ m',m' < m∧W (i+1) m' σ' H')∧∀ x H',J.yld i H x H'→g x σ H' fun σ2 H2=>tb { D with nx:=N,ct:=N,bk:=D.nx } σ2 H2):=by
  refine ⟨fun i m σ H=>m=n - i∧i≤n∧Pv i σ H,⟨n,by simp,aaO _,h0⟩,?_⟩;rintro i m σ H ⟨rfl,hi,p⟩;have q:=hk i σ H hi p;by_cases hlt:i < n
  · exact .inr ⟨T.go i H hlt q,Pv (i+1),fun σ' H' p'=>⟨n - (i+1),by lia,rfl,hlt,p'⟩,fun x H' y=>hs i x σ H H' hlt (T.yld i H x H' hlt q y) p⟩
  · have e:i=n:=by lia
    subst e;exact .inl ⟨T.stop H q,hd σ H p⟩
def xG (H:Hp) (d:Addr):Prop:=∀ o v,H d≠some (.frz o v)
end L2
namespace PySem
open Sem (wp)
namespace F
end F
section
variable {prog:Program} {w:World} {A:Around} {E:Value→Shared→Prop} {h:Heap} {g:Array GenState} {d:Drawn} {t:Nat} {os:OsState} {a:Addr} {xs:Array Value} {k:Nat}
end
end PySem
namespace L2
open PySem PySem.Spec PyProof.Rows
section
variable {prog:Program} {w:World} {A:Around} {E:Value→Shared→Prop} {s:Shared}
end
open PySem PySem.Spec PyProof.Rows
section
variable {X:Cx}
end
theorem wC {us:List Value} {d:Value} (h:(us++[d]).length=3):∃ a b,us=[a,b]:=by
  rw [aal] at h
  match us,h with
  | [a,b],_=>exact ⟨a,b,rfl⟩
structure FunD (K:aaa) (x qual:Str) (st:Stmt) (f:Addr) (fd:FuncData) (tD:Addr):Prop where
  ex:∃ (oc:Value) (od:Option Addr) (kV doc pm:Value) (an:Option Addr) (cdv ct:Value) (osl:Array (Option Value)),
    fd=aaY x qual (bU st) (bn st) (aj st) (.ref tD) kV doc pm an cdv ct∧K.lookup f=some ⟨oc,od,.func fd,osl⟩∧abl K cdv qual=true
  kp:aaZ K (.ref f)=true
section
variable {P:Program} {w:World} {K:aaa} {mg:Str→Option Value} {base:Heap}
theorem FunD.ok {x qual:Str} {st:Stmt} {f:Addr} {fd:FuncData} {tD:Addr} {N ps:List Str} {k:Nat} {sp:Sp} (F:FunD K x qual st f fd tD) (S:FnScope N ps (aj st)) (len:∀ vs H Q E,sp vs H Q E→vs.length=ps.length)
    (hbody:∀ (cdv:Value) (A:Around) (outer:List Env) (s:Shared) (H:Hp) (vs:List V) (Q:VK) (E:XK),Room k (A.deeper (envOfC qual (aj st) s.heap.objs.size f cdv))→sp vs H Q E →
      ∃ t,PSs (gY CX0 P w K mg base N qual (aj st) f cdv A outer s H E).nox (bn st) t∧t { nx:=fun _ H'=>Q .non H',rt:=Q } (start N vs) H):FnOk P w K mg base CX0 (k+1) f fd ps sp:=by
  obtain ⟨oc,od,kV,doc,pm,an,cdv,ct,osl,rfl,lk,hcd⟩:=F.ex;refine rq lk hcd S len fun A outer s H vs Q E hr hsp=>?_;obtain ⟨t,h,q⟩:=hbody cdv A outer s H vs Q E hr hsp;exact ⟨t,h.nox,q⟩
theorem FunD.binds {x qual:Str} {st:Stmt} {f:Addr} {fd:FuncData} {tD:Addr} {ps:List Str} {ds:List Value} (F:FunD K x qual st f fd tD)
    (h:∀ (kV doc pm:Value) (an:Option Addr) (cdv ct:Value) (s:Shared) (us:List Value),K.In s.heap→(us++ds).length=ps.length→BindsTo s (aaY x qual (bU st) (bn st) (aj st) (.ref tD) kV doc pm an cdv ct) ⟨us,[]⟩ (ps.zip (us++ds))):Binds K fd ps ds:=by
  obtain ⟨oc,od,kV,doc,pm,an,cdv,ct,osl,rfl,lk,hcd⟩:=F.ex;exact h kV doc pm an cdv ct
theorem vQ {x qual:Str} {st:Stmt} {f tD:Addr} {oc:Value} {od an:Option Addr} {osl:Array (Option Value)} {kV doc pm cdv ct:Value} (l:K.lookup f=some ⟨oc,od,.func (aaY x qual (bU st) (bn st) (aj st) (.ref tD) kV doc pm an cdv ct),osl⟩)
    (c:abl K cdv qual=true) (k:aaZ K (.ref f)=true):FunD K x qual st f (aaY x qual (bU st) (bn st) (aj st) (.ref tD) kV doc pm an cdv ct) tD:=⟨⟨oc,od,kV,doc,pm,an,cdv,ct,osl,rfl,l,c⟩,k⟩
end
open PySem PySem.Spec PyProof.Rows
section
variable {X:Cx} {tg:Expr}
end
open PySem PySem.Spec PyProof.Rows
end L2
namespace L2
open PySem PySem.Spec PyProof.Rows PySem.W
section
variable {prog:Program} {w:World} {A:Around} {E:Value→Shared→Prop} {s:Shared}
end
open PySem PySem.Spec PyProof.Rows
def xj (e l:Nat→Bool) (n m:Nat):Nat→Nat→Bool
  | _,0=>decide (n < m)
  | j,k+1=>if e j=true then xj e l n m (j+1) k else l j
section
open PySem.SeqAt
open PySem.AutoSeq1 (wpAny_loadPart')
open PySem.MeetsSeq PySem.MeetsSeq2 PySem.MeetsSeq3
end
inductive LtR (K:aaa) (H:Hp):Nat→V→V→Bool→Prop
  | int {n:Nat} {a b:Int}:LtR K H n (.int a) (.int b) (decide (a < b))
  | tup {n:Nat} {a b:Addr} {xs ys:List V} {e l:Nat→Bool} (ha:SqT K H a xs) (hb:SqT K H b ys) (h:∀ (j:Nat) x y,xs[j]?=some x→ys[j]?=some y→EqR K H n x y (e j)) (hl:∀ (j:Nat) x y,xs[j]?=some x→ys[j]?=some y→e j=false→LtR K H n x y (l j)) :
      LtR K H (n+1) (.ref a) (.ref b) (xj e l xs.length ys.length 0 (min xs.length ys.length))
section
variable {X:Cx} {pins:List (Addr × Obj)} {σ:St} {H:Hp} {s:Shared}
end
section
variable {X:Cx}
end
open PySem PySem.Spec PyProof.Rows
def Fq (K:aaa) (x:Str) (s:Stmt) (f:Addr):Prop:=aaw K mainGlobals x=some (some (.ref f))∧∃ fd,Fun K x x s f fd
theorem Fq.mk4 {K:aaa} {x:Str} {st:Stmt} {f:Addr} {oc:Value} {od an:Option Addr} {osl:Array (Option Value)} {kV doc pm cdv ct:Value} (a:aaw K mainGlobals x=some (some (.ref f))) (l:K.lookup f=some ⟨oc,od,.func (aaY x x (bU st) (bn st) (aj st) .none kV doc pm an cdv ct),osl⟩)
    (c:abl K cdv x=true) (k:aaZ K (.ref f)=true):Fq K x st f:=⟨a,_,uH l c k⟩
theorem Fq.use {K:aaa} {x:Str} {st:Stmt} {f:Addr} {h:Heap} {mg:Str→Option Value} (q:Fq K x st f) (X:K.In h) (G:h.Ns mainGlobals mg) {ps:List Str}
    (hb:∀ (kV doc pm:Value) (an:Option Addr) (cdv ct:Value) (us:List Value),us.length=ps.length→bindArgs (aaY x x (bU st) (bn st) (aj st) .none kV doc pm an cdv ct) ⟨us,[]⟩=pure (ps.zip us)):∃ fd,Fun K x x st f fd∧Binds K fd ps []∧mg x=some (.ref f):=by
  obtain ⟨a,fd,F⟩:=q;exact ⟨fd,F,F.binds hb,aaN X G a⟩
open PySem PySem.Spec PyProof.Rows
open PySem PySem.Spec PyProof.Rows
open PySem PySem.Spec PyProof.Rows
open PySem PySem.Spec PyProof.Rows
section
variable {prog:Program} {w:World} {A:Around} {E:Value→Shared→Prop} {s:Shared}
end
end L2
namespace L2
open PySem
def yt (xs:Array Nat):Prop:=xs.toList.Pairwise (· < ·)
def Okm (m:Nat):Prop:=m=7∨m=15∨m=31∨m=63∨m=127∨m=255∨m=511∨m=1023
def lp (m:Nat):Nat→Nat→Nat→Nat × Nat
  | 0,i,p=>(i,p)
  | L+1,i,p=>lp m L ((i * 5+1+p / 32) % (m+1)) (p / 32)
end L2
namespace L2
open PySem
end L2
namespace L2
open PySem
structure GT (n:Nat) (b:Bool) (t:SetTable):Prop where
  okm:Okm t.mask
  dum:t.dummies=#[]
  pl:t.plain=true
  rise:yt t.place
  size:t.place.size=n
  led:t.led=b
  room:n * 5 < t.mask * 3
structure GT1 (n:Nat) (b:Bool) (t:SetTable):Prop where
  okm:Okm t.mask
  dum:t.dummies=#[]
  pl:t.plain=true
  rise:yt t.place
  size:t.place.size=n
  led:t.led=b
  room:(n - 1) * 5 < t.mask * 3
open PySem PySem.Spec PyProof.Rows
section
variable {prog:Program} {w:World} {A:Around} {E:Value→Shared→Prop} {s:Shared}
end
end L2
set_option maxHeartbeats 3200000
namespace L2
open PySem PySem.Spec PyProof.Rows
section
variable {prog:Program} {w:World} {A:Around} {E:Value→Shared→Prop} {s:Shared}
variable {R:Result→Shared→Prop} {I:Addr} {fp wr:List Addr} {G:Array GenState→Array GenState→Prop} {n:Nat} {P:Nat→Value→Prop} {St:Nat→Shared→Prop}
end
section
variable {prog:Program} {w:World} {A:Around} {E:Value→Shared→Prop} {s:Shared}
end
open PySem PySem.Spec PyProof.Rows
section
variable {prog:Program} {w:World} {A:Around} {E:Value→Shared→Prop} {s:Shared}
end
end L2
namespace PySem.F
end PySem.F
namespace L2
open PySem PySem.Spec PyProof.Rows
section
variable {prog:Program} {w:World} {A:Around} {E:Value→Shared→Prop} {s:Shared}
end
open PySem PySem.Spec PyProof.Rows
section
variable {prog:Program} {w:World} {A:Around} {E:Value→Shared→Prop} {s:Shared}
end
open PySem PySem.Spec PyProof.Rows
end L2
namespace PySem.F
end PySem.F
namespace L2
open PySem PySem.Spec PyProof.Rows
structure SI (prog:Program) (w:World) (h:Heap) (a:Addr) (o:Obj) (es:Array (Int × Value)) (ep:Nat) (t:SetTable):Prop where
  at':h.get? a=some o
  ex:o.ExactSet
  dat:o.data=.set es ep t
  fit:t.fits es.size=true
  els:ElemsOf (intKind prog w) es.toList
  few:es.size < scanBound
section
variable {prog:Program} {w:World} {A:Around} {E:Value→Shared→Prop} {s:Shared}
end
open PySem PySem.Spec PyProof.Rows
section
variable {prog:Program} {w:World} {A:Around} {E:Value→Shared→Prop} {s:Shared}
end
open PySem PySem.Spec PyProof.Rows
section
variable {prog:Program} {w:World} {A:Around} {E:Value→Shared→Prop} {s:Shared}
end
open PySem PySem.Spec PyProof.Rows
section
variable {prog:Program} {w:World} {A:Around} {E:Value→Shared→Prop} {s:Shared}
end
open PySem PySem.Spec PyProof.Rows
section
variable {prog:Program} {w:World} {A:Around} {E:Value→Shared→Prop} {s:Shared}
end
open PySem PySem.Spec PyProof.Rows
section
variable {prog:Program} {w:World} {A:Around} {E:Value→Shared→Prop} {s:Shared}
end
open PySem PySem.Spec PyProof.Rows
open PySem PySem.Spec PyProof.Rows
open PySem PySem.Spec PyProof.Rows
open PySem PySem.Spec PyProof.Rows
open PySem PySem.Spec PyProof.Rows
section
variable {X:Cx}
end
open PySem PySem.Spec PyProof.Rows
open PySem PySem.Spec PyProof.Rows
section
open PySem.SeqAt
open PySem.AutoSeq1 (wpAny_loadPart')
open PySem.MeetsSeq PySem.MeetsSeq2 PySem.MeetsSeq3
end
inductive LtQ (K:aaa) (H:Hp):Nat→V→V→Bool→Prop
  | int {n:Nat} {a b:Int}:LtQ K H n (.int a) (.int b) (decide (a < b))
  | lst {n:Nat} {a b:Addr} {xs ys:List V} {e l:Nat→Bool} (ha:SqL K H a xs) (hb:SqL K H b ys) (h:∀ (j:Nat) x y,xs[j]?=some x→ys[j]?=some y→EqR K H n x y (e j)) (hl:∀ (j:Nat) x y,xs[j]?=some x→ys[j]?=some y→e j=false→LtQ K H n x y (l j)) :
      LtQ K H (n+1) (.ref a) (.ref b) (xj e l xs.length ys.length 0 (min xs.length ys.length))
section
variable {X:Cx} {pins:List (Addr × Obj)} {σ:St} {H:Hp} {s:Shared}
end
end L2
namespace Tim
open PySem PyProof.Rows
section
variable {prog:Program} {w:World} {A:Around} {E:Value→Shared→Prop} {s:Shared}
end
end Tim
namespace L2
open PySem PySem.Spec PyProof.Rows
section
variable {prog:Program} {w:World} {A:Around} {E:Value→Shared→Prop} {s:Shared}
end
structure Rnk (K:aaa) (H:Hp) (n:Nat) (us:List V) (kf:V→Int):Prop where
  two:∀ x∈us,∃ t k wv ks,x=.ref t∧H t=some (.tup [.ref k,wv])∧H k=some (.lst ks)
  cmp:∀ t t' k k' wv wv',V.ref t∈us→V.ref t'∈us→H t=some (.tup [.ref k,wv])→H t'=some (.tup [.ref k',wv']) →
    EqR K H n (.ref k) (.ref k') (decide (kf (.ref t)=kf (.ref t')))∧(kf (.ref t)≠kf (.ref t')→LtQ K H n (.ref k) (.ref k') (decide (kf (.ref t) < kf (.ref t'))))∧(kf (.ref t)=kf (.ref t')→EqR K H n wv wv' true)
open PySem PySem.Spec PyProof.Rows
section
variable {X:Cx} {tg:Expr}
end
section
variable {X:Cx}
end
open PySem PySem.Spec PyProof.Rows
open PySem PySem.Spec PyProof.Rows
def CauT (K:aaa) (H:Hp) (x:V) (t:Value):Prop:=(x=.non∧t=.type "NoneType")∨∃ ea C,x=.ref ea∧H ea=some (dr ea C)∧ExC K C∧t=.ref C
theorem CauT.mono {K:aaa} {H H':Hp} {x:V} {t:Value} (s:∀ b o,H b=some o→H' b=some o) (h:CauT K H x t):CauT K H' x t:=by
  rcases h with h|⟨ea,C,e1,e2,e3,e4⟩
  · exact .inl h
  · exact .inr ⟨ea,C,e1,s _ _ e2,e3,e4⟩
theorem cf {X:Cx}:dG X (.builtin "isinstance") (fun xs H Q=>∃ x c t u b,xs=[x,c]∧CauT X.K H x t∧(∀ u',RelV c u'→u'=u)∧aaJ X.K t u=some b∧Q (.bl b) H):=by
  intro pins s σ H xs us Q I r h;obtain ⟨x,c,t,u,b,rfl,hx,hu,hk,q⟩:=h;obtain ⟨u1,u2,rfl,r1,r2⟩:=nV r;obtain rfl:=hu _ r2;rcases hx with ⟨rfl,rfl⟩|⟨ea,C,rfl,he,x,rfl⟩
  · cases (show u1=Value.none from r1);exact aa6 PySem.W.kitx_none I.kIn True.intro hk (fun z=>nomatch z) fun tk=>⟨.bl b,H,I.tok tk,rfl,q⟩
  · cases r1;obtain ⟨⟨o,vs,h1,h2,_⟩,_⟩:=(show ObjOk X.prog X.w H s.heap ea (dr ea C) from I.hok ea _ he)
    exact aa6 (oW x) I.kIn ⟨o,h1,h2⟩ hk (fun z=>nomatch z) fun tk=>⟨.bl b,H,I.tok tk,rfl,q⟩
theorem lV {X:Cx}:dG X (.builtin "isinstance") (fun xs H Q=>∃ x tp cs t us b,xs=[x,.ref tp]∧CauT X.K H x t∧H tp=some (.tup cs)∧(∀ us',Vals cs us'→us'=us)∧PySem.W.kitAny X.K t us=some b∧Q (.bl b) H):=by
  intro pins s σ H xs us Q I r h;obtain ⟨x,tp,cs,t,us,b,rfl,hx,ht,hu,hk,q⟩:=h;obtain ⟨u1,u2,rfl,r1,r2⟩:=nV r;cases r2;obtain ⟨_,its,rv,ot,g1,g2,k,g3⟩:=(show ObjOk X.prog X.w H s.heap tp (.tup cs) from I.hok tp _ ht)
  obtain rfl:=hu _ rv;obtain ⟨oc,od,dat,sl⟩:=ot;cases (show oc=_ from g2);cases (show dat=_ from g3);rcases hx with ⟨rfl,rfl⟩|⟨ea,C,rfl,he,x,rfl⟩
  · cases (show u1=Value.none from r1);exact PySem.W.kia_tup PySem.W.kitx_none I.kIn True.intro g1 hk (fun z=>nomatch z) fun tk=>⟨.bl b,H,I.tok tk,rfl,q⟩
  · cases r1;obtain ⟨⟨o,vs,h1,h2,_⟩,_⟩:=(show ObjOk X.prog X.w H s.heap ea (dr ea C) from I.hok ea _ he)
    exact PySem.W.kia_tup (oW x) I.kIn ⟨o,h1,h2⟩ g1 hk (fun z=>nomatch z) fun tk=>⟨.bl b,H,I.tok tk,rfl,q⟩
section
variable {X:Cx} {pos:Pos}
end
end L2
namespace L2
open PySem PySem.Spec PyProof.Rows PySem.W
section
variable {X:Cx} {pins pl:List (Addr × Obj)} {σ:St} {H:Hp} {s:Shared}
end
section
variable {X:Cx}
end
end L2
namespace L2
open PySem PySem.Spec PyProof.Rows PySem.W
section
variable {X:Cx} {pins pl:List (Addr × Obj)} {σ:St} {H:Hp} {s:Shared}
end
section
variable {X:Cx}
end
open PySem PySem.Spec PyProof.Rows
inductive Thw (H:Hp):Hp→Hp→Prop
  | refl (H1:Hp):Thw H H1 H1
  | step {H1 H2:Hp} {d:Addr} {o:Obj} {u:HO} (h:Thw H H1 H2) (nf:xG H d) (e:H2 d=some (.frz o u)):Thw H H1 (upd H2 d u)
open PySem PySem.Spec PyProof.Rows
open PySem PySem.Spec PyProof.Rows
section
variable {X:Cx} {tg:Expr}
end
open PySem PySem.Spec PyProof.Rows
section
variable {prog:Program} {w:World} {A:Around} {E:Value→Shared→Prop} {R:Result→Shared→Prop} {s:Shared}
end
section
variable {prog:Program} {w:World}
end
section
variable {X:Cx}
end
open PySem PySem.Spec PyProof.Rows
section
variable {M:Model} {A:Around} {E:Value→Shared→Prop} {s:Shared}
end
section
variable {X:Cx}
end
open PySem PySem.Spec PyProof.Rows
open PySem PySem.Spec PyProof.Rows
section
variable {X:Cx} {pins:List (Addr × Obj)} {σ:St} {H:Hp} {s:Shared}
end
end L2
namespace L2
open PySem
variable {X:Cx}
theorem vy {x:Str} {k k':Nat} {ps:List Str} {sp:Sp} {p pos:Pos} (C:Cal X.prog X.w X.K X.mg X.base x k ps sp) (hr:Room k' X.A) (hk:k≤k') (hg:Gl X x) (hdb:(x == ("__debug__":Str))=false:=by decide) :
    PE X (.Call (.Name x p) [] [] pos) (nX sp [] E0 wH):=by
  obtain ⟨f,fd,F,b,kp,m⟩:=C;exact tU F (hr.mono hk) hg m kp b .nil v8 hdb
end L2
namespace L2
open PySem PyProof.Rows PySem.W
open PySem PySem.Spec PyProof.Rows
theorem Same.upd {H H1:Hp} {p:Addr} {o:HO} (a:Same H H1) (h:H p=none):Same H (L2.upd H1 p o):=fun b u q=>by
  rw [aw (ak q h)];exact a b u q
end L2
namespace Put
open PySem L2
def top (i:Nat):Stmt:=PySem.Challenge.pw_putsigns_k42_what_are_holds.main.body.getD i (.Pass ⟨0,0,0,0⟩)
inductive Sg where
  | plus|minus|times
  deriving DecidableEq
def Sg.str:Sg→Str
  | .plus=>"+"
  | .minus=>"-"
  | .times=>"*"
inductive Wy where
  | num (i:Int)
  | node (g:Sg) (l r:Wy)
  deriving DecidableEq
def Wy.size:Wy→Nat
  | .num _=>1
  | .node _ l r=>l.size+r.size
theorem Wy.size_pos:∀ w:Wy,1≤w.size
  | .num _=>aae _
  | .node _ l r=>by have:=l.size_pos;show 1≤l.size+r.size;lia
def WyIn (H:Hp):Wy→V→Prop
  | .num i,v=>v=.int i
  | .node g l r,v=>∃ a vl vr,v=.ref a∧H a=some (.tup [.str g.str,vl,vr])∧WyIn H l vl∧WyIn H r vr
def Tups (H H':Hp):Prop:=∀ b xs,H b=some (.tup xs)→H' b=some (.tup xs)
theorem Tups.of {H H':Hp} (a:Same H H'):Tups H H':=fun b xs h=>a b _ h
theorem Tups.but {H H':Hp} {w:Addr} {xs:List V} (a:But w H H') (h:H w=some (.lst xs)):Tups H H':=fun b ys q=>a b _ (fun e=>by rw [e,h] at q;cases q) q
theorem Tups.trans {H H1 H2:Hp} (a:Tups H H1) (b:Tups H1 H2):Tups H H2:=fun c xs h=>b c xs (a c xs h)
theorem WyIn.mono {H H':Hp} (t:Tups H H'):∀ {w:Wy} {v:V},WyIn H w v→WyIn H' w v
  | .num _,_,h=>h
  | .node g l r,v,h=>by
    obtain ⟨a,vl,vr,e,h1,h2,h3⟩:=h;exact ⟨a,vl,vr,e,t _ _ h1,WyIn.mono t h2,WyIn.mono t h3⟩
structure Bu (K:aaa) (mg:Str→Option Value):Prop where
  ilen:mg "len" = none
  iisinstance : mg "isinstance" = none
  iint:mg "int" = none
  ibool:mg "bool" = none
  istr:mg "str" = none
  ituple:mg "tuple" = none
  ilist:mg "list" = none
  isorted:mg "sorted" = none
  irange:mg "range" = none
  irepr:mg "repr" = none
  ienumerate:mg "enumerate" = none
  isum:mg "sum" = none
  iall:mg "all" = none
  imin:mg "min" = none
  imax:mg "max" = none
  iabs:mg "abs" = none
  idivmod:mg "divmod" = none
  idict:mg "dict" = none
  iset:mg "set" = none
  ireversed:mg "reversed" = none
  iany:mg "any" = none
  izip:mg "zip" = none
structure Co (K:aaa) (mg:Str→Option Value) (tk:Tok) (aS:Addr):Prop where
  gMOST_NUMBERS:mg "MOST_NUMBERS" = some (.int 9 tk)
  gSIGNS:mg "SIGNS" = some (.ref aS)
  sSIGNS:∀ H,SqT K H aS [.str "+",.str "-",.str "*"]
section
variable {P:Program} {w:World} {K:aaa} {mg:Str→Option Value} {base:Heap} {f:Addr} {fd:FuncData}
def iz (K:aaa):Sp:=fun vs H Q _=>∃ x n,vs=[x]∧TyOf K H x (.type n)∧Q (.bl (decide (n = "int"))) H
abbrev ij:Stmt:=top 16
theorem oi:FnScope ["thing"] ["thing"] (aj ij):=⟨rfl,rfl,rfl,by decide +kernel,rfl,by decide +kernel,by decide +kernel⟩
theorem oH (F:Fun K "is_whole" "is_whole" ij f fd) (B:Bu K mg):FnOk P w K mg base CX0 1 f fd ["thing"] (iz K):=by
  refine F.ok oi (fun vs H Q E h=>?_) (fun cdv A outer s H vs Q E hr h=>?_)
  · obtain ⟨x,n,rfl,_⟩:=h;rfl
  obtain ⟨x,n,rfl,ty,q⟩:=h;refine ⟨_,(@ai _ _ _ (@az _ _ _ _ (@ip _ _ _ _ _ _ _ (@am _ _ _ _ _ _ _ _ _ (@cQ _ ("int")) rfl B.iisinstance aau (@aa _ _ _ _ _ (pv 0) (@aa _ _ _ _ _ (@eZ _ _ (.ty "int") _ _ rfl B.iint aci rfl (by decide) (by decide)) ac (by rfl)) (by rfl)) (by decide) (by decide) (by rfl) (by rfl)) (@jb _ _ _ _ _ (@wY _ _ _ _ (@am _ _ _ _ _ _ _ _ _ (@cQ _ ("bool")) rfl B.iisinstance aau (@aa _ _ _ _ _ (pv 0) (@aa _ _ _ _ _ (@eZ _ _ (.ty "bool") _ _ rfl B.ibool PyProof.Rows.boot_bool rfl (by decide) (by decide)) ac (by rfl)) (by rfl)) (by decide) (by decide) (by rfl) (by rfl))))))),?_⟩;cases ty with
  | non=>exact ⟨_,rfl,_,_,false,rfl,.non,rfl,false,rfl,aV q⟩
  | bl y=>exact ⟨_,rfl,_,_,true,rfl,.bl y,rfl,true,rfl,cD ⟨_,rfl,_,_,true,rfl,.bl y,rfl,true,rfl,q⟩⟩
  | int i=>exact ⟨_,rfl,_,_,true,rfl,.int i,rfl,true,rfl,cD ⟨_,rfl,_,_,false,rfl,.int i,rfl,false,rfl,q⟩⟩
  | str y=>exact ⟨_,rfl,_,_,false,rfl,.str y,rfl,false,rfl,aV q⟩
  | flt y=>exact ⟨_,rfl,_,_,false,rfl,.flt y,rfl,false,rfl,aV q⟩
  | lst e=>exact ⟨_,rfl,_,_,false,rfl,.lst e,rfl,false,rfl,aV q⟩
  | frz e=>exact ⟨_,rfl,_,_,false,rfl,.frz e,rfl,false,rfl,aV q⟩
  | tup e=>exact ⟨_,rfl,_,_,false,rfl,.tup e,rfl,false,rfl,aV q⟩
  | dK e=>exact ⟨_,rfl,_,_,false,rfl,.dK e,rfl,false,rfl,aV q⟩
  | dT e=>exact ⟨_,rfl,_,_,false,rfl,.dT e,rfl,false,rfl,aV q⟩
open PySem L2
theorem bj {n:Nat} (h:n≤1000):n≤sizeLine:=abo (aU h)
def Wy.nums:Wy→List Int
  | .num i=>[i]
  | .node _ l r=>l.nums++r.nums
theorem Wy.nums_len:∀ w:Wy,w.nums.length=w.size
  | .num _=>rfl
  | .node _ l r=>by show (l.nums++r.nums).length=l.size+r.size;rw [aal,l.nums_len,r.nums_len]
def aC:List Sg→Str
  | []=>""
  | g :: r=>g.str++aC r
theorem wO (g:Sg):g.str.length=1:=by cases g <;> rfl
theorem vk (x y:Str):(x++y).length=x.length+y.length:=by
  cases x;cases y;show (_++_:Array Nat).size=_;rw [Array.size_append];rfl
theorem jS:∀ xs:List Sg,(aC xs).length=xs.length
  | []=>rfl
  | g :: r=>by show (g.str++aC r).length=r.length+1;rw [vk,wO,jS r];lia
end
open PySem L2
def Wel (H:Hp) (w:Addr) (_M:Int):Prop:=∃ a b,H w=some (.lst [.int a,.int b])∧0≤b∧b < 2147483629
theorem Wel.keep {H H':Hp} {w:Addr} {M M':Int} (h:Wel H w M) (s:Same H H') (m:M≤M'):Wel H' w M':=by
  obtain ⟨a,b,e,h0,h1⟩:=h;exact ⟨a,b,s _ _ e,h0,h1⟩
theorem Wel.more {H:Hp} {w:Addr} {M M':Int} (h:Wel H w M) (m:M≤M'):Wel H w M':=h.keep (Same.refl H) m
theorem But.free {w p:Addr} {H H':Hp} {M:Int} (b:But w H H') (h:Wel H' w M) (n:H' p=none):H p=none:=by
  cases q:H p with
  | none=>rfl
  | some o =>
    by_cases e:p=w
    · subst e;obtain ⟨_,_,z,_⟩:=h;rw [z] at n;cases n
    · rw [b p o e q] at n;cases n
theorem Wel.ne {w p:Addr} {H:Hp} {M:Int} (h:Wel H w M) (n:H p=none):p≠w:=fun e=>by
  subst e;obtain ⟨_,_,z,_⟩:=h;rw [z] at n;cases n
theorem Wel.tups {w:Addr} {H H':Hp} {M:Int} (h:Wel H w M) (b:But w H H'):Tups H H':=by
  obtain ⟨_,_,z,_⟩:=h;exact Tups.but b z
section
variable {P:Program} {w:World} {K:aaa} {mg:Str→Option Value} {base:Heap} {f:Addr} {fd:FuncData}
theorem oR (x m:Int) (h:0 < m):0≤x % m∧x % m < m:=⟨Int.emod_nonneg x (by lia),Int.emod_lt_of_pos x h⟩
def pP:Sp:=fun vs H Q _=>∃ cell,vs=[.int cell]∧∀ p H',Same H H'→H p=none→Wel H' p 0→Q (.ref p) H'
abbrev gA:Stmt:=top 55
theorem mU:FnScope ["cell"] ["cell"] (aj gA):=⟨rfl,rfl,rfl,by decide +kernel,rfl,by decide +kernel,by decide +kernel⟩
theorem vC (F:Fun K "_law_well" "_law_well" gA f fd) (B:Bu K mg):FnOk P w K mg base CX0 1 f fd ["cell"] pP:=by
  refine F.ok mU (fun vs H Q E h=>?_) (fun cdv A outer s H vs Q E hr h=>?_)
  · obtain ⟨x,rfl,_⟩:=h;rfl
  obtain ⟨cell,rfl,q⟩:=h;refine ⟨_,(@ag _ _ _ _ _ (@bV _ _ _ _ _ _ _ _ (@aJ _ _ _ _ _ _ _ _ v9 (pv 0) (@aq _ _ _ _ _ _ _ _ eQ af af) (aX _)) (@ai _ _ _ (@az _ _ _ _ (@au _ _ _ _ (@aa _ _ _ _ _ (pv 0) (@aa _ _ _ _ _ (@aq _ _ _ _ _ _ _ _ gG (pv 0) af) ac (by rfl)) (by rfl))))) a6) (@ai _ _ _ (@az _ _ _ _ (@au _ _ _ _ (@aa _ _ _ _ _ af (@aa _ _ _ _ _ (@aq _ _ _ _ _ _ _ _ gG (pv 0) af) ac (by rfl)) (by rfl)))))),?_⟩;have z:=oR cell 2147483629 (by decide);refine ⟨_,rfl,_,_,rfl,rfl,⟨by decide,by decide,by decide⟩,_,_,rfl,rfl,_,rfl,dQ (fun _=>?_) (fun _=>?_)⟩
  · exact ⟨_,rfl,_,rfl,_,_,rfl,rfl,(show (0:Int) < 2147483629 by decide),(by show 2≤sizeLine;decide),fun p hp=>q p _ (Same.new hp _) hp ⟨_,_,ae,z.1,z.2⟩⟩
  · exact ⟨_,rfl,_,_,rfl,rfl,(show (0:Int) < 2147483629 by decide),(by show 2≤sizeLine;decide),fun p hp=>q p _ (Same.new hp _) hp ⟨_,_,ae,z.1,z.2⟩⟩
def fI:Sp:=fun vs H Q _=>∃ w m M,vs=[.ref w,.int m]∧0 < m∧m < 2 ^ 63∧Wel H w M∧M < 1000000000∧∀ r H',0≤r→r < m→But w H H'→Wel H' w (M+1)→Q (.int r) H'
abbrev gC:Stmt:=top 56
theorem dW:FnScope ["well","many","got","stirred"] ["well","many"] (aj gC):=⟨rfl,rfl,rfl,by decide +kernel,rfl,by decide +kernel,by decide +kernel⟩
theorem vE (F:Fun K "_law_draw" "_law_draw" gC f fd):FnOk P w K mg base CX0 2 f fd ["well","many"] fI:=by
  refine F.ok dW (fun vs H Q E h=>?_) (fun cdv A outer s H vs Q E hr h=>?_)
  · obtain ⟨x,m,M,rfl,_⟩:=h;rfl
  obtain ⟨wl,m,M,rfl,h0,h1,⟨a,b,e,c0,c1⟩,hM,q⟩:=h;refine ⟨_,(@ag _ _ _ _ _ (@bV _ _ _ _ _ _ _ _ (@aJ _ _ _ _ _ _ _ _ qV (@aY _ _ _ _ _ _ _ bc (pv 0) af (fun _ _=>rfl)) af (aX _)) (@ag _ _ _ _ _ (@aD _ _ (2) _ _ _ _ (dW).nd rfl (Or.inl rfl) (@aq _ _ _ _ _ _ _ _ gG (@aY _ _ _ _ _ _ _ bc (pv 0) af (fun _ _=>rfl)) (pv 1)) (by rfl) (by first|exact .inl rfl|exact .inr rfl|assumption)) (@ag _ _ _ _ _ (@fj _ _ _ _ _ _ (@aq _ _ _ _ _ _ _ _ oA (@aY _ _ _ _ _ _ _ bc (pv 0) af (fun _ _=>rfl)) (pv 1)) (@tQ _ _ _ _ _ _ _ (pv 0) af n_ (by intro _;rfl)) (by rfl) (by rfl) (by rfl)) (@ai _ _ _ (@az _ _ _ _ (pv 2))))) a6) (@ag _ _ _ _ _ (@aD _ _ (3) _ _ _ _ (dW).nd rfl (Or.inl rfl) (@aq _ _ _ _ _ _ _ _ gG (@aq _ _ _ _ _ _ _ _ cy (@aq _ _ _ _ _ _ _ _ gF (@aY _ _ _ _ _ _ _ bc (pv 0) af (fun _ _=>rfl)) af) af) af) (by rfl) (by first|exact .inl rfl|exact .inr rfl|assumption)) (@ag _ _ _ _ _ (@aD _ _ (3) _ _ _ _ (dW).nd rfl (Or.inl rfl) (@aq _ _ _ _ _ _ _ _ gG (@aq _ _ _ _ _ _ _ _ gF (pv 3) (pv 3)) af) (by rfl) (by first|exact .inl rfl|exact .inr rfl|assumption)) (@ag _ _ _ _ _ (@fj _ _ _ _ _ _ (@aq _ _ _ _ _ _ _ _ gG (@aq _ _ _ _ _ _ _ _ cy (@aq _ _ _ _ _ _ _ _ gF (pv 3) af) af) af) (@tQ _ _ _ _ _ _ _ (pv 0) af n_ (by intro _;rfl)) (by rfl) (by rfl) (by rfl)) (@ai _ _ _ (@az _ _ _ _ (@aq _ _ _ _ _ _ _ _ gG (@aq _ _ _ _ _ _ _ _ oA (@aY _ _ _ _ _ _ _ bc (pv 0) af (fun _ _=>rfl)) af) (pv 1)))))))),?_⟩;refine ⟨_,rfl,wl,_,_,_,rfl,rfl,SqL.of e,rfl,_,_,rfl,rfl,_,rfl,dQ (fun _=>?_) (fun _=>?_)⟩
  · refine ⟨_,rfl,wl,_,_,_,rfl,rfl,SqL.of e,rfl,_,rfl,_,_,rfl,rfl,h0,?_⟩;refine ⟨_,rfl,wl,_,_,_,rfl,rfl,SqL.of e,rfl,_,rfl,_,_,rfl,rfl,⟨h0,by lia⟩,_,rfl,wl,_,_,0,rfl,rfl,e,rfl,?_⟩;refine ⟨_,rfl,?_⟩;have z:=oR a m h0;exact q _ _ z.1 z.2 But.put ⟨_,_,ae,c0,c1⟩
  · refine ⟨_,rfl,wl,_,_,_,rfl,rfl,SqL.of e,rfl,_,_,rfl,rfl,.inr ⟨by decide,by decide⟩,_,_,rfl,rfl,_,_,rfl,rfl,(show (0:Int) < 2147483647 by decide),?_⟩;refine ⟨_,rfl,_,rfl,_,_,rfl,rfl,.inl ⟨by lia,by lia⟩,_,_,rfl,rfl,(show (0:Int) < 2147483587 by decide),?_⟩;refine ⟨_,rfl,_,_,rfl,rfl,.inr ⟨by decide,by decide⟩,_,_,rfl,rfl,_,_,rfl,rfl,(show (0:Int) < 2147483629 by decide),_,rfl,wl,_,_,1,rfl,rfl,e,rfl,?_⟩;have hd:=oR ((b * 48271+11) % 2147483647 * ((b * 48271+11) % 2147483647) % 2147483587 * 69621+40692) 2147483629 (by decide);refine ⟨_,rfl,wl,_,_,_,rfl,rfl,SqL.of ae,rfl,_,_,rfl,rfl,⟨by decide,by decide⟩,_,rfl,_,_,rfl,rfl,h0,?_⟩;have z:=oR (((b * 48271+11) % 2147483647 * ((b * 48271+11) % 2147483647) % 2147483587 * 69621+40692) % 2147483629 / 8) m h0;exact q _ _ z.1 z.2 But.put ⟨_,_,ae,hd.1,hd.2⟩
open PySem L2
def Small (ns:List Int):Prop:=∀ i∈ns,-1000000000000 < i∧i < 1000000000000
def tq:Sp:=fun vs H Q _=>∃ w n M,vs=[.ref w,.int n]∧0≤n∧n≤20∧Wel H w M∧M < 999990000 ∧
  ∀ p ns H',But w H H'→Wel H' w (M+400)→H p=none→H' p=some (.lst (ns.map V.int))→(ns.length:Int)=n→Small ns→Q (.ref p) H'
theorem ow {xs:List Int} {r:Int} (h0:0≤r) (h1:r < xs.length):∃ u:Int,atI (xs.map V.int) r=some (.int u)∧u∈xs:=by
  obtain ⟨j,rfl⟩:∃ j:Nat,r=(j:Int):=⟨r.toNat,by lia⟩
  have hj:j < xs.length:=by lia
  exact ⟨xs[j],iR (by rw [aaX,aad hj];rfl),abz hj⟩
theorem pm {k:Int} (h0:0≤k) (h1:k < 2):∃ z:Int,atI [V.int 1,.int (-1)] k=some (.int z)∧(z=1∨z=-1):=by
  have : k=0∨k=1:=by lia
  rcases this with rfl|rfl
  · exact ⟨1,rfl,.inl rfl⟩
  · exact ⟨-1,rfl,.inr rfl⟩
theorem p4 {k:Int} (h0:0≤k) (h1:k < 4):∃ z:Int,atI [V.int (10 ^ (4:Int).toNat),.int (10 ^ (6:Int).toNat),.int (10 ^ (9:Int).toNat),.int (10 ^ (12:Int).toNat)] k=some (.int z)∧0 < z∧z≤1000000000000:=by
  have : k=0∨k=1∨k=2∨k=3:=by lia
  rcases this with rfl|rfl|rfl|rfl <;> exact ⟨_,rfl,by decide,by decide⟩
abbrev io:Stmt:=top 57
theorem bY:FnScope ["well","many","kind","found","k","some","wide","own"] ["well","many"] (aj io):=⟨rfl,rfl,rfl,by decide +kernel,rfl,by decide +kernel,by decide +kernel⟩
theorem xf (F:Fun K "_law_row" "_law_row" io f fd) (B:Bu K mg) (C__law_draw:Cal P w K mg base "_law_draw" 2 ["well","many"] fI):FnOk P w K mg base CX0 3 f fd ["well","many"] tq:=by
  refine F.ok bY (fun vs H Q E h=>?_) (fun cdv A outer s H vs Q E hr h=>?_)
  · obtain ⟨x,m,M,rfl,_⟩:=h;rfl
  obtain ⟨wl,n,M,rfl,h0,h1,hw,hM,q⟩:=h;refine ⟨_,(@ag _ _ _ _ _ (@aD _ _ (2) _ _ _ _ (bY).nd rfl (Or.inl rfl) (@al _ _ _ _ _ _ _ _ _ _ _ C__law_draw hr (by lia) rfl (@aa _ _ _ _ _ (pv 0) (@aa _ _ _ _ _ af ac (by rfl)) (by rfl)) (by decide) (by rfl) (by rfl)) (by rfl) (by first|exact .inl rfl|exact .inr rfl|assumption)) (@ag _ _ _ _ _ (@aD _ _ (3) _ _ _ _ (bY).nd rfl (Or.inl rfl) (@au _ _ _ _ ac) (by rfl) (by first|exact .inl rfl|exact .inr rfl|assumption)) (@ag _ _ _ _ _ (@dg _ _ _ _ _ _ _ _ aaS rfl (@cU _ _ _ _ _ _ rfl B.irange (@aa _ _ _ _ _ (pv 1) ac (by rfl)) (by rfl)) (@ao _ _ (4) _ (bY).nd rfl (Or.inl rfl) (.inl rfl)) (@ag _ _ _ _ _ (@aD _ _ (5) _ _ _ _ (bY).nd rfl (Or.inl rfl) (@au _ _ _ _ (@aa _ _ _ _ _ (@al _ _ _ _ _ _ _ _ _ _ _ C__law_draw hr (by lia) rfl (@aa _ _ _ _ _ (pv 0) (@aa _ _ _ _ _ af ac (by rfl)) (by rfl)) (by decide) (by rfl) (by rfl)) (@aa _ _ _ _ _ (@aq _ _ _ _ _ _ _ _ bX (@al _ _ _ _ _ _ _ _ _ _ _ C__law_draw hr (by lia) rfl (@aa _ _ _ _ _ (pv 0) (@aa _ _ _ _ _ af ac (by rfl)) (by rfl)) (by decide) (by rfl) (by rfl)) af) (@aa _ _ _ _ _ (@aq _ _ _ _ _ _ _ _ bX (@al _ _ _ _ _ _ _ _ _ _ _ C__law_draw hr (by lia) rfl (@aa _ _ _ _ _ (pv 0) (@aa _ _ _ _ _ af ac (by rfl)) (by rfl)) (by decide) (by rfl) (by rfl)) af) (@aa _ _ _ _ _ (@aq _ _ _ _ _ _ _ _ bX (@al _ _ _ _ _ _ _ _ _ _ _ C__law_draw hr (by lia) rfl (@aa _ _ _ _ _ (pv 0) (@aa _ _ _ _ _ af ac (by rfl)) (by rfl)) (by decide) (by rfl) (by rfl)) af) ac (by rfl)) (by rfl)) (by rfl)) (by rfl))) (by rfl) (by first|exact .inl rfl|exact .inr rfl|assumption)) (@ag _ _ _ _ _ (@aD _ _ (5) _ _ _ _ (bY).nd rfl (Or.inl rfl) (@aq _ _ _ _ _ _ _ _ bT (pv 5) (@au _ _ _ _ (@aa _ _ _ _ _ (@aq _ _ _ _ _ _ _ _ gF (@aq _ _ _ _ _ _ _ _ bX (@aq _ _ _ _ _ _ _ _ bX (@aq _ _ _ _ _ _ _ _ eQ af af) af) (@al _ _ _ _ _ _ _ _ _ _ _ C__law_draw hr (by lia) rfl (@aa _ _ _ _ _ (pv 0) (@aa _ _ _ _ _ af ac (by rfl)) (by rfl)) (by decide) (by rfl) (by rfl))) (@aY _ _ _ _ _ _ _ bc (@au _ _ _ _ (@aa _ _ _ _ _ af (@aa _ _ _ _ _ (@ox _ _ _ _ _ _ jP af) ac (by rfl)) (by rfl))) (@al _ _ _ _ _ _ _ _ _ _ _ C__law_draw hr (by lia) rfl (@aa _ _ _ _ _ (pv 0) (@aa _ _ _ _ _ af ac (by rfl)) (by rfl)) (by decide) (by rfl) (by rfl)) (fun _ _=>rfl))) (@aa _ _ _ _ _ (@aq _ _ _ _ _ _ _ _ cy af (@al _ _ _ _ _ _ _ _ _ _ _ C__law_draw hr (by lia) rfl (@aa _ _ _ _ _ (pv 0) (@aa _ _ _ _ _ af ac (by rfl)) (by rfl)) (by decide) (by rfl) (by rfl))) ac (by rfl)) (by rfl)))) (by rfl) (by first|exact .inl rfl|exact .inr rfl|assumption)) (@ag _ _ _ _ _ (@aD _ _ (6) _ _ _ _ (bY).nd rfl (Or.inl rfl) (@aq _ _ _ _ _ _ _ _ cy (@aq _ _ _ _ _ _ _ _ gF (@al _ _ _ _ _ _ _ _ _ _ _ C__law_draw hr (by lia) rfl (@aa _ _ _ _ _ (pv 0) (@aa _ _ _ _ _ (@aq _ _ _ _ _ _ _ _ eQ af af) ac (by rfl)) (by rfl)) (by decide) (by rfl) (by rfl)) (@aq _ _ _ _ _ _ _ _ eQ af af)) (@al _ _ _ _ _ _ _ _ _ _ _ C__law_draw hr (by lia) rfl (@aa _ _ _ _ _ (pv 0) (@aa _ _ _ _ _ (@aq _ _ _ _ _ _ _ _ eQ af af) ac (by rfl)) (by rfl)) (by decide) (by rfl) (by rfl))) (by rfl) (by first|exact .inl rfl|exact .inr rfl|assumption)) (@ag _ _ _ _ _ (@aD _ _ (6) _ _ _ _ (bY).nd rfl (Or.inl rfl) (@aq _ _ _ _ _ _ _ _ gF (@aq _ _ _ _ _ _ _ _ gG (pv 6) (@aY _ _ _ _ _ _ _ bc (@au _ _ _ _ (@aa _ _ _ _ _ (@aq _ _ _ _ _ _ _ _ eQ af af) (@aa _ _ _ _ _ (@aq _ _ _ _ _ _ _ _ eQ af af) (@aa _ _ _ _ _ (@aq _ _ _ _ _ _ _ _ eQ af af) (@aa _ _ _ _ _ (@aq _ _ _ _ _ _ _ _ eQ af af) ac (by rfl)) (by rfl)) (by rfl)) (by rfl))) (@al _ _ _ _ _ _ _ _ _ _ _ C__law_draw hr (by lia) rfl (@aa _ _ _ _ _ (pv 0) (@aa _ _ _ _ _ af ac (by rfl)) (by rfl)) (by decide) (by rfl) (by rfl)) (fun _ _=>rfl))) (@aY _ _ _ _ _ _ _ bc (@au _ _ _ _ (@aa _ _ _ _ _ af (@aa _ _ _ _ _ (@ox _ _ _ _ _ _ jP af) ac (by rfl)) (by rfl))) (@al _ _ _ _ _ _ _ _ _ _ _ C__law_draw hr (by lia) rfl (@aa _ _ _ _ _ (pv 0) (@aa _ _ _ _ _ af ac (by rfl)) (by rfl)) (by decide) (by rfl) (by rfl)) (fun _ _=>rfl))) (by rfl) (by first|exact .inl rfl|exact .inr rfl|assumption)) (@ag _ _ _ _ _ (@aD _ _ (7) _ _ _ _ (bY).nd rfl (Or.inl rfl) (@al _ _ _ _ _ _ _ _ _ _ _ C__law_draw hr (by lia) rfl (@aa _ _ _ _ _ (pv 0) (@aa _ _ _ _ _ af ac (by rfl)) (by rfl)) (by decide) (by rfl) (by rfl)) (by rfl) (by first|exact .inl rfl|exact .inr rfl|assumption)) (@ai _ _ _ (@cT _ _ _ _ (@ju _ _ _ _ _ _ _ _ _ _ _ _ aa3 abi abj dZ (pv 3) (@aa _ _ _ _ _ (@aY _ _ _ _ _ _ _ bc (@aq _ _ _ _ _ _ _ _ bT (pv 5) (@au _ _ _ _ (@aa _ _ _ _ _ (@aY _ _ _ _ _ _ _ bc (@aq _ _ _ _ _ _ _ _ bT (pv 3) (pv 5)) af (fun _ _=>rfl)) (@aa _ _ _ _ _ (pv 6) ac (by rfl)) (by rfl)))) (@aY _ _ _ _ _ _ _ bc (@au _ _ _ _ (@aa _ _ _ _ _ (pv 2) (@aa _ _ _ _ _ (pv 7) ac (by rfl)) (by rfl))) (@fB _ _ _ _ _ _ _ _ _ my rfl B.iint aci (@aa _ _ _ _ _ (@jL _ _ _ _ _ _ _ _ eU (pv 2) af (aX _)) ac (by rfl)) (by decide) (by decide) (by rfl) (by rfl)) (fun _ _=>rfl)) (fun _ _=>rfl)) ac (by rfl)) (by rfl) (by rfl) (by rfl) (by rfl) (by rfl)) (by rfl)))))))) (by intro _;rfl)) (@ai _ _ _ (@az _ _ _ _ (pv 3)))))),?_⟩;have t1:(1:Nat)≤sizeLine:=by decide
  have t2:(2:Nat)≤sizeLine:=by decide
  have t4:(4:Nat)≤sizeLine:=by decide
  refine ⟨_,rfl,wl,9,_,rfl,by decide,by decide,hw,by lia,fun kd H1 kd0 kd1 g1 w1=>?_⟩;refine ⟨(by show 0≤sizeLine;decide),fun pf nf=>?_⟩;have nfw:=w1.ne nf;have hfree:H pf=none:=But.free g1 w1 nf;refine ⟨_,rfl,n,rfl,by lia,by lia,jp (n:=n.toNat) (fun j σ H'=>∃ (ns:List Int) (c4 c5 c6 c7:Option V),σ=[some (.ref wl),some (.int n),some (.int kd),some (.ref pf),c4,c5,c6,c7]∧H' pf=some (.lst (ns.map V.int))∧ns.length=j∧Small ns∧But wl H1 H'∧Wel H' wl (M+1+15 * j)) ⟨[],_,_,_,_,rfl,ae,rfl,(fun _ z=>nomatch z),But.new nf _,(w1.keep (Same.new nf _) (aaC _)).more (by lia)⟩ ?_ ?_⟩
  · rintro j σ K0 hj ⟨ns,c4,c5,c6,c7,rfl,ef,hl,hs,bb,u0⟩;refine ⟨_,rfl,wl,10,_,rfl,by decide,by decide,u0,by lia,fun r1 K1 r1a r1b b0 u1=>?_⟩;refine ⟨_,rfl,wl,3,_,rfl,by decide,by decide,u1,by lia,fun r2 K2 r2a r2b b1 u2=>⟨_,_,rfl,rfl,?_⟩⟩;refine ⟨_,rfl,wl,13,_,rfl,by decide,by decide,u2,by lia,fun r3 K3 r3a r3b b2 u3=>⟨_,_,rfl,rfl,?_⟩⟩;refine ⟨_,rfl,wl,1999,_,rfl,by decide,by decide,u3,by lia,fun r4 K4 r4a r4b b3 u4=>⟨_,_,rfl,rfl,?_⟩⟩;refine ⟨t4,fun q1 m1=>?_⟩;have y4:=Same.new m1 (.lst [V.int r1,.int (r2 - 1),.int (r3 - 6),.int (r4 - 999)]);have nq_q1:=u4.ne m1;have u5:=u4.keep y4 (aaC _);have e_q1:=ae (H:=K4) (a:=q1) (o:=.lst [V.int r1,.int (r2 - 1),.int (r3 - 6),.int (r4 - 999)]);revert y4 u5 e_q1;generalize upd K4 q1 (.lst [V.int r1,.int (r2 - 1),.int (r3 - 6),.int (r4 - 999)])=K5;intro y4 u5 e_q1;have b4:But wl K4 K5:=But.of y4;refine ⟨_,rfl,10,12,rfl,rfl,⟨by decide,by decide,by decide⟩,_,_,rfl,rfl,?_⟩;refine ⟨_,rfl,wl,99,_,rfl,by decide,by decide,u5,by lia,fun r5 K6 r5a r5b b5 u6=>⟨_,_,rfl,rfl,?_⟩⟩;refine ⟨_,rfl,t2,fun q2 m2=>?_⟩;have y6:=Same.new m2 (.lst [V.int 1,.int (-1)]);have nq_q2:=u6.ne m2;have u7:=u6.keep y6 (aaC _);have e_q2:=ae (H:=K6) (a:=q2) (o:=.lst [V.int 1,.int (-1)]);revert y6 u7 e_q2;generalize upd K6 q2 (.lst [V.int 1,.int (-1)])=K7;intro y6 u7 e_q2;have b6:But wl K6 K7:=But.of y6;refine ⟨_,rfl,wl,2,_,rfl,by decide,by decide,u7,by lia,fun r6 K8 r6a r6b b7 u8=>?_⟩;obtain ⟨s1,hs1,vs1⟩:=pm r6a r6b;have p12:(10:Int) ^ (12:Int).toNat=1000000000000:=by decide
    rw [p12];refine ⟨q2,_,_,_,rfl,rfl,SqL.of (b7 _ _ nq_q2 e_q2),hs1,_,_,rfl,rfl,.inr ⟨by lia,by lia⟩,?_⟩;refine ⟨_,rfl,wl,9,_,rfl,by decide,by decide,u8,by lia,fun r7 K9 r7a r7b b8 u9=>⟨_,_,rfl,rfl,?_⟩⟩;refine ⟨t2,fun q3 m3=>?_⟩;have y9:=Same.new m3 (.lst [V.int ((1000000000000 - 1 - r5) * s1),.int (1+r7)]);have nq_q3:=u9.ne m3;have u10:=u9.keep y9 (aaC _);have e_q3:=ae (H:=K9) (a:=q3) (o:=.lst [V.int ((1000000000000 - 1 - r5) * s1),.int (1+r7)]);revert y9 u10 e_q3;generalize upd K9 q3 (.lst [V.int ((1000000000000 - 1 - r5) * s1),.int (1+r7)])=K10;intro y9 u10 e_q3;have b9:But wl K9 K10:=But.of y9;refine ⟨q1,q3,_,_,rfl,rfl,((b5.trans (b6.trans (b7.trans (b8.trans b9)))) _ _ nq_q1 e_q1),e_q3,bj (by show 4+2≤1000;decide),fun q4 m4=>?_⟩;have y10:=Same.new m4 (.lst ([V.int r1,.int (r2 - 1),.int (r3 - 6),.int (r4 - 999)]++[V.int ((1000000000000 - 1 - r5) * s1),.int (1+r7)]));have nq_q4:=u10.ne m4;have u11:=u10.keep y10 (aaC _);have e_q4:=ae (H:=K10) (a:=q4) (o:=.lst ([V.int r1,.int (r2 - 1),.int (r3 - 6),.int (r4 - 999)]++[V.int ((1000000000000 - 1 - r5) * s1),.int (1+r7)]));revert y10 u11 e_q4;generalize upd K10 q4 (.lst ([V.int r1,.int (r2 - 1),.int (r3 - 6),.int (r4 - 999)]++[V.int ((1000000000000 - 1 - r5) * s1),.int (1+r7)]))=K11;intro y10 u11 e_q4;have b10:But wl K10 K11:=But.of y10;have p6:(10:Int) ^ (6:Int).toNat=1000000:=by decide
    refine ⟨_,rfl,10,6,rfl,rfl,⟨by decide,by decide,by decide⟩,wl,_,_,rfl,(by decide),(by decide),u11,by lia,fun r8 K12 r8a r8b b11 u12=>⟨10,6,rfl,rfl,⟨by decide,by decide,by decide⟩,_,_,rfl,rfl,.inr ⟨by decide,by decide⟩,?_⟩⟩;refine ⟨_,rfl,10,6,rfl,rfl,⟨by decide,by decide,by decide⟩,wl,_,_,rfl,(by decide),(by decide),u12,by lia,fun r9 K13 r9a r9b b12 u13=>⟨_,_,rfl,rfl,?_⟩⟩;refine ⟨_,rfl,10,4,rfl,rfl,⟨by decide,by decide,by decide⟩,10,6,rfl,rfl,⟨by decide,by decide,by decide⟩,10,9,rfl,rfl,⟨by decide,by decide,by decide⟩,10,12,rfl,rfl,⟨by decide,by decide,by decide⟩,t4,fun q5 m5=>?_⟩;have y13:=Same.new m5 (.lst [V.int (10 ^ (4:Int).toNat),.int (10 ^ (6:Int).toNat),.int (10 ^ (9:Int).toNat),.int (10 ^ (12:Int).toNat)]);have nq_q5:=u13.ne m5;have u14:=u13.keep y13 (aaC _);have e_q5:=ae (H:=K13) (a:=q5) (o:=.lst [V.int (10 ^ (4:Int).toNat),.int (10 ^ (6:Int).toNat),.int (10 ^ (9:Int).toNat),.int (10 ^ (12:Int).toNat)]);revert y13 u14 e_q5;generalize upd K13 q5 (.lst [V.int (10 ^ (4:Int).toNat),.int (10 ^ (6:Int).toNat),.int (10 ^ (9:Int).toNat),.int (10 ^ (12:Int).toNat)])=K14;intro y13 u14 e_q5;have b13:But wl K13 K14:=But.of y13;refine ⟨_,rfl,wl,4,_,rfl,by decide,by decide,u14,by lia,fun r10 K15 r10a r10b b14 u15=>?_⟩;obtain ⟨md,hmd,md0,md1⟩:=p4 r10a r10b;refine ⟨q5,_,_,_,rfl,rfl,SqL.of (b14 _ _ nq_q5 e_q5),hmd,_,_,rfl,rfl,md0,_,rfl,t2,fun q6 m6=>?_⟩;have y15:=Same.new m6 (.lst [V.int 1,.int (-1)]);have nq_q6:=u15.ne m6;have u16:=u15.keep y15 (aaC _);have e_q6:=ae (H:=K15) (a:=q6) (o:=.lst [V.int 1,.int (-1)]);revert y15 u16 e_q6;generalize upd K15 q6 (.lst [V.int 1,.int (-1)])=K16;intro y15 u16 e_q6;have b15:But wl K15 K16:=But.of y15;refine ⟨_,rfl,wl,2,_,rfl,by decide,by decide,u16,by lia,fun r11 K17 r11a r11b b16 u17=>?_⟩;obtain ⟨s2,hs2,vs2⟩:=pm r11a r11b;have hwd:=oR (r8 * 10 ^ (6:Int).toNat+r9) md md0;refine ⟨q6,_,_,_,rfl,rfl,SqL.of (b16 _ _ nq_q6 e_q6),hs2,_,_,rfl,rfl,.inr ⟨by lia,by lia⟩,?_⟩;refine ⟨_,rfl,wl,8,_,rfl,by decide,by decide,u17,by lia,fun r12 K18 r12a r12b b17 u18=>?_⟩;refine ⟨_,rfl,.inl ⟨rfl,_,SqL.of ((b0.trans (b1.trans (b2.trans (b3.trans (b4.trans (b5.trans (b6.trans (b7.trans (b8.trans (b9.trans (b10.trans (b11.trans (b12.trans (b13.trans (b14.trans (b15.trans (b16.trans b17))))))))))))))))) _ _ nfw ef)⟩,_,rfl,_,rfl,_,rfl,?_⟩;refine ⟨pf,q4,_,_,rfl,rfl,((b0.trans (b1.trans (b2.trans (b3.trans (b4.trans (b5.trans (b6.trans (b7.trans (b8.trans (b9.trans (b10.trans (b11.trans (b12.trans (b13.trans (b14.trans (b15.trans (b16.trans b17))))))))))))))))) _ _ nfw ef),((b11.trans (b12.trans (b13.trans (b14.trans (b15.trans (b16.trans b17)))))) _ _ nq_q4 e_q4),bj (by rw [aak];show _+6≤1000;lia),fun q7 m7=>?_⟩;have eall:ns.map V.int++([V.int r1,.int (r2 - 1),.int (r3 - 6),.int (r4 - 999)]++[V.int ((1000000000000 - 1 - r5) * s1),.int (1+r7)])=(ns++[r1,r2 - 1,r3 - 6,r4 - 999,(1000000000000 - 1 - r5) * s1,1+r7]).map V.int:=by rw [aaK];rfl
    rw [eall];have y18:=Same.new m7 (.lst ((ns++[r1,r2 - 1,r3 - 6,r4 - 999,(1000000000000 - 1 - r5) * s1,1+r7]).map V.int));have nq_q7:=u18.ne m7;have u19:=u18.keep y18 (aaC _);have e_q7:=ae (H:=K18) (a:=q7) (o:=.lst ((ns++[r1,r2 - 1,r3 - 6,r4 - 999,(1000000000000 - 1 - r5) * s1,1+r7]).map V.int));revert y18 u19 e_q7;generalize upd K18 q7 (.lst ((ns++[r1,r2 - 1,r3 - 6,r4 - 999,(1000000000000 - 1 - r5) * s1,1+r7]).map V.int))=K19;intro y18 u19 e_q7;have b18:But wl K18 K19:=But.of y18;obtain ⟨x0,hx0,mx0⟩:=ow (xs:=(ns++[r1,r2 - 1,r3 - 6,r4 - 999,(1000000000000 - 1 - r5) * s1,1+r7])) (r:=0) (by decide) (by rw [aal];simp only [aaF,aa7];lia);refine ⟨q7,_,_,_,rfl,rfl,SqL.of e_q7,hx0,_,rfl,t2,fun q8 m8=>?_⟩;have y19:=Same.new m8 (.lst [V.int x0,.int ((r8 * 10 ^ (6:Int).toNat+r9) % md * s2)]);have nq_q8:=u19.ne m8;have u20:=u19.keep y19 (aaC _);have e_q8:=ae (H:=K19) (a:=q8) (o:=.lst [V.int x0,.int ((r8 * 10 ^ (6:Int).toNat+r9) % md * s2)]);revert y19 u20 e_q8;generalize upd K19 q8 (.lst [V.int x0,.int ((r8 * 10 ^ (6:Int).toNat+r9) % md * s2)])=K20;intro y19 u20 e_q8;have b19:But wl K19 K20:=But.of y19;refine ⟨q4,q8,_,_,rfl,rfl,((b11.trans (b12.trans (b13.trans (b14.trans (b15.trans (b16.trans (b17.trans (b18.trans b19)))))))) _ _ nq_q4 e_q4),e_q8,bj (by show 6+2≤1000;decide),fun q9 m9=>?_⟩;have e8:[V.int r1,.int (r2 - 1),.int (r3 - 6),.int (r4 - 999)]++[V.int ((1000000000000 - 1 - r5) * s1),.int (1+r7)]++[V.int x0,.int ((r8 * 10 ^ (6:Int).toNat+r9) % md * s2)]=([r1,r2 - 1,r3 - 6,r4 - 999,(1000000000000 - 1 - r5) * s1,1+r7,x0,(r8 * 10 ^ (6:Int).toNat+r9) % md * s2]:List Int).map V.int:=rfl;rw [e8];have y20:=Same.new m9 (.lst (([r1,r2 - 1,r3 - 6,r4 - 999,(1000000000000 - 1 - r5) * s1,1+r7,x0,(r8 * 10 ^ (6:Int).toNat+r9) % md * s2]:List Int).map V.int));have nq_q9:=u20.ne m9;have u21:=u20.keep y20 (aaC _);have e_q9:=ae (H:=K20) (a:=q9) (o:=.lst (([r1,r2 - 1,r3 - 6,r4 - 999,(1000000000000 - 1 - r5) * s1,1+r7,x0,(r8 * 10 ^ (6:Int).toNat+r9) % md * s2]:List Int).map V.int));revert y20 u21 e_q9;generalize upd K20 q9 (.lst (([r1,r2 - 1,r3 - 6,r4 - 999,(1000000000000 - 1 - r5) * s1,1+r7,x0,(r8 * 10 ^ (6:Int).toNat+r9) % md * s2]:List Int).map V.int))=K21;intro y20 u21 e_q9;have b20:But wl K20 K21:=But.of y20;refine ⟨_,rfl,_,rfl,t2,fun qa ma=>?_⟩;have y21:=Same.new ma (.lst [V.int kd,.int r12]);have nq_qa:=u21.ne ma;have u22:=u21.keep y21 (aaC _);have e_qa:=ae (H:=K21) (a:=qa) (o:=.lst [V.int kd,.int r12]);revert y21 u22 e_qa;generalize upd K21 qa (.lst [V.int kd,.int r12])=K22;intro y21 u22 e_qa;have b21:But wl K21 K22:=But.of y21;have ix:∃ z:Int,atI [V.int kd,.int r12] (if decide (V.int kd=V.int 8)=true then 1 else 0)=some (.int z)∧0≤z∧z < 8:=by
      by_cases c:kd=8
      · exact ⟨r12,by rw [decide_eq_true (by rw [c])];rfl,r12a,r12b⟩
      · exact ⟨kd,by rw [decide_eq_false (fun e=>c (by injection e))];rfl,kd0,by lia⟩
    obtain ⟨zi,hzi,zi0,zi1⟩:=ix;obtain ⟨el,hel,mel⟩:=ow (xs:=[r1,r2 - 1,r3 - 6,r4 - 999,(1000000000000 - 1 - r5) * s1,1+r7,x0,(r8 * 10 ^ (6:Int).toNat+r9) % md * s2]) zi0 zi1;refine ⟨_,rfl,rfl,.inr ⟨_,rfl,qa,_,_,_,rfl,rfl,SqL.of e_qa,hzi,q9,_,_,_,rfl,rfl,SqL.of (b21 _ _ nq_q9 e_q9),hel,pf,_,_,rfl,rfl,((b0.trans (b1.trans (b2.trans (b3.trans (b4.trans (b5.trans (b6.trans (b7.trans (b8.trans (b9.trans (b10.trans (b11.trans (b12.trans (b13.trans (b14.trans (b15.trans (b16.trans (b17.trans (b18.trans (b19.trans (b20.trans b21))))))))))))))))))))) _ _ nfw ef),aU (by rw [aak];lia),?_⟩⟩;have sm5:-1000000000000 < (1000000000000 - 1 - r5) * s1∧(1000000000000 - 1 - r5) * s1 < 1000000000000:=by rcases vs1 with rfl|rfl <;> lia
    have smw:-1000000000000 < (r8 * 10 ^ (6:Int).toNat+r9) % md * s2∧(r8 * 10 ^ (6:Int).toNat+r9) % md * s2 < 1000000000000:=by rcases vs2 with rfl|rfl <;> lia
    have sm1:∀ x∈[r1,r2 - 1,r3 - 6,r4 - 999,(1000000000000 - 1 - r5) * s1,1+r7],-1000000000000 < x∧x < 1000000000000:=fun x hx=>by
      simp only [aao,aaM,or_false] at hx;rcases hx with rfl|rfl|rfl|rfl|rfl|rfl <;> first|exact sm5|lia
    have sx0:-1000000000000 < x0∧x0 < 1000000000000:=(aap.mp mx0).elim (hs x0) (sm1 x0);have sel:-1000000000000 < el∧el < 1000000000000:=by
      simp only [aao,aaM,or_false] at mel;rcases mel with rfl|rfl|rfl|rfl|rfl|rfl|rfl|rfl <;> first|exact sm5|exact sx0|exact smw|lia
    refine ⟨ns++[el],_,_,_,_,rfl,by rw [ae,aaK];rfl,by rw [aal,hl];rfl,fun x hx=>(aap.mp hx).elim (hs x) fun z=>by rw [aam.mp z];exact sel,?_,?_⟩
    · exact fun c o nc hc=>by
        by_cases z:c=pf
        · subst z;rw [nf] at hc;cases hc
        · rw [aw z];exact (bb.trans (b0.trans (b1.trans (b2.trans (b3.trans (b4.trans (b5.trans (b6.trans (b7.trans (b8.trans (b9.trans (b10.trans (b11.trans (b12.trans (b13.trans (b14.trans (b15.trans (b16.trans (b17.trans (b18.trans (b19.trans (b20.trans b21)))))))))))))))))))))) c o nc hc
    · obtain ⟨wa,wb,we,wf,wg⟩:=u22;exact ⟨wa,wb,by rw [aw (abC nfw)];exact we,wf,wg⟩
  · rintro σ K1 ⟨ns,c4,c5,c6,c7,rfl,ef,hl,hs,bb,u0⟩;exact ⟨_,rfl,q pf ns K1 (g1.trans bb) (u0.more (by lia)) hfree ef (by lia) hs⟩
def iY:List V:=[.str "+",.str "-",.str "*",.str "+-",.str "+*",.str "-*",.str "+-*"]
def dm (gs:List Sg):Prop:=inV (.str (aC gs)) iY=true
def ia:Sp:=fun vs H Q _=>∃ w M,vs=[.ref w]∧Wel H w M∧M < 999990000∧∀ gs H',1≤gs.length→gs.length≤3→dm gs→But w H H'→Wel H' w (M+1)→Q (.str (aC gs)) H'
theorem yY {k:Int} (h0:0≤k) (h1:k < 8):∃ gs:List Sg,atI [V.str "+",.str "-",.str "*",.str "+-",.str "+*",.str "-*",.str "+-*",.str "+-*"] k=some (.str (aC gs))∧1≤gs.length∧gs.length≤3∧dm gs:=by
  have : k=0∨k=1∨k=2∨k=3∨k=4∨k=5∨k=6∨k=7:=by lia
  rcases this with rfl|rfl|rfl|rfl|rfl|rfl|rfl|rfl
  · exact ⟨[.plus],by rfl,by decide,by decide,by unfold dm;decide +kernel⟩
  · exact ⟨[.minus],by rfl,by decide,by decide,by unfold dm;decide +kernel⟩
  · exact ⟨[.times],by rfl,by decide,by decide,by unfold dm;decide +kernel⟩
  · exact ⟨[.plus,.minus],by rfl,by decide,by decide,by unfold dm;decide +kernel⟩
  · exact ⟨[.plus,.times],by rfl,by decide,by decide,by unfold dm;decide +kernel⟩
  · exact ⟨[.minus,.times],by rfl,by decide,by decide,by unfold dm;decide +kernel⟩
  · exact ⟨[.plus,.minus,.times],by rfl,by decide,by decide,by unfold dm;decide +kernel⟩
  · exact ⟨[.plus,.minus,.times],by rfl,by decide,by decide,by unfold dm;decide +kernel⟩
abbrev fS:Stmt:=top 58
theorem lL:FnScope ["well"] ["well"] (aj fS):=⟨rfl,rfl,rfl,by decide +kernel,rfl,by decide +kernel,by decide +kernel⟩
theorem mZ (F:Fun K "_law_signs" "_law_signs" fS f fd) (C__law_draw:Cal P w K mg base "_law_draw" 2 ["well","many"] fI):FnOk P w K mg base CX0 3 f fd ["well"] ia:=by
  refine F.ok lL (fun vs H Q E h=>?_) (fun cdv A outer s H vs Q E hr h=>?_)
  · obtain ⟨x,M,rfl,_⟩:=h;rfl
  obtain ⟨wl,M,rfl,hw,hM,q⟩:=h;refine ⟨_,(@ai _ _ _ (@az _ _ _ _ (@aY _ _ _ _ _ _ _ bc (@au _ _ _ _ (@aa _ _ _ _ _ aG (@aa _ _ _ _ _ aG (@aa _ _ _ _ _ aG (@aa _ _ _ _ _ aG (@aa _ _ _ _ _ aG (@aa _ _ _ _ _ aG (@aa _ _ _ _ _ aG (@aa _ _ _ _ _ aG ac (by rfl)) (by rfl)) (by rfl)) (by rfl)) (by rfl)) (by rfl)) (by rfl)) (by rfl))) (@al _ _ _ _ _ _ _ _ _ _ _ C__law_draw hr (by lia) rfl (@aa _ _ _ _ _ (pv 0) (@aa _ _ _ _ _ af ac (by rfl)) (by rfl)) (by decide) (by rfl) (by rfl)) (fun _ _=>rfl)))),?_⟩;refine ⟨(by show 8≤sizeLine;decide),fun p1 n1=>?_⟩;have w1:=hw.keep (Same.new n1 (.lst [.str "+",.str "-",.str "*",.str "+-",.str "+*",.str "-*",.str "+-*",.str "+-*"])) (aaC _);refine ⟨_,rfl,wl,8,_,rfl,by decide,by decide,w1,by lia,fun r1 H1 a1 b1 g1 w2=>?_⟩;obtain ⟨gs,hg,l1,l2,l3⟩:=yY a1 b1;exact ⟨p1,_,_,_,rfl,rfl,SqL.of (g1 _ _ (hw.ne n1) ae),hg,q gs H1 l1 l2 l3 ((But.new n1 _).trans g1) w2⟩
end
open PySem L2
theorem yw {A G:Prop} (h:A) (k:A→G):G:=k h
structure Ch (K:aaa) (mg:Str→Option Value) (t1 t2:Tok) (aP:Addr):Prop where
  gMOST_NUMBERS:mg "MOST_NUMBERS" = some (.int 9 t1)
  gMOST_STRETCHES:mg "MOST_STRETCHES" = some (.int 40 t2)
  gSIGNS_TO_PUT:mg "SIGNS_TO_PUT" = some (.ref aP)
  sSIGNS_TO_PUT:∀ H,SqT K H aP iY
theorem PairsIn.mono {H H':Hp} (t:Tups H H') {ps:List (Int × Int)} {vs:List V} (p:PairsIn H ps vs):PairsIn H' ps vs:=by
  induction p with
  | nil=>exact .nil
  | cons z _ ih=>obtain ⟨a,e,h⟩:=z;exact .cons ⟨a,e,t _ _ h⟩ ih
theorem PairsIn.app {H:Hp} {ps qs:List (Int × Int)} {vs us:List V} (a:PairsIn H ps vs) (b:PairsIn H qs us):PairsIn H (ps++qs) (vs++us):=by
  induction a with
  | nil=>exact b
  | cons x _ ih=>exact .cons x ih
theorem PairsIn.snoc {H:Hp} {ps:List (Int × Int)} {vs:List V} {p:Int × Int} {v:V} (h:PairsIn H ps vs) (x:PairIn H p v):PairsIn H (ps++[p]) (vs++[v]):=PairsIn.app h (.cons x .nil)
def sfR (n m:Nat):List (Int × Int):=(aaQ (n - m)).map fun (f:Nat)=>((f:Int),((f+m:Nat):Int))
def sfl (n i:Nat):List (Int × Int):=(aaQ i).flatMap fun m=>sfR n m
theorem nZ (n i:Nat):sfl n (i+1)=sfl n i++sfR n i:=by
  unfold sfl;rw [List.range_succ,List.flatMap_append];simp
theorem jJ (n i:Nat):(sfl n i).length≤i * n:=by
  induction i with
  | zero=>simp [sfl]
  | succ i ih =>
    rw [nZ,aal];have : (sfR n i).length≤n:=by simp [sfR]
    rw [Nat.succ_mul];lia
theorem mS (n:Nat) (a b:Nat) (h1:a≤b) (h2:b < n):((a:Int),(b:Int))∈sfl n n:=by
  unfold sfl sfR;rw [ack];refine ⟨b - a,aaV.mpr (by lia),?_⟩;rw [List.mem_map];refine ⟨a,aaV.mpr (by lia),?_⟩;have : a+(b - a)=b:=by lia
  rw [this]
def bH:PyData→Bool
  | .int _=>true
  | _=>false
def bt:PyData→Bool
  | .list ds=>decide (1≤ds.length) && decide (ds.length≤9) && ds.all bH
  | _=>false
def cE:PyData→Bool
  | .str z=>inV (.str z) iY
  | _=>false
theorem qB {H:Hp}:∀ {ds:List PyData} {vs:List V},DatAll H ds vs→∀ {i:Nat} {x:V},vs[i]?=some x→∃ d,ds[i]?=some d∧Dat H d x
  | [],vs,h,i,x,e=>by simp only [DatAll] at h;subst h;simp at e
  | d :: ds,vs,h,i,x,e=>by
    simp only [DatAll] at h;obtain ⟨v,r,rfl,h1,h2⟩:=h;cases i with
    | zero=>simp at e;subst e;exact ⟨d,rfl,h1⟩
    | succ i=>exact qB h2 (by simpa using e)
theorem kO (d:PyData):decide (pE d = "int")=bH d:=by cases d <;> rfl
section
variable {P:Program} {w:World} {K:aaa} {mg:Str→Option Value} {base:Heap} {f:Addr} {fd:FuncData}
def rO:Sp:=fun vs H Q _=>∃ n:Nat,vs=[.int n]∧n≤9∧∀ p us H',Same H H'→H p=none→H' p=some (.lst us)→PairsIn H' (sfl n n) us→Q (.ref p) H'
abbrev dH:Stmt:=top 22
theorem iZ:FnScope ["many"] ["many"] (aj dH):=⟨rfl,rfl,rfl,by decide +kernel,rfl,by decide +kernel,by decide +kernel⟩
theorem jf (F:Fun K "shorter_first" "shorter_first" dH f fd) (B:Bu K mg):FnOk P w K mg base CX0 1 f fd ["many"] rO:=by
  refine F.ok iZ (fun vs H Q E h=>?_) (fun cdv A outer s H vs Q E hr h=>?_)
  · obtain ⟨l,rfl,_⟩:=h;rfl
  obtain ⟨n,rfl,h9,q⟩:=h;refine ⟨_,(@ai _ _ _ (@az _ _ _ _ (@xa _ _ _ _ _ _ _ _ _ _ _ (["more","first","many"]) ([none,none,some 0]) _ _ _ _ _ _ _ rfl (@cU _ _ _ _ _ _ rfl B.irange (@aa _ _ _ _ _ (pv 0) ac (by rfl)) (by rfl)) rfl ⟨rfl,trivial⟩ ⟨⟨rfl,Or.inl rfl,Or.inl rfl⟩,trivial⟩ (fun _ _ _ _=>⟨(@ao _ _ (0) _ (show aaP (["more","first","many"]:List Str) by decide +kernel) rfl (Or.inl rfl) (.inr rfl)),bZ,(@cU _ _ _ _ _ _ rfl B.irange (@aa _ _ _ _ _ (@aq _ _ _ _ _ _ _ _ bX (pv 2) (pv 0)) ac (by rfl)) (by rfl)),(@ao _ _ (1) _ (show aaP (["more","first","many"]:List Str) by decide +kernel) rfl (Or.inl rfl) (.inr rfl)),bZ,(@aB _ _ _ _ _ (@aa _ _ _ _ _ (pv 1) (@aa _ _ _ _ _ (@aq _ _ _ _ _ _ _ _ cy (pv 1) (pv 0)) ac (by rfl)) (by rfl)))⟩) (by rfl) (by rfl) (by rfl) (by rfl) (by intro _;rfl) (by intro _ _;rfl)))),?_⟩;refine ⟨_,rfl,n,rfl,by lia,by lia,?_⟩;refine xl (Trn.range (lo:=0) (n:=(n:Int).toNat)) (fun i ys H'=>Same H H'∧PairsIn H' (sfl n i) ys) ⟨Same.refl _,.nil⟩ (fun i ys H' hi p=>trivial) (fun i x ys H1 H' hi hx p Nx nx=>?_) (fun ys H' p p5 n5=>?_)
  · obtain ⟨rfl,rfl⟩:=hx;obtain ⟨S,hp⟩:=p;have hl:=hp.length;have hb:=jJ n i;have hn:(n:Int).toNat=n:=by lia
    have hin:i < n:=by lia
    have hb2:i * n≤9 * 9:=abB (by lia) h9;have en:((n:Int) - (0+(i:Int))).toNat=n - i:=by lia
    refine ⟨_,rfl,_,rfl,_,_,rfl,rfl,(n:Int) - (0+(i:Int)),rfl,by lia,by lia,?_⟩;refine xi (Trn.range (lo:=0) (n:=((n:Int) - (0+(i:Int))).toNat)) (fun j zs σ H2=>Same H H2∧(∃ c,σ=[some (.int (0+(i:Int))),c,some (.int n)])∧PairsIn H2 (sfl n i++(sfR n i).take j) zs) ⟨S,⟨_,rfl⟩,by simpa using hp⟩ (fun j zs σ H2 hj p=>⟨trivial,aU (by have:=p.2.2.length;rw [← this,aal,aaz];lia)⟩) (fun j x zs σ H2 H3 hj hx p Ny ny=>?_) (fun zs σ H2 p=>?_)
    · obtain ⟨rfl,rfl⟩:=hx;obtain ⟨S2,⟨c,rfl⟩,hp2⟩:=p;refine ⟨_,rfl,_,rfl,_,rfl,_,_,rfl,rfl,(by show 2≤sizeLine;decide),fun t ht=>ny _ _ _ ⟨S2.trans (Same.new ht _),⟨_,rfl⟩,?_⟩⟩;have s3:=Same.new ht (.tup [.int (0+(j:Int)),.int (0+(j:Int)+(0+(i:Int)))]);have e:(sfR n i).take (j+1)=(sfR n i).take j++[(((j:Nat):Int),((j+i:Nat):Int))]:=by
        rw [aaR];have : (sfR n i)[j]?=some (((j:Nat):Int),((j+i:Nat):Int)):=by
          unfold sfR;rw [aaX,List.getElem?_range (by lia)];rfl
        rw [this];rfl
      rw [e,← abE];refine PairsIn.snoc (PairsIn.mono (Tups.of s3) hp2) ⟨t,rfl,?_⟩;rw [ae];have e1:(0:Int)+(j:Int)=((j:Nat):Int):=by lia
      have e2:(0:Int)+(j:Int)+(0+(i:Int))=((j+i:Nat):Int):=by lia
      show some (HO.tup [V.int (0+(j:Int)),V.int (0+(j:Int)+(0+(i:Int)))])=some (HO.tup [V.int ((j:Nat):Int),V.int ((j+i:Nat):Int)]);rw [e2,e1]
    · obtain ⟨S2,⟨c,rfl⟩,hp2⟩:=p;refine nx _ _ ⟨S2,?_⟩;rw [en,abe (by simp [sfR]),← nZ] at hp2;exact hp2
  · obtain ⟨S,hp⟩:=p;have hn:(n:Int).toNat=n:=by lia
    rw [hn] at hp;have s5:=Same.new n5 (.lst ys);exact q p5 ys _ (S.trans s5) (S.free n5) ae (PairsIn.mono (Tups.of s5) hp)
def Gp (n:Int) (p:Int × Int):Prop:=0≤p.1∧p.1 < p.2∧p.2 < n
def StIn (H:Hp) (ps:List (Int × Int)) (v:V):Prop:=∃ a us,v=.ref a∧H a=some (.lst us)∧PairsIn H ps us
theorem StIn.mono {H H':Hp} {ps:List (Int × Int)} {v:V} (g:Same H H') (h:StIn H ps v):StIn H' ps v:=by
  obtain ⟨a,us,e,h1,h2⟩:=h;exact ⟨a,us,e,g _ _ h1,PairsIn.mono (Tups.of g) h2⟩
def HdIn (H:Hp) (ps qs:List (Int × Int)) (v:V):Prop:=∃ a x y,v=.ref a∧H a=some (.tup [x,y])∧StIn H ps x∧StIn H qs y
theorem HdIn.mono {H H':Hp} {ps qs:List (Int × Int)} {v:V} (g:Same H H') (h:HdIn H ps qs v):HdIn H' ps qs v:=by
  obtain ⟨a,x,y,e,h1,h2,h3⟩:=h;exact ⟨a,x,y,e,g _ _ h1,h2.mono g,h3.mono g⟩
def Gs (n:Int) (ps:List (Int × Int)):Prop:=ps.length≤40∧∀ p∈ps,Gp n p
def dy:PyData→Bool
  | .list _=>true
  | _=>false
theorem yc {d:PyData} (h:dy d=false):bt d=false:=by cases d <;> first|rfl|simp [dy] at h
theorem oZ {d:PyData} {K:aaa}:aaJ K (.type (pE d)) (.type "list")=some (dy d):=by cases d <;> rfl
def mK:Sp:=fun vs H Q _=>∃ d v,vs=[v]∧Dat H d v∧∀ H',Same H H'→Q (.bl (bt d)) H'
abbrev jZ:Stmt:=top 17
theorem rT:FnScope ["thing"] ["thing"] (aj jZ):=⟨rfl,rfl,rfl,by decide +kernel,rfl,by decide +kernel,by decide +kernel⟩
theorem r_ {tk t4:Tok} {aP:Addr} (F:Fun K "is_row" "is_row" jZ f fd) (B:Bu K mg) (B3:Ch K mg tk t4 aP) (C_is_whole:Cal P w K mg base "is_whole" 1 ["thing"] (iz K)):FnOk P w K mg base CX0 2 f fd ["thing"] mK:=by
  refine F.ok rT (fun vs H Q E h=>?_) (fun cdv A outer s H vs Q E hr h=>?_)
  · obtain ⟨x,v,rfl,_⟩:=h;rfl
  obtain ⟨d,v,rfl,hd,q⟩:=h;refine ⟨_,(@ag _ _ _ _ _ (@bV _ _ _ _ _ _ _ _ (@PW.pt _ _ _ (@g_ _ _ _ _ _ _ _ (@fW _ _ _ _ (@fV _ _ _ (@am _ _ _ _ _ _ _ _ _ (@cQ _ ("list")) rfl B.iisinstance aau (@aa _ _ _ _ _ (pv 0) (@aa _ _ _ _ _ (@eZ _ _ (.ty "list") _ _ rfl B.ilist PyProof.Rows.boot_list rfl (by decide) (by decide)) ac (by rfl)) (by rfl)) (by decide) (by decide) (by rfl) (by rfl)) (by intro _;rfl))) (@gE _ _ _ _ (@fW _ _ _ _ (@tJ _ _ _ _ _ _ _ _ _ _ _ _ kc kc af (@am _ _ _ _ _ _ _ _ _ aK rfl B.ilen aaL (@aa _ _ _ _ _ (pv 0) ac (by rfl)) (by decide) (by decide) (by rfl) (by rfl)) (@cx _ _ (.int 9) _ _ rfl B3.gMOST_NUMBERS ⟨_,rfl⟩ (by decide)) (by with_unfolding_all rfl)))))) (@ai _ _ _ (@az _ _ _ _ bS)) a6) (@ai _ _ _ (@az _ _ _ _ (@am _ _ _ _ _ _ _ _ _ (@lu _ rfl) rfl B.iall ach (@aa _ _ _ _ _ (@fA _ _ _ _ _ _ _ _ (["number"]) ([none]) _ _ _ _ rfl (@bu _ _ _ _ (pv 0)) rfl trivial trivial (fun _ _ _ _=>⟨(@ao _ _ (0) _ (show aaP (["number"]:List Str) by decide +kernel) rfl (Or.inl rfl) (.inr rfl)),bZ,(@al _ _ _ _ _ _ _ _ _ _ _ C_is_whole hr (by lia) rfl (@aa _ _ _ _ _ (pv 0) ac (by rfl)) (by decide) (by rfl) (by rfl))⟩) (by rfl) (by rfl) (by rfl) (by rfl) (by intro _;rfl)) ac (by rfl)) (by decide) (by decide) (by rfl) (by rfl))))),?_⟩;by_cases hl:dy d=true
  · cases d with
    | list ds =>
      have hd0:=hd;simp only [Dat] at hd;obtain ⟨a,xs,rfl,ea,hall⟩:=hd;have hlen:=hall.len;refine ⟨_,rfl,_,_,true,rfl,.lst ea,rfl,true,rfl,aV ?_⟩;by_cases c1:1≤xs.length
      · refine ⟨_,rfl,a,_,rfl,.inl (SqL.of ea),_,_,rfl,rfl,true,congrArg V.bl (decide_eq_true (by lia)),cD ?_⟩;by_cases c2:xs.length≤9
        · refine ⟨_,_,rfl,rfl,true,congrArg V.bl (decide_eq_true (by lia)),aV ?_⟩;refine ⟨_,rfl,a,rfl,⟨_,SqL.of ea⟩,?_⟩;refine vK (xs:=xs) (fun i ys H'=>H'=H∧ys=((ds.take i).map bH).map V.bl) ⟨rfl,rfl⟩ (fun i ys H' hi p=>⟨by rw [p.1];exact SqL.of ea,by rw [p.2,aak,aak,aaz];exact aU (by lia)⟩) (fun i x ys H' hx p nx=>?_) (fun ys H' p p5 n5=>?_)
          · obtain ⟨rfl,rfl⟩:=p;obtain ⟨dd,h1,h2⟩:=qB hall hx;refine ⟨_,rfl,x,_,rfl,h2.ty,nx ⟨rfl,?_⟩⟩;rw [kO,aaR,h1,aaK,aaK];rfl
          obtain ⟨rfl,rfl⟩:=p;rw [abe (by lia)];refine ⟨p5,_,rfl,SqL.of ae,?_⟩;have e:((ds.map bH).all id)=bt (.list ds):=by
            show _=(decide (1≤ds.length) && decide (ds.length≤9) && ds.all bH)
            rw [decide_eq_true (show 1≤ds.length by lia),decide_eq_true (show ds.length≤9 by lia),List.all_map];rfl
          rw [e];exact q _ (Same.new n5 _)
        · refine ⟨_,_,rfl,rfl,false,congrArg V.bl (decide_eq_false (by lia)),cD ?_⟩;have z:=q H (Same.refl _);rw [show bt (.list ds)=false by
            show (decide (1≤ds.length) && decide (ds.length≤9) && ds.all bH)=false;rw [decide_eq_false (show ¬ ds.length≤9 by lia)];simp] at z
          exact z
      · refine ⟨_,rfl,a,_,rfl,.inl (SqL.of ea),_,_,rfl,rfl,false,congrArg V.bl (decide_eq_false (by lia)),aV ⟨false,rfl,cD ?_⟩⟩;have z:=q H (Same.refl _);rw [show bt (.list ds)=false by
          show (decide (1≤ds.length) && decide (ds.length≤9) && ds.all bH)=false;rw [decide_eq_false (show ¬ 1≤ds.length by lia)];simp] at z
        exact z
    | _=>simp [dy] at hl
  · have hl':dy d=false:=by simpa using hl
    refine ⟨_,rfl,_,_,false,rfl,hd.ty,by rw [oZ,hl'],false,rfl,cD ?_⟩;have z:=q H (Same.refl _);rw [yc hl'] at z;exact z
def iU:Sp:=fun vs H Q _=>∃ d v,vs=[v]∧Dat H d v∧Q (.bl (cE d)) H
abbrev ik:Stmt:=top 18
theorem oj:FnScope ["thing"] ["thing"] (aj ik):=⟨rfl,rfl,rfl,by decide +kernel,rfl,by decide +kernel,by decide +kernel⟩
theorem oJ {tk t4:Tok} {aP:Addr} (F:Fun K "is_signs" "is_signs" ik f fd) (B:Bu K mg) (B3:Ch K mg tk t4 aP):FnOk P w K mg base CX0 1 f fd ["thing"] iU:=by
  refine F.ok oj (fun vs H Q E h=>?_) (fun cdv A outer s H vs Q E hr h=>?_)
  · obtain ⟨x,v,rfl,_⟩:=h;rfl
  obtain ⟨d,v,rfl,hd,q⟩:=h;refine ⟨_,(@ai _ _ _ (@az _ _ _ _ (@ip _ _ _ _ _ _ _ (@am _ _ _ _ _ _ _ _ _ (@cQ _ ("str")) rfl B.iisinstance aau (@aa _ _ _ _ _ (pv 0) (@aa _ _ _ _ _ (@eZ _ _ (.ty "str") _ _ rfl B.istr PyProof.Rows.boot_str rfl (by decide) (by decide)) ac (by rfl)) (by rfl)) (by decide) (by decide) (by rfl) (by rfl)) (@jb _ _ _ _ _ (@jL _ _ _ _ _ _ _ _ rY (pv 0) (@cx _ _ (.ref aP) _ _ rfl B3.gSIGNS_TO_PUT rfl (by decide)) (by with_unfolding_all rfl)))))),?_⟩;cases d with
  | str z =>
    have e:v=.str z:=by simpa only [Dat] using hd
    subst e;exact ⟨_,rfl,_,_,true,rfl,.str z,rfl,true,rfl,cD ⟨_,rfl,aP,_,rfl,.inr (B3.sSIGNS_TO_PUT H),rfl,rfl,q⟩⟩
  | none=>exact ⟨_,rfl,_,_,false,rfl,hd.ty,rfl,false,rfl,aV q⟩
  | bool b=>exact ⟨_,rfl,_,_,false,rfl,hd.ty,rfl,false,rfl,aV q⟩
  | int b=>exact ⟨_,rfl,_,_,false,rfl,hd.ty,rfl,false,rfl,aV q⟩
  | list b=>exact ⟨_,rfl,_,_,false,rfl,hd.ty,rfl,false,rfl,aV q⟩
  | tuple b=>exact ⟨_,rfl,_,_,false,rfl,hd.ty,rfl,false,rfl,aV q⟩
  | dict b=>exact ⟨_,rfl,_,_,false,rfl,hd.ty,rfl,false,rfl,aV q⟩
end
open PySem L2
def wl (s:Nat) (L:List Int) (n l:Nat):Int:=(s:Int) * L.getD l 0 * L.getD (n - l) 0
def cl (s:Nat):Nat→List Int
  | 0=>[0,1]
  | k+1=>cl s k++[((aaQ (k+1)).map fun j=>wl s (cl s k) (k+2) (1+j)).sum]
theorem nK (s:Nat):∀ k,(cl s k).length=k+2
  | 0=>rfl
  | k+1=>by
    show (cl s k++[_]).length=_;rw [aal,nK s k];rfl
def cn (s n:Nat):Int:=(cl s 8).getD n 0
theorem uW (s:Nat):∀ (k d n:Nat),n < k+2→(cl s (k+d)).getD n 0=(cl s k).getD n 0
  | k,0,n,h=>rfl
  | k,d+1,n,h=>by
    show (cl s (k+d)++[_]).getD n 0=_;rw [← uW s k d n h];have hl:=nK s (k+d);simp only [aay];rw [List.getElem?_append_left (by lia)]
theorem uX {s k n:Nat} (hk:k≤8) (h:n < k+2):(cl s k).getD n 0=cn s n:=by
  have:=uW s k (8 - k) n h;unfold cn;rw [show 8=k+(8 - k) by lia];exact this.symm
theorem iP:∀ s≤3,∀ n≤9,0≤cn s n∧cn s n < 1000000000:=by decide +kernel
theorem mx {s k n:Nat} (hk:k≤8) (h:n < k+2):atI ((cl s k).map V.int) (n:Int)=some (.int (cn s n)):=by
  have hl:=nK s k;have e:(cl s k)[n]?=some (cn s n):=by
    have:=uX (s:=s) hk h;rw [aay] at this;cases z:(cl s k)[n]? with
    | none=>rw [List.getElem?_eq_none_iff] at z;lia
    | some x=>rw [z] at this;exact congrArg some this
  refine iR ?_;rw [aaX,e];rfl
section
variable {P:Program} {w:World} {K:aaa} {mg:Str→Option Value} {base:Heap} {f:Addr} {fd:FuncData}
def qM:Sp:=fun vs H Q _=>∃ (z:Str) (pc:Addr) (xs:List V) (l r a b:Int),vs=[.str z,.ref pc,.int l,.int r]∧z.length≤3∧H pc=some (.lst xs)∧atI xs l=some (.int a)∧atI xs r=some (.int b)∧0≤b∧b < 1000000000∧Q (.int ((z.length:Int) * a * b)) H
abbrev fg:Stmt:=top 27
theorem jT:FnScope ["signs","counts","left","right"] ["signs","counts","left","right"] (aj fg):=⟨rfl,rfl,rfl,by decide +kernel,rfl,by decide +kernel,by decide +kernel⟩
theorem ke (F:Fun K "ways_by_cut" "ways_by_cut" fg f fd) (B:Bu K mg):FnOk P w K mg base CX0 1 f fd ["signs","counts","left","right"] qM:=by
  refine F.ok jT (fun vs H Q E h=>?_) (fun cdv A outer s H vs Q E hr h=>?_)
  · obtain ⟨z,pc,xs,l,r,a,b,rfl,_⟩:=h;rfl
  obtain ⟨z,pc,xs,l,r,a,b,rfl,hz,hc,ha,hb,b0,b1,q⟩:=h;refine ⟨_,(@ai _ _ _ (@az _ _ _ _ (@aq _ _ _ _ _ _ _ _ gF (@aq _ _ _ _ _ _ _ _ gF (@am _ _ _ _ _ _ _ _ _ iQ rfl B.ilen aaL (@aa _ _ _ _ _ (pv 0) ac (by rfl)) (by decide) (by decide) (by rfl) (by rfl)) (@aY _ _ _ _ _ _ _ bc (pv 1) (pv 2) (fun _ _=>rfl))) (@aY _ _ _ _ _ _ _ bc (pv 1) (pv 3) (fun _ _=>rfl))))),?_⟩;exact ⟨_,rfl,z,rfl,bj (by lia),_,rfl,_,rfl,pc,_,_,_,rfl,rfl,SqL.of hc,ha,_,_,rfl,rfl,.inl ⟨by lia,by lia⟩,_,rfl,_,rfl,pc,_,_,_,rfl,rfl,SqL.of hc,hb,_,_,rfl,rfl,.inr ⟨by lia,by lia⟩,q⟩
def qO:Sp:=fun vs H Q _=>∃ (z:Str) (m:Int),vs=[.str z,.int m]∧z.length≤3∧1≤m∧m≤9∧∀ p H',Same H H'→H p=none→H' p=some (.lst ((cl z.length (m - 1).toNat).map V.int))→Q (.ref p) H'
abbrev eD:Stmt:=top 26
theorem dc:FnScope ["signs","many","counts","length","by_left"] ["signs","many"] (aj eD):=⟨rfl,rfl,rfl,by decide +kernel,rfl,by decide +kernel,by decide +kernel⟩
theorem jF (F:Fun K "counts_up_to" "counts_up_to" eD f fd) (B:Bu K mg) (C_ways_by_cut:Cal P w K mg base "ways_by_cut" 1 ["signs","counts","left","right"] qM):FnOk P w K mg base CX0 2 f fd ["signs","many"] qO:=by
  refine F.ok dc (fun vs H Q E h=>?_) (fun cdv A outer s H vs Q E hr h=>?_)
  · obtain ⟨z,m,rfl,_⟩:=h;rfl
  obtain ⟨z,m,rfl,hz,h1,h9,q⟩:=h;refine ⟨_,(@ag _ _ _ _ _ (@aD _ _ (2) _ _ _ _ (dc).nd rfl (Or.inr rfl) (@au _ _ _ _ (@aa _ _ _ _ _ af (@aa _ _ _ _ _ af ac (by rfl)) (by rfl))) (by rfl) (by first|exact .inl rfl|exact .inr rfl|assumption)) (@ag _ _ _ _ _ (@dg _ _ _ _ _ _ _ _ aaS rfl (@ja _ _ _ _ _ _ _ rfl B.irange (@aa _ _ _ _ _ af (@aa _ _ _ _ _ (@aq _ _ _ _ _ _ _ _ cy (pv 1) af) ac (by rfl)) (by rfl)) (by rfl) (by rfl)) (@ao _ _ (3) _ (dc).nd rfl (Or.inr rfl) (.inl rfl)) (@ag _ _ _ _ _ (@qQ _ (4) _ _ _ _ _ _ _ _ _ _ (["left","signs","counts","length"]) ([none,some 0,some 2,some 3]) _ _ _ _ (dc).nd rfl (Or.inl rfl) rfl (@ja _ _ _ _ _ _ _ rfl B.irange (@aa _ _ _ _ _ af (@aa _ _ _ _ _ (pv 3) ac (by rfl)) (by rfl)) (by rfl) (by rfl)) rfl ⟨rfl,⟨rfl,⟨rfl,trivial⟩⟩⟩ ⟨⟨rfl,Or.inl rfl,Or.inl rfl⟩,⟨⟨rfl,Or.inl rfl,Or.inl rfl⟩,⟨⟨rfl,Or.inl rfl,Or.inl rfl⟩,trivial⟩⟩⟩ (fun _ _ _ _=>⟨(@ao _ _ (0) _ (show aaP (["left","signs","counts","length"]:List Str) by decide +kernel) rfl (Or.inl rfl) (.inr rfl)),bZ,(@al _ _ _ _ _ _ _ _ _ _ _ C_ways_by_cut hr (by lia) rfl (@aa _ _ _ _ _ (pv 1) (@aa _ _ _ _ _ (pv 2) (@aa _ _ _ _ _ (pv 0) (@aa _ _ _ _ _ (@aq _ _ _ _ _ _ _ _ bX (pv 3) (pv 0)) ac (by rfl)) (by rfl)) (by rfl)) (by rfl)) (by decide) (by rfl) (by rfl))⟩) (by rfl) (by rfl) (by rfl) (by rfl) (by intro _;rfl) (by rfl) (by first|exact .inl rfl|exact .inr rfl|assumption)) (@ai _ _ _ (@cT _ _ _ _ (@ju _ _ _ _ _ _ _ _ _ _ _ _ aa3 abi abj dZ (pv 2) (@aa _ _ _ _ _ (@am _ _ _ _ _ _ _ _ _ (@pA _ rfl) rfl B.isum PyProof.Rows.boot_sum (@aa _ _ _ _ _ (pv 4) ac (by rfl)) (by decide) (by decide) (by rfl) (by rfl)) ac (by rfl)) (by rfl) (by rfl) (by rfl) (by rfl) (by rfl)) (by rfl)))) (by intro _;rfl)) (@ai _ _ _ (@az _ _ _ _ (pv 2))))),?_⟩;refine ⟨(by show 2≤sizeLine;decide),fun p np=>?_⟩;refine ⟨_,rfl,_,_,rfl,rfl,2,m+1,rfl,⟨by decide,by decide,by lia,by lia⟩,jp (n:=(m+1 - 2).toNat) (fun i σ H'=>∃ len by',σ=[some (.str z),some (.int m),some (.ref p),len,by']∧H' p=some (.lst ((cl z.length i).map V.int))∧Same H H') ⟨_,_,rfl,ae,Same.new np _⟩ ?_ ?_⟩
  · rintro i σ H1 hi ⟨len,by',rfl,e1,S1⟩;have i8:i≤7:=by lia
    have hl:=nK z.length i;refine ⟨_,rfl,1,_,rfl,⟨by decide,by decide,by lia,by lia⟩,uv (n:=(2+(i:Int) - 1).toNat) (fun j ys H'=>ys=((aaQ j).map fun j=>wl z.length (cl z.length i) (i+2) (1+j)).map V.int∧H'=H1) ⟨rfl,rfl⟩ ?_ ?_ ?_⟩
    · rintro j ys H' hj ⟨rfl,rfl⟩;rw [aak,aak,List.length_range];exact aU (by lia)
    · rintro j ys H' hj ⟨rfl,rfl⟩ nx;have bd:=iP z.length hz;have e2:2+(i:Int) - (1+(j:Int))=((i+2 - (1+j):Nat):Int):=by lia
      have e3:(1+(j:Int))=((1+j:Nat):Int):=by lia
      refine ⟨_,rfl,_,rfl,_,rfl,_,rfl,_,rfl,_,_,rfl,rfl,z,p,_,_,_,cn z.length (1+j),cn z.length (i+2 - (1+j)),rfl,hz,e1,?_,?_,(bd _ (by lia)).1,(bd _ (by lia)).2,nx ⟨?_,rfl⟩⟩
      · rw [e3];exact mx (by lia) (by lia)
      · rw [e2];exact mx (by lia) (by lia)
      · rw [List.range_succ,aaK,aaK];show _=_++[V.int (wl z.length (cl z.length i) (i+2) (1+j))];unfold wl;rw [uX (by lia) (by lia),uX (by lia) (by lia)]
    · rintro ys H' ⟨rfl,rfl⟩ p2 n2;have g2:=Same.new n2 (.lst (((aaQ (2+(i:Int) - 1).toNat).map fun j=>wl z.length (cl z.length i) (i+2) (1+j)).map V.int));refine ⟨_,rfl,.inl ⟨rfl,_,SqL.of (g2 _ _ e1)⟩,_,rfl,p2,_,rfl,SqL.of ae,p,_,_,rfl,rfl,g2 _ _ e1,aU (by rw [aak];lia),_,_,rfl,?_,?_⟩
      · rw [ae,← List.map_singleton,← aaK];have e4:(2+(i:Int) - 1).toNat=i+1:=by lia
        rw [e4];rfl
      · exact (S1.trans g2).upd np
  · rintro σ H1 ⟨len,by',rfl,e1,S1⟩;have e4:(m+1 - 2).toNat=(m - 1).toNat:=by lia
    rw [e4] at e1;exact ⟨_,rfl,q p H1 S1 np e1⟩
end
open PySem L2
def ky (p:Int × Int):List Key:=[Sum.inl p.1,Sum.inl p.2]
theorem qr {p q:Int × Int} (h:ky p=ky q):p=q:=by
  obtain ⟨a,b⟩:=p;obtain ⟨c,d⟩:=q;simp [ky] at h;rw [h.1,h.2]
theorem PairIn.key {H:Hp} {p:Int × Int} {v:V} (h:PairIn H p v):∃ b,v=.ref b∧H b=some (.tup ((ky p).map kV)):=h
def CutIn (H:Hp) (p:Int × Int) (c:Int) (v:V):Prop:=∃ a x y,v=.ref a∧H a=some (.tup [x,y])∧PairIn H (p.1,c) x∧PairIn H (c+1,p.2) y
theorem PairIn.mono {H H':Hp} {p:Int × Int} {v:V} (t:Tups H H') (h:PairIn H p v):PairIn H' p v:=by
  obtain ⟨a,e,h⟩:=h;exact ⟨a,e,t _ _ h⟩
theorem CutIn.mono {H H':Hp} {p:Int × Int} {c:Int} {v:V} (t:Tups H H') (h:CutIn H p c v):CutIn H' p c v:=by
  obtain ⟨a,x,y,e,h1,h2,h3⟩:=h;exact ⟨a,x,y,e,t _ _ h1,PairIn.mono t h2,PairIn.mono t h3⟩
def bf (p:Int × Int):List Int:=(aaQ (p.2 - p.1).toNat).map fun (k:Nat)=>p.1+(k:Int)
theorem Paired.snoc {α β:Type} {F:α→β→Prop} {as:List α} {us:List β} {a:α} {u:β} (h:Paired F as us) (x:F a u):Paired F (as++[a]) (us++[u]):=by
  induction h with
  | nil=>exact .cons x .nil
  | cons y _ ih=>exact .cons y ih
theorem Paired.at {α β:Type} {F:α→β→Prop} {as:List α} {us:List β} (p:Paired F as us):∀ {j:Nat} {x:β},us[j]?=some x→∃ a,as[j]?=some a∧F a x:=by
  induction p with
  | nil=>intro j x h;cases h
  | cons a b ih =>
    intro j x h;cases j with
    | zero=>cases h;exact ⟨_,rfl,a⟩
    | succ j=>exact ih (j:=j) h
def Sg.op:Sg→Int→Int→Int
  | .plus,a,b=>a+b
  | .minus,a,b=>a - b
  | .times,a,b=>a * b
theorem pK (x y:Str):(x++y).cps.toList=x.cps.toList++y.cps.toList:=by
  obtain ⟨a⟩:=x;obtain ⟨b⟩:=y;show (a++b).toList=_;rw [Array.toList_append]
def Sg.code:Sg→Nat
  | .plus=>43
  | .minus=>45
  | .times=>42
theorem gv (g:Sg):g.str=⟨#[g.code]⟩:=by cases g <;> rfl
theorem dj:∀ gs:List Sg,(aC gs).cps.toList=gs.map Sg.code
  | []=>rfl
  | g :: r=>by
    show (g.str++aC r).cps.toList=g.code :: r.map Sg.code;rw [pK,dj r,gv];rfl
theorem p_ (gs:List Sg):(aC gs).cps.all (· < 128)=true:=by
  rw [← Array.all_toList,dj,aa4];intro c hc;obtain ⟨g,_,rfl⟩:=abr.mp hc;cases g <;> decide
theorem xW {gs:List Sg} {i c:Nat} (h:(aC gs).cps[i]?=some c):∃ g,gs[i]?=some g∧c=g.code:=by
  have h2:(aC gs).cps.toList[i]?=some c:=by simpa using h
  rw [dj,aaX] at h2;obtain ⟨g,hg,e⟩:=ab9.mp h2;exact ⟨g,hg,e.symm⟩
theorem jI (gs:List Sg):(aC gs).cps.size=gs.length:=by
  have:=congrArg List.length (dj gs);simpa using this
abbrev Jt:=Int × Sg × Int × Int
def Lw (s:Nat) (p:Int × Int) (c:Int):Int:=cn s (c - p.1+1).toNat
def Rw (s:Nat) (p:Int × Int) (c:Int):Int:=cn s (p.2 - c).toNat
def fD (c L R:Int):List Sg→Int→List Jt
  | [],_=>[]
  | g :: r,st=>(c,g,st,R) :: fD c L R r (st+L * R)
def gg (gs:List Sg) (p:Int × Int):List Int→Int→List Jt
  | [],_=>[]
  | c :: cs,st=>fD c (Lw gs.length p c) (Rw gs.length p c) gs st++gg gs p cs (st+(gs.length:Int) * (Lw gs.length p c * Rw gs.length p c))
def jst (gs:List Sg) (p:Int × Int) (cs:List Int):Int:=(cs.map fun c=>(gs.length:Int) * (Lw gs.length p c * Rw gs.length p c)).sum
theorem mh (c L R:Int) (g:Sg):∀ (xs:List Sg) (st:Int),fD c L R (xs++[g]) st=fD c L R xs st++[(c,g,st+(xs.length:Int) * (L * R),R)]
  | [],st=>by show [(c,g,st,R)]=[(c,g,st+((0:Nat):Int) * (L * R),R)];simp
  | x :: xs,st=>by
    show (c,x,st,R) :: fD c L R (xs++[g]) (st+L * R)=(c,x,st,R) :: (fD c L R xs (st+L * R)++[(c,g,st+((x :: xs).length:Int) * (L * R),R)]);rw [mh c L R g xs];have : st+L * R+(xs.length:Int) * (L * R)=st+((x :: xs).length:Int) * (L * R):=by
      rw [aaF,Int.natCast_add,abI];simp only [Int.natCast_one,acb];lia
    rw [this]
theorem jn (gs:List Sg) (p:Int × Int) (c:Int):∀ (cs:List Int) (st:Int),gg gs p (cs++[c]) st=gg gs p cs st++fD c (Lw gs.length p c) (Rw gs.length p c) gs (st+jst gs p cs)
  | [],st=>by simp [gg,jst]
  | x :: cs,st=>by
    show fD x _ _ gs st++gg gs p (cs++[c]) _=(fD x _ _ gs st++gg gs p cs _)++_;rw [jn gs p c cs,abE];congr 3;simp only [jst,aaH,abJ];lia
theorem kM (c L R:Int):∀ (xs:List Sg) (st:Int),(fD c L R xs st).length=xs.length
  | [],_=>rfl
  | x :: xs,st=>by show (fD c L R xs _).length+1=_;rw [kM c L R xs];rfl
theorem kN (gs:List Sg) (p:Int × Int):∀ (cs:List Int) (st:Int),(gg gs p cs st).length=cs.length * gs.length
  | [],_=>by simp [gg]
  | c :: cs,st=>by
    show (fD c _ _ gs st++gg gs p cs _).length=_;rw [aal,kM,kN gs p cs,aaF,Nat.succ_mul];lia
def JtIn (H:Hp) (p:Int × Int) (j:Jt) (v:V):Prop:=∃ t x y,v=.ref t∧H t=some (.tup [x,.str j.2.1.str,y,.int j.2.2.1,.int j.2.2.2])∧PairIn H (p.1,j.1) x∧PairIn H (j.1+1,p.2) y
theorem JtIn.mono {H H':Hp} {p:Int × Int} {j:Jt} {v:V} (t:Tups H H') (h:JtIn H p j v):JtIn H' p j v:=by
  obtain ⟨a,x,y,e,h1,h2,h3⟩:=h;exact ⟨a,x,y,e,t _ _ h1,PairIn.mono t h2,PairIn.mono t h3⟩
section
variable {P:Program} {w:World} {K:aaa} {mg:Str→Option Value} {base:Heap} {f:Addr} {fd:FuncData}
def mO:Sp:=fun vs H Q _=>∃ p v,vs=[v]∧PairIn H p v∧0≤p.1∧p.1≤p.2∧p.2 < 100∧∀ a us H',Same H H'→H a=none→H' a=some (.lst us)→Paired (CutIn H' p) (bf p) us→Q (.ref a) H'
abbrev i9:Stmt:=top 23
theorem ib:FnScope ["stretch","first","last"] ["stretch"] (aj i9):=⟨rfl,rfl,rfl,by decide +kernel,rfl,by decide +kernel,by decide +kernel⟩
theorem qj (F:Fun K "cuts_of" "cuts_of" i9 f fd) (B:Bu K mg):FnOk P w K mg base CX0 1 f fd ["stretch"] mO:=by
  refine F.ok ib (fun vs H Q E h=>?_) (fun cdv A outer s H vs Q E hr h=>?_)
  · obtain ⟨p,v,rfl,_⟩:=h;rfl
  obtain ⟨p,v,rfl,⟨a,rfl,ha⟩,h1,h2,h3,q⟩:=h;refine ⟨_,(@ag _ _ _ _ _ (@fj _ _ _ _ _ _ (pv 0) (@eK _ _ _ _ _ _ rfl (@aQ _ _ _ _ _ (@ao _ _ (1) _ (ib).nd rfl (Or.inr rfl) (.inl rfl)) (@aQ _ _ _ _ _ (@ao _ _ (2) _ (ib).nd rfl (Or.inr rfl) (.inl rfl)) cu (by rfl)) (by rfl)) (by rfl) (by rfl)) (by rfl) (by rfl) (by rfl)) (@ai _ _ _ (@az _ _ _ _ (@fA _ _ _ _ _ _ _ _ (["cut","first","last"]) ([none,some 1,some 2]) _ _ _ _ rfl (@ja _ _ _ _ _ _ _ rfl B.irange (@aa _ _ _ _ _ (pv 1) (@aa _ _ _ _ _ (pv 2) ac (by rfl)) (by rfl)) (by rfl) (by rfl)) rfl ⟨rfl,⟨rfl,trivial⟩⟩ ⟨⟨rfl,Or.inl rfl,Or.inl rfl⟩,⟨⟨rfl,Or.inl rfl,Or.inl rfl⟩,trivial⟩⟩ (fun _ _ _ _=>⟨(@ao _ _ (0) _ (show aaP (["cut","first","last"]:List Str) by decide +kernel) rfl (Or.inl rfl) (.inr rfl)),bZ,(@aB _ _ _ _ _ (@aa _ _ _ _ _ (@aB _ _ _ _ _ (@aa _ _ _ _ _ (pv 1) (@aa _ _ _ _ _ (pv 0) ac (by rfl)) (by rfl))) (@aa _ _ _ _ _ (@aB _ _ _ _ _ (@aa _ _ _ _ _ (@aq _ _ _ _ _ _ _ _ cy (pv 0) af) (@aa _ _ _ _ _ (pv 2) ac (by rfl)) (by rfl))) ac (by rfl)) (by rfl)))⟩) (by rfl) (by rfl) (by rfl) (by rfl) (by intro _;rfl))))),?_⟩;refine ⟨_,rfl,a,_,rfl,SqT.of ha,rfl,_,_,rfl,_,_,rfl,rfl,?_⟩;refine ⟨_,rfl,_,rfl,p.1,p.2,rfl,⟨by lia,by lia,by lia,by lia⟩,?_⟩;refine eV (Trn.range (lo:=p.1) (n:=(p.2 - p.1).toNat)) (fun i ys H'=>Same H H'∧Paired (CutIn H' p) ((bf p).take i) ys) ⟨Same.refl _,.nil⟩ (fun i ys H' hi z=>⟨trivial,aU (by have:=z.2.length;rw [← this,aaz];lia)⟩) (fun i x ys H0 H' hi hx z Nx nx=>?_) (fun ys H' z p5 n5=>?_)
  · obtain ⟨rfl,rfl⟩:=hx;obtain ⟨S,hp⟩:=z;have t2:(2:Nat)≤sizeLine:=by decide
    refine ⟨_,rfl,_,rfl,t2,fun t ht=>?_⟩;have st:=Same.new ht (.tup [.int p.1,.int (p.1+(i:Int))]);refine ⟨_,rfl,_,_,rfl,rfl,_,rfl,t2,fun u hu=>⟨t2,fun v hv=>nx _ _ ?_⟩⟩;have su:=Same.new hu (.tup [.int (p.1+(i:Int)+1),.int p.2]);have sv:=Same.new hv (.tup [.ref t,.ref u]);have S3:=(st.trans su).trans sv;refine ⟨S.trans S3,?_⟩;have e:(bf p).take (i+1)=(bf p).take i++[p.1+(i:Int)]:=by
      rw [aaR];have : (bf p)[i]?=some (p.1+(i:Int)):=by
        unfold bf;rw [aaX,List.getElem?_range hi];rfl
      rw [this];rfl
    rw [e];exact Paired.snoc (Paired.mapP hp fun _ _ h=>CutIn.mono (Tups.of S3) h) ⟨v,_,_,rfl,ae,⟨t,rfl,sv _ _ (su _ _ ae)⟩,⟨u,rfl,sv _ _ ae⟩⟩
  · obtain ⟨S,hp⟩:=z;rw [abe (by simp [bf])] at hp;have s5:=Same.new n5 (.lst ys);exact q p5 ys _ (S.trans s5) (S.free n5) ae (Paired.mapP hp fun _ _ h=>CutIn.mono (Tups.of s5) h)
def iT:Sp:=fun vs H Q _=>∃ a g b,vs=[.int a,.str (Sg.str g),.int b]∧a.natAbs < 2 ^ 4000∧b.natAbs < 2 ^ 4000∧Q (.int (g.op a b)) H
abbrev ie:Stmt:=top 31
theorem og:FnScope ["left","sign","right"] ["left","sign","right"] (aj ie):=⟨rfl,rfl,rfl,by decide +kernel,rfl,by decide +kernel,by decide +kernel⟩
theorem oB (F:Fun K "put_sign" "put_sign" ie f fd):FnOk P w K mg base CX0 1 f fd ["left","sign","right"] iT:=by
  refine F.ok og (fun vs H Q E h=>?_) (fun cdv A outer s H vs Q E hr h=>?_)
  · obtain ⟨a,g,b,rfl,_⟩:=h;rfl
  obtain ⟨a,g,b,rfl,ha,hb,q⟩:=h;refine ⟨_,(@ag _ _ _ _ _ (@bV _ _ _ _ _ _ _ _ (@aJ _ _ _ _ _ _ _ _ eU (pv 1) aG (aX _)) (@ai _ _ _ (@az _ _ _ _ (@aq _ _ _ _ _ _ _ _ cy (pv 0) (pv 2)))) a6) (@ag _ _ _ _ _ (@bV _ _ _ _ _ _ _ _ (@aJ _ _ _ _ _ _ _ _ eU (pv 1) aG (aX _)) (@ai _ _ _ (@az _ _ _ _ (@aq _ _ _ _ _ _ _ _ bX (pv 0) (pv 2)))) a6) (@ai _ _ _ (@az _ _ _ _ (@aq _ _ _ _ _ _ _ _ iH (pv 0) (pv 2)))))),?_⟩;cases g with
  | plus=>exact ⟨_,rfl,rfl,_,rfl,jz rfl ⟨_,rfl,_,rfl,_,_,rfl,rfl,q⟩⟩
  | minus=>exact ⟨_,rfl,rfl,_,rfl,gJ (by decide +kernel) ⟨_,rfl,rfl,_,rfl,jz rfl ⟨_,rfl,_,rfl,_,_,rfl,rfl,q⟩⟩⟩
  | times=>exact ⟨_,rfl,rfl,_,rfl,gJ (by decide +kernel) ⟨_,rfl,rfl,_,rfl,gJ (by decide +kernel) ⟨_,rfl,_,rfl,_,_,rfl,rfl,⟨ha,hb⟩,q⟩⟩⟩
def jR:Sp:=fun vs H Q _=>∃ (gs:List Sg) (pc:Addr) (M:Nat) (p:Int × Int) (v:V),vs=[.str (aC gs),.ref pc,v]∧gs.length≤3∧H pc=some (.lst ((cl gs.length M).map V.int))∧M≤8∧PairIn H p v∧0≤p.1∧p.1≤p.2∧p.2≤M ∧
  ∀ a us H',Same H H'→H a=none→H' a=some (.lst us)→Paired (JtIn H' p) (gg gs p (bf p) 0) us→Q (.ref a) H'
abbrev gx:Stmt:=top 29
theorem bw:FnScope ["signs","counts","stretch","joints","start","before","behind","left_ways","right_ways","sign"] ["signs","counts","stretch"] (aj gx):=⟨rfl,rfl,rfl,by decide +kernel,rfl,by decide +kernel,by decide +kernel⟩
theorem ng (F:Fun K "joints_of" "joints_of" gx f fd) (B:Bu K mg) (C_cuts_of:Cal P w K mg base "cuts_of" 1 ["stretch"] mO):FnOk P w K mg base CX0 2 f fd ["signs","counts","stretch"] jR:=by
  refine F.ok bw (fun vs H Q E h=>?_) (fun cdv A outer s H vs Q E hr h=>?_)
  · obtain ⟨gs,pc,M,p,v,rfl,_⟩:=h;rfl
  obtain ⟨gs,pc,M,p,v,rfl,g3,ec,hM,hp,p0,p1,pM,q⟩:=h;refine ⟨_,(@ag _ _ _ _ _ (@aD _ _ (3) _ _ _ _ (bw).nd rfl (Or.inl rfl) (@au _ _ _ _ ac) (by rfl) (by first|exact .inl rfl|exact .inr rfl|assumption)) (@ag _ _ _ _ _ (@aD _ _ (4) _ _ _ _ (bw).nd rfl (Or.inl rfl) af (by rfl) (by first|exact .inl rfl|exact .inr rfl|assumption)) (@ag _ _ _ _ _ (@dg _ _ _ _ _ _ _ _ aaS rfl (@bu _ _ _ _ (@al _ _ _ _ _ _ _ _ _ _ _ C_cuts_of hr (by lia) rfl (@aa _ _ _ _ _ (pv 2) ac (by rfl)) (by decide) (by rfl) (by rfl))) (@eK _ _ _ _ _ _ rfl (@aQ _ _ _ _ _ (@ao _ _ (5) _ (bw).nd rfl (Or.inl rfl) (.inl rfl)) (@aQ _ _ _ _ _ (@ao _ _ (6) _ (bw).nd rfl (Or.inl rfl) (.inl rfl)) cu (by rfl)) (by rfl)) (by rfl) (by rfl)) (@ag _ _ _ _ _ (@aD _ _ (7) _ _ _ _ (bw).nd rfl (Or.inl rfl) (@aY _ _ _ _ _ _ _ bc (pv 1) (@aq _ _ _ _ _ _ _ _ cy (@aq _ _ _ _ _ _ _ _ bX (@aY _ _ _ _ _ _ _ bv (pv 5) af (fun _ _=>rfl)) (@aY _ _ _ _ _ _ _ bv (pv 5) af (fun _ _=>rfl))) af) (fun _ _=>rfl)) (by rfl) (by first|exact .inl rfl|exact .inr rfl|assumption)) (@ag _ _ _ _ _ (@aD _ _ (8) _ _ _ _ (bw).nd rfl (Or.inl rfl) (@aY _ _ _ _ _ _ _ bc (pv 1) (@aq _ _ _ _ _ _ _ _ cy (@aq _ _ _ _ _ _ _ _ bX (@aY _ _ _ _ _ _ _ bv (pv 6) af (fun _ _=>rfl)) (@aY _ _ _ _ _ _ _ bv (pv 6) af (fun _ _=>rfl))) af) (fun _ _=>rfl)) (by rfl) (by first|exact .inl rfl|exact .inr rfl|assumption)) (@ai _ _ _ (@dg _ _ _ _ _ _ _ _ aaS rfl (@wW _ _ _ _ (pv 0)) (@ao _ _ (9) _ (bw).nd rfl (Or.inl rfl) (.inl rfl)) (@ag _ _ _ _ _ (@cT _ _ _ _ (@ju _ _ _ _ _ _ _ _ _ _ _ _ aa3 abi abj dZ (pv 3) (@aa _ _ _ _ _ (@aB _ _ _ _ _ (@aa _ _ _ _ _ (pv 5) (@aa _ _ _ _ _ (pv 9) (@aa _ _ _ _ _ (pv 6) (@aa _ _ _ _ _ (pv 4) (@aa _ _ _ _ _ (pv 8) ac (by rfl)) (by rfl)) (by rfl)) (by rfl)) (by rfl))) ac (by rfl)) (by rfl) (by rfl) (by rfl) (by rfl) (by rfl)) (by rfl)) (@ai _ _ _ (@qf _ _ (4) _ _ _ _ _ _ (bw).nd rfl (Or.inl rfl) (@aq _ _ _ _ _ _ _ _ iH (pv 7) (pv 8)) uB (by first|exact .inl rfl|exact .inr rfl|assumption)))) (by intro _;rfl))))) (by intro _;rfl)) (@ai _ _ _ (@az _ _ _ _ (pv 3)))))),?_⟩;refine ⟨(by show 0≤sizeLine;decide),fun pj nj=>?_⟩;have sj:=Same.new nj (.lst []);have ej:upd H pj (.lst []) pj=some (.lst []):=ae;generalize upd H pj (.lst [])=H0 at sj ej ⊢;refine ⟨_,rfl,p,v,rfl,PairIn.mono (Tups.of sj) hp,p0,p1,by lia,fun pl ul H1 s1 npl epl hul=>?_⟩;have lul:=hul.length;have lc:(bf p).length=(p.2 - p.1).toNat:=by simp [bf]
  have S1:=sj.trans s1;refine ⟨pl,rfl,⟨_,SqL.of epl⟩,kT (xs:=ul) (fun i σ H'=>∃ (us:List V) (c5 c6 c7 c8 c9:Option V),σ=[some (.str (aC gs)),some (.ref pc),some v,some (.ref pj),some (.int (jst gs p ((bf p).take i))),c5,c6,c7,c8,c9]∧Same H H'∧H' pj=some (.lst us)∧H' pl=some (.lst ul)∧Paired (CutIn H' p) (bf p) ul∧Paired (JtIn H' p) (gg gs p ((bf p).take i) 0) us) ⟨[],_,_,_,_,_,rfl,S1,s1 _ _ ej,epl,hul,.nil⟩ ?_ ?_ ?_⟩
  · rintro i σ H' _ ⟨_,_,_,_,_,_,rfl,_,_,e,_⟩;exact SqL.of e
  · rintro i x σ H2 hx ⟨us,c5,c6,c7,c8,c9,rfl,S2,ej2,el2,hc2,hj2⟩;obtain ⟨c,hci,t,xb,yb,rfl,et,hxb0,hyb0⟩:=Paired.at hc2 hx;have hxb:=hxb0;have hyb:=hyb0;obtain ⟨bx,rfl,ebx⟩:=hxb0;obtain ⟨byy,rfl,eby⟩:=hyb0;have hc1:p.1≤c∧c < p.2:=by
      have:=aax hci;unfold bf at this;obtain ⟨k,hk,rfl⟩:=abr.mp this;have:=aaV.mp hk;lia
    have ec2:=S2 _ _ ec;refine ⟨t,_,rfl,SqT.of et,rfl,_,_,rfl,_,_,rfl,rfl,?_⟩;have eL:atI ((cl gs.length M).map V.int) (c - p.1+1)=some (.int (Lw gs.length p c)):=by
      have:=mx (s:=gs.length) (k:=M) (n:=(c - p.1+1).toNat) hM (by lia);rw [show (((c - p.1+1).toNat:Nat):Int)=c - p.1+1 by lia] at this;exact this
    have eR:atI ((cl gs.length M).map V.int) (p.2 - (c+1)+1)=some (.int (Rw gs.length p c)):=by
      have:=mx (s:=gs.length) (k:=M) (n:=(p.2 - c).toNat) hM (by lia);rw [show (((p.2 - c).toNat:Nat):Int)=p.2 - (c+1)+1 by lia] at this;exact this
    refine ⟨_,rfl,_,rfl,bx,_,_,_,rfl,rfl,SqT.of ebx,rfl,_,rfl,bx,_,_,_,rfl,rfl,SqT.of ebx,rfl,_,_,rfl,rfl,_,_,rfl,rfl,pc,_,_,_,rfl,rfl,SqL.of ec2,eL,?_⟩;refine ⟨_,rfl,_,rfl,byy,_,_,_,rfl,rfl,SqT.of eby,rfl,_,rfl,byy,_,_,_,rfl,rfl,SqT.of eby,rfl,_,_,rfl,rfl,_,_,rfl,rfl,pc,_,_,_,rfl,rfl,SqL.of ec2,eR,?_⟩;have bL:=iP gs.length g3 (c - p.1+1).toNat (by lia);have bR:=iP gs.length g3 (p.2 - c).toNat (by lia);have b9:(1000000000:Nat) < 2 ^ 4000:=by decide +kernel
    have nL:(Lw gs.length p c).natAbs < 2 ^ 4000:=ab1 (by unfold Lw;lia) b9;have nR:(Rw gs.length p c).natAbs < 2 ^ 4000:=ab1 (by unfold Rw;lia) b9;have et1:(bf p).take (i+1)=(bf p).take i++[c]:=by rw [aaR,hci];rfl
    have hi:i < (bf p).length:=(aan.mp hci).1;refine ⟨_,rfl,_,rfl,p_ gs,vS (fun a σ H'=>∃ (us:List V) (c9:Option V),σ=[some (.str (aC gs)),some (.ref pc),some v,some (.ref pj),some (.int (jst gs p ((bf p).take i)+(a:Int) * (Lw gs.length p c * Rw gs.length p c))),some (.ref bx),some (.ref byy),some (.int (Lw gs.length p c)),some (.int (Rw gs.length p c)),c9]∧Same H H'∧H' pj=some (.lst us)∧H' pl=some (.lst ul)∧Paired (CutIn H' p) (bf p) ul∧PairIn H' (p.1,c) (.ref bx)∧PairIn H' (c+1,p.2) (.ref byy)∧Paired (JtIn H' p) (gg gs p ((bf p).take i) 0++fD c (Lw gs.length p c) (Rw gs.length p c) (gs.take a) (jst gs p ((bf p).take i))) us) ⟨us,c9,by simp,S2,ej2,el2,hc2,hxb,hyb,by simpa [fD] using hj2⟩ ?_ ?_⟩
    · rintro a ch σ H3 hch ⟨us3,c9',rfl,S3,ej3,el3,hc3,hx3,hy3,hj3⟩;obtain ⟨g,hg,rfl⟩:=xW hch;have ha:a < gs.length:=(aan.mp hg).1;refine ⟨_,rfl,.inl ⟨rfl,_,SqL.of ej3⟩,?_⟩;refine ⟨_,rfl,_,rfl,_,rfl,_,rfl,_,rfl,(by show 5≤sizeLine;decide),fun t5 n5=>?_⟩;have s5:=Same.new n5 (.tup [.ref bx,.str ⟨#[g.code]⟩,.ref byy,.int (jst gs p ((bf p).take i)+(a:Int) * (Lw gs.length p c * Rw gs.length p c)),.int (Rw gs.length p c)]);have len3:=hj3.length;rw [aal,kN,kM,aaz,aaz] at len3;have lm:min i (bf p).length * gs.length≤8 * 3:=abB (by lia) g3;refine ⟨pj,_,_,rfl,rfl,s5 _ _ ej3,aU (by lia),?_⟩;have ej5:=s5 _ _ ej3;have T5:Tups (upd H3 t5 (.tup [.ref bx,.str ⟨#[g.code]⟩,.ref byy,.int (jst gs p ((bf p).take i)+(a:Int) * (Lw gs.length p c * Rw gs.length p c)),.int (Rw gs.length p c)])) (upd (upd H3 t5 (.tup [.ref bx,.str ⟨#[g.code]⟩,.ref byy,.int (jst gs p ((bf p).take i)+(a:Int) * (Lw gs.length p c * Rw gs.length p c)),.int (Rw gs.length p c)])) pj (.lst (us3++[.ref t5]))):=fun d xs hd=>by rw [aw (fun e=>by rw [e,ej5] at hd;cases hd)];exact hd
      have T35:=(Tups.of s5).trans T5;have npl2:pl≠pj:=fun e=>by rw [e] at npl;rw [ej] at npl;cases npl
      refine ⟨_,rfl,_,rfl,_,rfl,_,_,rfl,rfl,⟨nL,nR⟩,_,_,rfl,rfl,?_⟩;refine ⟨us3++[.ref t5],some (.str ⟨#[g.code]⟩),?_,(S3.trans s5).upd nj,ae,?_,Paired.mapP hc3 fun _ _ h=>CutIn.mono T35 h,PairIn.mono T35 hx3,PairIn.mono T35 hy3,?_⟩
      · have : jst gs p ((bf p).take i)+(a:Int) * (Lw gs.length p c * Rw gs.length p c)+Lw gs.length p c * Rw gs.length p c=jst gs p ((bf p).take i)+((a+1:Nat):Int) * (Lw gs.length p c * Rw gs.length p c):=by
          rw [Int.natCast_add,abI];simp only [Int.natCast_one,acb];lia
        rw [← this];rfl
      · rw [aw npl2];exact s5 _ _ el3
      · have eg:gs.take (a+1)=gs.take a++[g]:=by rw [aaR,hg];rfl
        rw [eg,mh,← abE];refine Paired.snoc (Paired.mapP hj3 fun _ _ h=>JtIn.mono T35 h) ⟨t5,.ref bx,.ref byy,rfl,T5 _ _ ?_,PairIn.mono T35 hx3,PairIn.mono T35 hy3⟩;rw [ae,gv,aaz,Nat.min_eq_left (by lia)]
    · rintro σ H3 ⟨us3,c9',rfl,S3,ej3,el3,hc3,hx3,hy3,hj3⟩;rw [jI] at *;rw [aa5] at hj3;refine ⟨us3,some (.ref bx),some (.ref byy),some (.int (Lw gs.length p c)),some (.int (Rw gs.length p c)),c9',?_,S3,ej3,el3,hc3,?_⟩
      · rw [et1];have : jst gs p ((bf p).take i++[c])=jst gs p ((bf p).take i)+(gs.length:Int) * (Lw gs.length p c * Rw gs.length p c):=by
          unfold jst;rw [aaK,List.sum_append];simp
        rw [this]
      · rw [et1,jn];simpa using hj3
  · rintro σ H2 ⟨us,c5,c6,c7,c8,c9,rfl,S2,ej2,el2,hc2,hj2⟩;rw [← lul,aa5] at hj2;exact ⟨_,rfl,q pj us H2 S2 nj ej2 hj2⟩
end
open PySem L2
def PkAt (H:Hp) (kvs:List (List Key × V)) (q:Int × Int) (ls:List (Int × Int)):Prop:=∃ t xs,dR kvs (ky q)=some (.ref t)∧H t=some (.tup xs)∧PairsIn H ls xs
theorem PkAt.mono {H H':Hp} {kvs:List (List Key × V)} {q:Int × Int} {ls:List (Int × Int)} (t:Tups H H') (h:PkAt H kvs q ls):PkAt H' kvs q ls:=by
  obtain ⟨a,xs,e,h1,h2⟩:=h;exact ⟨a,xs,e,t _ _ h1,PairsIn.mono t h2⟩
def jp1 (j:Jt) (a:Int × Int) (bs:List (Int × Int)):List (Int × Int):=bs.map fun b=>(j.2.1.op a.1 b.1,j.2.2.1+a.2 * j.2.2.2+b.2)
def jp2 (L:Int × Int→List (Int × Int)) (p:Int × Int) (j:Jt):List (Int × Int):=(L (p.1,j.1)).flatMap fun a=>jp1 j a (L (j.1+1,p.2))
def hV (L:Int × Int→List (Int × Int)) (p:Int × Int) (js:List Jt):List (Int × Int):=js.flatMap fun j=>jp2 L p j
theorem mv {α β:Type} {l:List α} {f:α→List β} {i:Nat} {x:α} (h:l[i]?=some x):(l.take (i+1)).flatMap f=(l.take i).flatMap f++f x:=by
  rw [aaR,h,List.flatMap_append];simp
theorem nC {α β:Type} {l:List α} {f:α→List β} {c:Nat} (h:∀ x∈l,(f x).length≤c):(l.flatMap f).length≤l.length * c:=by
  induction l with
  | nil=>simp
  | cons a r ih =>
    rw [List.flatMap_cons,aal,aaF,Nat.succ_mul];have:=h a aav;have:=ih fun x hx=>h x (aai _ hx);lia
def Bg (i:Int):Prop:=i.natAbs < 2 ^ 4000
section
variable {P:Program} {w:World} {K:aaa} {mg:Str→Option Value} {base:Heap} {f:Addr} {fd:FuncData}
def wM:Sp:=fun vs H Q _=>∃ (pk jl:Addr) (kvs:List (List Key × V)) (us:List V) (p:Int × Int) (js:List Jt) (L:Int × Int→List (Int × Int)),vs=[.ref pk,.ref jl]∧H pk=some (.dT kvs)∧H jl=some (.lst us)∧Paired (JtIn H p) js us∧js.length≤24 ∧
  (∀ j∈js,PkAt H kvs (p.1,j.1) (L (p.1,j.1))∧PkAt H kvs (j.1+1,p.2) (L (j.1+1,p.2))∧Bg j.2.2.2)∧(∀ q,(L q).length≤3∧∀ x∈L q,Bg x.1∧Bg x.2) ∧
  ∀ a vs H',Same H H'→H a=none→H' a=some (.lst vs)→PairsIn H' (hV L p js) vs→Q (.ref a) H'
abbrev fP:Stmt:=top 34
theorem lK:FnScope ["picks","joints"] ["picks","joints"] (aj fP):=⟨rfl,rfl,rfl,by decide +kernel,rfl,by decide +kernel,by decide +kernel⟩
theorem lQ (F:Fun K "join_picks" "join_picks" fP f fd) (C_put_sign:Cal P w K mg base "put_sign" 1 ["left","sign","right"] iT):FnOk P w K mg base CX0 2 f fd ["picks","joints"] wM:=by
  refine F.ok lK (fun vs H Q E h=>?_) (fun cdv A outer s H vs Q E hr h=>?_)
  · obtain ⟨pk,jl,kvs,us,p,js,L,rfl,_⟩:=h;rfl
  obtain ⟨pk,jl,kvs,us,p,js,L,rfl,ek,ej,hj,l24,hpk,hL,q⟩:=h;refine ⟨_,(@ai _ _ _ (@az _ _ _ _ (@w_ _ _ _ _ _ _ _ _ _ _ _ _ _ _ (["before","sign","behind","start","step","left_worth","left_number","right_worth","right_number","picks"]) ([none,none,none,none,none,none,none,none,none,some 0]) _ _ _ _ _ _ _ _ _ _ rfl (@bu _ _ _ _ (pv 1)) rfl ⟨rfl,trivial⟩ ⟨⟨rfl,Or.inl rfl,Or.inl rfl⟩,trivial⟩ (fun _ _ _ _=>⟨(@iG _ _ _ _ _ _ (5) rfl rfl (@aQ _ _ _ _ _ (@ao _ _ (0) _ (show aaP (["before","sign","behind","start","step","left_worth","left_number","right_worth","right_number","picks"]:List Str) by decide +kernel) rfl (Or.inl rfl) (.inr rfl)) (@aQ _ _ _ _ _ (@ao _ _ (1) _ (show aaP (["before","sign","behind","start","step","left_worth","left_number","right_worth","right_number","picks"]:List Str) by decide +kernel) rfl (Or.inl rfl) (.inr rfl)) (@aQ _ _ _ _ _ (@ao _ _ (2) _ (show aaP (["before","sign","behind","start","step","left_worth","left_number","right_worth","right_number","picks"]:List Str) by decide +kernel) rfl (Or.inl rfl) (.inr rfl)) (@aQ _ _ _ _ _ (@ao _ _ (3) _ (show aaP (["before","sign","behind","start","step","left_worth","left_number","right_worth","right_number","picks"]:List Str) by decide +kernel) rfl (Or.inl rfl) (.inr rfl)) (@aQ _ _ _ _ _ (@ao _ _ (4) _ (show aaP (["before","sign","behind","start","step","left_worth","left_number","right_worth","right_number","picks"]:List Str) by decide +kernel) rfl (Or.inl rfl) (.inr rfl)) cu (by rfl)) (by rfl)) (by rfl)) (by rfl)) (by rfl)) (by rfl) (by rfl)),bZ,(@qR _ _ _ _ _ rfl (@gQ _ _ _ _ _ _ (u1 hr.units) (pv 9) (pv 0) (fun _ _=>rfl))),(@iG _ _ _ _ _ _ (2) rfl rfl (@aQ _ _ _ _ _ (@ao _ _ (5) _ (show aaP (["before","sign","behind","start","step","left_worth","left_number","right_worth","right_number","picks"]:List Str) by decide +kernel) rfl (Or.inl rfl) (.inr rfl)) (@aQ _ _ _ _ _ (@ao _ _ (6) _ (show aaP (["before","sign","behind","start","step","left_worth","left_number","right_worth","right_number","picks"]:List Str) by decide +kernel) rfl (Or.inl rfl) (.inr rfl)) cu (by rfl)) (by rfl)) (by rfl) (by rfl)),bZ,(@qR _ _ _ _ _ rfl (@gQ _ _ _ _ _ _ (u1 hr.units) (pv 9) (pv 2) (fun _ _=>rfl))),(@iG _ _ _ _ _ _ (2) rfl rfl (@aQ _ _ _ _ _ (@ao _ _ (7) _ (show aaP (["before","sign","behind","start","step","left_worth","left_number","right_worth","right_number","picks"]:List Str) by decide +kernel) rfl (Or.inl rfl) (.inr rfl)) (@aQ _ _ _ _ _ (@ao _ _ (8) _ (show aaP (["before","sign","behind","start","step","left_worth","left_number","right_worth","right_number","picks"]:List Str) by decide +kernel) rfl (Or.inl rfl) (.inr rfl)) cu (by rfl)) (by rfl)) (by rfl) (by rfl)),bZ,(@aB _ _ _ _ _ (@aa _ _ _ _ _ (@al _ _ _ _ _ _ _ _ _ _ _ C_put_sign hr (by lia) rfl (@aa _ _ _ _ _ (pv 5) (@aa _ _ _ _ _ (pv 1) (@aa _ _ _ _ _ (pv 7) ac (by rfl)) (by rfl)) (by rfl)) (by decide) (by rfl) (by rfl)) (@aa _ _ _ _ _ (@aq _ _ _ _ _ _ _ _ cy (@aq _ _ _ _ _ _ _ _ cy (pv 3) (@aq _ _ _ _ _ _ _ _ iH (pv 6) (pv 4))) (pv 8)) ac (by rfl)) (by rfl)))⟩) (by rfl) (by rfl) (by rfl) (by rfl) (by intro _;rfl) (by intro _ _;rfl) (by intro _ _;rfl)))),?_⟩;have lj:=hj.length;have b2:∀ j,(jp2 L p j).length≤9:=fun j=>by
    unfold jp2;have h1:=nC (l:=L (p.1,j.1)) (f:=fun a=>jp1 j a (L (j.1+1,p.2))) (c:=3) (fun x _=>by unfold jp1;rw [aak];exact (hL _).1);have:=(hL (p.1,j.1)).1;lia
  refine ⟨_,rfl,jl,rfl,⟨_,SqL.of ej⟩,?_⟩;refine xk (Trn.list (xs:=us)) (fun i ys H'=>Same H H'∧PairsIn H' (hV L p (js.take i)) ys) ⟨Same.refl _,.nil⟩ (fun i ys H' hi z=>SqL.of (z.1 _ _ ej)) (fun i x ys H0 H1 hi hx z Nx nx=>?_) (fun ys H' z p5 n5=>?_)
  · obtain ⟨rfl,hx⟩:=hx;obtain ⟨S,hp⟩:=z;obtain ⟨j,hji,t,xb,yb,rfl,et,hxb0,hyb0⟩:=Paired.at hj hx;have et:=S _ _ et;have hxb:=PairIn.mono (Tups.of S) hxb0;have hyb:=PairIn.mono (Tups.of S) hyb0;obtain ⟨bx,rfl,ebx⟩:=PairIn.key hxb;obtain ⟨byy,rfl,eby⟩:=PairIn.key hyb;obtain ⟨k1,k2,k3⟩:=hpk j (aax hji);obtain ⟨t1,xs1,v1,e1,h1⟩:=PkAt.mono (Tups.of S) k1;obtain ⟨t2,xs2,v2,e2,h2⟩:=PkAt.mono (Tups.of S) k2;have ek1:=S _ _ ek;have l1:=h1.length;have l2:=h2.length;have c1:=(hL (p.1,j.1)).1;have c2:=(hL (j.1+1,p.2)).1;have lys:=hp.length;have lb:(hV L p (js.take i)).length≤24 * 9:=by
      have:=nC (l:=js.take i) (f:=fun j=>jp2 L p j) (c:=9) (fun j _=>b2 j);have h3:(js.take i).length≤24:=by rw [aaz];lia
      exact aaT this (abS _ h3)
    refine ⟨t,_,rfl,SqT.of et,rfl,_,_,rfl,_,_,rfl,_,_,rfl,_,_,rfl,_,_,rfl,rfl,?_⟩;refine ⟨_,rfl,_,rfl,pk,.ref t1,rfl,by rw [← v1];exact DGet.t (k:=ky (p.1,j.1)) ek1 ebx,t1,rfl,⟨_,SqT.of e1⟩,?_⟩;refine vI (Trn.tup (xs:=xs1)) (fun a ys' σ' H'=>∃ c5 c6 c7 c8,σ'=[some (.ref bx),some (.str j.2.1.str),some (.ref byy),some (.int j.2.2.1),some (.int j.2.2.2),c5,c6,c7,c8,some (.ref pk)]∧Same H1 H'∧PairsIn H' (hV L p (js.take i)++((L (p.1,j.1)).take a).flatMap fun x=>jp1 j x (L (j.1+1,p.2))) ys') ⟨_,_,_,_,rfl,Same.refl _,by simpa using hp⟩ (fun a ys' σ' H' ha z=>by obtain ⟨_,_,_,_,_,S1,_⟩:=z;exact SqT.of (S1 _ _ e1)) (fun a x ys1 σ1 H2 H2' ha hx1 z Nx1 nx1=>?_) (fun ys1 σ1 H2 z=>?_)
    · obtain ⟨rfl,hx1⟩:=hx1;obtain ⟨c5,c6,c7,c8,rfl,S1,hp1⟩:=z;obtain ⟨pa,hpa,ba,rfl,eba⟩:=cF (PairsIn.mono (Tups.of S1) h1) hx1;have gpa:=(hL (p.1,j.1)).2 pa (aax hpa);refine ⟨ba,_,rfl,SqT.of eba,rfl,_,_,rfl,_,_,rfl,rfl,?_⟩;refine ⟨_,rfl,_,rfl,pk,.ref t2,rfl,by rw [← v2];exact DGet.t (k:=ky (j.1+1,p.2)) (S1 _ _ ek1) (S1 _ _ eby),t2,rfl,⟨_,SqT.of (S1 _ _ e2)⟩,?_⟩;have lys1:=hp1.length;have lt1:(((L (p.1,j.1)).take a).flatMap fun x=>jp1 j x (L (j.1+1,p.2))).length≤3 * 3:=by
        have:=nC (l:=(L (p.1,j.1)).take a) (f:=fun x=>jp1 j x (L (j.1+1,p.2))) (c:=3) (fun x _=>by unfold jp1;rw [aak];exact c2);have h3:((L (p.1,j.1)).take a).length≤3:=by rw [aaz];lia
        exact aaT this (abS _ h3)
      rw [aal] at lys1;refine vH (Trn.tup (xs:=xs2)) (fun b ys' σ' H'=>∃ c7 c8,σ'=[some (.ref bx),some (.str j.2.1.str),some (.ref byy),some (.int j.2.2.1),some (.int j.2.2.2),some (.int pa.1),some (.int pa.2),c7,c8,some (.ref pk)]∧Same H1 H'∧PairsIn H' (hV L p (js.take i)++((L (p.1,j.1)).take a).flatMap (fun x=>jp1 j x (L (j.1+1,p.2)))++jp1 j pa ((L (j.1+1,p.2)).take b)) ys') ⟨_,_,rfl,S1,by simpa [jp1] using hp1⟩ (fun b ys' σ' H' hb z=>?_) (fun b x ys2 σ2 H3 H3' hb hx2 z Nx2 nx2=>?_) (fun ys2 σ2 H3 z=>?_)
      · obtain ⟨_,_,_,S2,hp2⟩:=z;have:=hp2.length;rw [aal,aal] at this;have h3:(jp1 j pa ((L (j.1+1,p.2)).take b)).length≤3:=by unfold jp1;rw [aak,aaz];lia
        exact ⟨SqT.of (S2 _ _ e2),aU (by lia)⟩
      · obtain ⟨rfl,hx2⟩:=hx2;obtain ⟨c7,c8,rfl,S2,hp2⟩:=z;obtain ⟨pb,hpb,bb,rfl,ebb⟩:=cF (PairsIn.mono (Tups.of S2) h2) hx2;have gpb:=(hL (j.1+1,p.2)).2 pb (aax hpb);refine ⟨bb,_,rfl,SqT.of ebb,rfl,_,_,rfl,_,_,rfl,rfl,?_⟩;refine ⟨_,rfl,_,rfl,_,rfl,pa.1,j.2.1,pb.1,rfl,gpa.1,gpb.1,?_⟩;refine ⟨_,rfl,_,rfl,_,rfl,_,_,rfl,rfl,⟨gpa.2,k3⟩,_,_,rfl,rfl,_,rfl,_,_,rfl,rfl,(by show 2≤sizeLine;decide),fun o ho=>nx2 _ _ _ ⟨_,_,rfl,S2.trans (Same.new ho _),?_⟩⟩;have etb:(L (j.1+1,p.2)).take (b+1)=(L (j.1+1,p.2)).take b++[pb]:=by rw [aaR,hpb];rfl
        rw [etb];unfold jp1;rw [aaK,← abE];exact PairsIn.snoc (PairsIn.mono (Tups.of (Same.new ho _)) hp2) ⟨o,rfl,ae⟩
      · obtain ⟨c7,c8,rfl,S2,hp2⟩:=z;refine nx1 _ _ _ ⟨_,_,_,_,rfl,S2,?_⟩;rw [← l2,aa5] at hp2;rw [mv (f:=fun x=>jp1 j x (L (j.1+1,p.2))) hpa,← abE];exact hp2
    · obtain ⟨c5,c6,c7,c8,rfl,S1,hp1⟩:=z;refine nx _ _ ⟨S.trans S1,?_⟩;rw [← l1,aa5] at hp1;unfold hV at hp1 ⊢;rw [mv (f:=fun j=>jp2 L p j) hji];exact hp1
  · obtain ⟨S,hp⟩:=z;rw [← lj,aa5] at hp;have s5:=Same.new n5 (.lst ys);exact q p5 ys _ (S.trans s5) (S.free n5) ae (PairsIn.mono (Tups.of s5) hp)
open PySem L2
def yf:Str:=("pick_three":Str) ++ ".<locals>." ++ "<lambda>"
def sK (p:Int × Int):List Int:=[p.2]
def xr (p:Int × Int):List Int:=[-p.1,p.2]
def LT (T:Addr) (H:Hp):Prop:=∃ tp,LTab T yf H tp
def pT (T:Addr):Sp:=fun vs H Q _=>∃ (l:Addr) (us:List V) (ps:List (Int × Int)),vs=[.ref l]∧H l=some (.lst us)∧PairsIn H ps us∧0 < us.length∧LT T H ∧
  ∀ t x y z H',But T H H'→H t=none→LT T H'→H' t=some (.tup [x,y,z])→us[a5 (c_ sK ps) (us.length - 1)]?=some x→us[a5 (c_ l_ ps) (us.length - 1)]?=some y→us[a5 (c_ xr ps) (us.length - 1)]?=some z→Q (.ref t) H'
abbrev bz:Stmt:=top 35
theorem sc_pick_three:FnScope ["found","first","greatest"] ["found"] (aj bz):=⟨rfl,rfl,rfl,by decide +kernel,rfl,by decide +kernel,by decide +kernel⟩
theorem lO {c T:Addr} (F:FunC K "pick_three" "pick_three" bz f fd c) (C:PySem.W.CodeHd base c T) (hB:base.BuiltinsAt mg T) (hmin:mg "min" = none):FnOk P w K mg base CX0 4 f fd ["found"] (pT T):=by
  refine F.ok sc_pick_three (fun vs H Q E h=>?_) (fun A outer s H vs Q E hr h=>?_)
  · obtain ⟨l,us,ps,rfl,_⟩:=h;rfl
  obtain ⟨l,us,ps,rfl,el,hps,hne,hT,q⟩:=h;have nd:=sc_pick_three.nd;have S1:FnScope ["way"] ["way"] { kind:=.function,names:=[("way",.local)],isGenerator:=false,isCoroutine:=false }:=⟨rfl,rfl,rfl,by decide,rfl,by decide,by decide⟩
  have k1:∀ p x H (Q:VK),PairIn H p x→(∀ k H',KeyIn false (sK p) k H'→Same H H'→Q k H')→tOp (wR K) (wG 0) (tC (V.int 1)) [some x] H Q:=fun p x H Q ⟨a,e,ha⟩ q=>by
    subst e;exact ⟨_,rfl,a,_,_,_,rfl,rfl,SqT.of ha,rfl,q _ H ⟨p.2,rfl,rfl⟩ (Same.refl _)⟩
  refine ⟨_,ag (aD (i:=1) nd rfl (Or.inl rfl) (me (key:=sK) (kd:=false) (y:="way") (c:=c) (P:=T) (hr.mono (by decide)) (by rfl) hmin acj (aa (pv 0) ac) (by rfl) (by rfl) rfl C hB S1 (fun _ _ _ _=>rfl) (fun _ _ _ _ _=>(aY (iO (K:=K) rfl) (pv 0) af (fun _ _=>rfl))) k1))
    (ag (aD (i:=2) nd rfl (Or.inl rfl) (me (key:=xr) (kd:=true) (y:="way") (c:=c) (P:=T) (hr.mono (by decide)) (by rfl) hmin acj (aa (pv 0) ac) (by rfl) (by rfl) rfl C hB S1 (fun _ _ _ _=>rfl) (fun _ _ _ _ _=>aB (aa (ox jP (aY (iO (K:=K) rfl) (pv 0) af (fun _ _=>rfl))) (aa (aY (iO (K:=K) rfl) (pv 0) af (fun _ _=>rfl)) ac))) ?_))
    (ai (az (aB (aa (pv 1) (aa (am (sS (hr.mono (by decide))) (by rfl) hmin acj (aa (pv 0) ac)) (aa (pv 2) ac))))))),?_⟩
  · intro p x H Q ⟨a,e,ha⟩ q;subst e;exact ⟨_,rfl,a,_,_,_,rfl,rfl,SqT.of ha,rfl,_,rfl,_,rfl,a,_,_,_,rfl,rfl,SqT.of ha,rfl,(by show 2≤sizeLine;decide),fun t ht=>q (.ref t) _ ⟨t,rfl,ae⟩ (Same.new ht _)⟩
  · have nl:l≠T:=fun z=>by obtain ⟨tp,h⟩:=hT;rw [z,h.tab] at el;cases el
    have tT:∀ {H H':Hp},But T H H'→LT T H→∀ b xs,H b=some (.tup xs)→H' b=some (.tup xs):=fun b h c xs e=>b c _ (fun z=>by obtain ⟨tp,h⟩:=h;rw [z,h.tab] at e;cases e) e;refine ⟨_,rfl,l,us,ps,rfl,el,hps,hne,hT,fun x1 H1 hx1 B1 T1=>?_⟩;have el1:=B1 _ _ nl el;have hps1:=PairsIn.tups (tT B1 hT) hps;refine ⟨_,rfl,l,us,ps,rfl,el1,hps1,hne,T1,fun x2 H2 hx2 B2 T2=>?_⟩;have el2:=B2 _ _ nl el1;have hps2:=PairsIn.tups (tT B2 T1) hps1;refine ⟨_,rfl,_,rfl,l,us,ps,rfl,el2,hps2,hne,fun x3 hx3=>⟨_,rfl,(by show 3≤sizeLine;decide),fun t ht=>?_⟩⟩;have st:=Same.new ht (.tup [x1,x3,x2]);have nT:t≠T:=fun z=>by obtain ⟨tp,h⟩:=T2;rw [z,h.tab] at ht;cases ht
    refine q t x1 x3 x2 _ (fun b o hb e=>st _ _ (B2 _ _ hb (B1 _ _ hb e))) ?_ ?_ ae hx1 hx3 hx2
    · cases e:H t with
      | none=>rfl
      | some o=>have:=B2 _ _ nT (B1 _ _ nT e);rw [ht] at this;cases this
    · obtain ⟨tp,h⟩:=T2;refine ⟨tp,st _ _ h.tab,h.tri,fun pos' cv hc=>?_⟩;obtain ⟨d,e1,e2⟩:=h.cds pos' cv hc;exact ⟨d,e1,st _ _ e2⟩
end
open PySem L2
def j8 (ps:List (Int × Int)):List (Int × Int):=[ps.getD (a5 (c_ sK ps) (ps.length - 1)) (0,0),ps.getD (a5 (c_ l_ ps) (ps.length - 1)) (0,0),ps.getD (a5 (c_ xr ps) (ps.length - 1)) (0,0)]
def fnd (ns:List Int) (gs:List Sg) (L:Int × Int→List (Int × Int)) (q:Int × Int):List (Int × Int):=if q.1=q.2 then [(ns.getD q.1.toNat 0,0)] else hV L q (gg gs q (bf q) 0)
def lW (ns:List Int) (gs:List Sg) (lo:List (Int × Int)) (L:Int × Int→List (Int × Int)) (q:Int × Int):Prop:=L q=if fnd ns gs L q≠[]∧q∉lo then j8 (fnd ns gs L q) else []
theorem tI {kvs:List (List Key × V)} {k:List Key} {v:V} (h:k∉kvs.map (·.1)):eW kvs k v=kvs++[(k,v)]:=by
  unfold eW;rw [if_neg];intro q;obtain ⟨p,hp,e⟩:=List.any_eq_true.mp q;exact h (List.mem_map.mpr ⟨p,hp,of_decide_eq_true e⟩)
theorem gO {ps:List (Int × Int)} (h:ps≠[]):∀ x∈j8 ps,x∈ps:=fun x hx=>by
  have l:0 < ps.length:=List.length_pos_iff.mpr h;have key:∀ kf:Nat→List Int,ps.getD (a5 kf (ps.length - 1)) (0,0)∈ps:=fun kf=>by
    have:=lw kf (ps.length - 1);have hb:a5 kf (ps.length - 1) < ps.length:=by lia
    rw [aay,aad hb];exact abz hb
  simp only [j8,aao,aaM,or_false] at hx;rcases hx with rfl|rfl|rfl
  · exact key _
  · exact key _
  · exact key _
theorem n0:∀ n,n≤9→(sfl n n).Pairwise (fun p q=>p.2 - p.1≤q.2 - q.1):=by decide +kernel
theorem fJ {n i:Nat} (hn:n≤9) {p q:Int × Int} (hi:(sfl n n)[i]?=some p) (hq:0≤q.1∧q.1≤q.2∧q.2 < n) (hl:q.2 - q.1 < p.2 - p.1):q∈(sfl n n).take i:=by
  have hm:q∈sfl n n:=by
    have z:=mS n q.1.toNat q.2.toNat (by lia) (by lia);have e:((q.1.toNat:Int),(q.2.toNat:Int))=q:=by
      obtain ⟨a,b⟩:=q;simp only at *;rw [show (a.toNat:Int)=a by lia,show (b.toNat:Int)=b by lia]
    rw [e] at z;exact z
  obtain ⟨j,hj,e⟩:=aby hm;obtain ⟨hi1,hi2⟩:=aan.mp hi;by_cases c:j < i
  · rw [List.mem_iff_getElem?];exact ⟨j,by rw [List.getElem?_take];rw [if_pos c,aad hj,e]⟩
  · have hr:=abT.mp (n0 n hn);by_cases c2:i=j
    · subst c2;rw [hi2] at e;rw [e] at hl;lia
    · have:=hr i j hi1 hj (by lia);rw [hi2,e] at this;lia
theorem iA (n:Nat):∀ p∈sfl n n,0≤p.1∧p.1≤p.2∧p.2 < n:=fun p hp=>by
  unfold sfl sfR at hp;rw [ack] at hp;obtain ⟨m,hm,hp⟩:=hp;rw [List.mem_map] at hp;obtain ⟨f,hf,rfl⟩:=hp;rw [List.mem_range] at hf;simp only;lia
theorem rR:∀ n,n≤9→(sfl n n).Nodup:=by decide +kernel
theorem o0 {c L R:Int} {j:Jt}:∀ {xs:List Sg} {st:Int},j∈fD c L R xs st→j.1=c∧j.2.2.2=R∧∃ k:Nat,k < xs.length∧j.2.2.1=st+(k:Int) * (L * R)
  | [],st,h=>by simp [fD] at h
  | g :: r,st,h=>by
    rcases aao.mp h with rfl|h
    · exact ⟨rfl,rfl,0,by simp,by simp⟩
    · obtain ⟨a,b,k,hk,e⟩:=o0 h;refine ⟨a,b,k+1,by simp;lia,?_⟩;rw [e,Int.natCast_add,abI];simp only [Int.natCast_one,acb];lia
theorem iN {gs:List Sg} {p:Int × Int} {j:Jt} (g3:gs.length≤3) (hp:0≤p.1) (hp2:p.2≤8):∀ {cs:List Int} {st:Int},(∀ c∈cs,p.1≤c∧c < p.2)→0≤st→j∈gg gs p cs st→(p.1≤j.1∧j.1 < p.2)∧(0≤j.2.2.2∧j.2.2.2 < 1000000000)∧0≤j.2.2.1∧j.2.2.1≤st+(cs.length:Int) * (3 * (1000000000 * 1000000000))
  | [],st,_,_,h=>by simp [gg] at h
  | c :: cs,st,hc,h0,h=>by
    have c1:=hc c aav;have bL:=iP gs.length g3 (c - p.1+1).toNat (by lia);have bR:=iP gs.length g3 (p.2 - c).toNat (by lia);have m0:0≤Lw gs.length p c * Rw gs.length p c:=abk bL.1 bR.1;have m1:Lw gs.length p c * Rw gs.length p c≤1000000000 * 1000000000:=Int.mul_le_mul (by unfold Lw;lia) (by unfold Rw;lia) bR.1 (by decide);have g3':(gs.length:Int)≤3:=by lia
    have lc:((c :: cs).length:Int)=(cs.length:Int)+1:=by simp
    rcases aap.mp h with h|h
    · obtain ⟨a,b,k,hk,e⟩:=o0 h;rw [a,b];have k1:(k:Int) * (Lw gs.length p c * Rw gs.length p c)≤3 * (1000000000 * 1000000000):=Int.mul_le_mul (by lia) m1 m0 (by decide);have k0:0≤(k:Int) * (Lw gs.length p c * Rw gs.length p c):=abk (by lia) m0;refine ⟨c1,⟨bR.1,bR.2⟩,?_,?_⟩
      · rw [e];lia
      · rw [e,lc];have : (0:Int)≤(cs.length:Int):=by lia
        lia
    · have k1:(gs.length:Int) * (Lw gs.length p c * Rw gs.length p c)≤3 * (1000000000 * 1000000000):=Int.mul_le_mul g3' m1 m0 (by decide);have k0:0≤(gs.length:Int) * (Lw gs.length p c * Rw gs.length p c):=abk (by lia) m0;obtain ⟨a,b,d,e⟩:=iN g3 hp hp2 (fun x hx=>hc x (aai _ hx)) (by lia) h;refine ⟨a,b,d,?_⟩;rw [lc];lia
theorem kX {p:Int × Int} {c:Int} (h:c∈bf p):p.1≤c∧c < p.2:=by
  unfold bf at h;obtain ⟨k,hk,rfl⟩:=abr.mp h;have:=aaV.mp hk;lia
def bdW (q:Int × Int) (x:Int × Int):Prop:=x.1.natAbs≤10 ^ (30 * (q.2 - q.1+1).toNat)∧x.2.natAbs≤10 ^ (30 * (q.2 - q.1+1).toNat)
theorem l8 {n:Nat} (h:n≤9):10 ^ (30 * n) < 2 ^ 4000:=abA (Nat.pow_le_pow_right (by decide) (show 30 * n≤270 by lia)) (by decide +kernel)
theorem mf {H:Hp} {ps:List (Int × Int)} {us:List V} (h:PairsIn H ps us):us=[]↔ps=[]:=by
  have:=h.length;constructor
  · rintro rfl;exact ab4.mp this
  · rintro rfl;exact ab4.mp this.symm
theorem rz {α β:Type} {f g:α→List β}:∀ {l:List α},(∀ x∈l,f x=g x)→l.flatMap f=l.flatMap g
  | [],_=>rfl
  | a :: r,h=>by rw [List.flatMap_cons,List.flatMap_cons,h a aav,rz fun x hx=>h x (aai _ hx)]
theorem xw {ns:List Int} {gs:List Sg} {L L':Int × Int→List (Int × Int)} {q:Int × Int} (g3:gs.length≤3) (h0:0≤q.1) (h8:q.2≤8) (h:∀ c,q.1≤c→c < q.2→L' (q.1,c)=L (q.1,c)∧L' (c+1,q.2)=L (c+1,q.2)):fnd ns gs L' q=fnd ns gs L q:=by
  unfold fnd;split
  · rfl
  · unfold hV;refine rz fun j hj=>?_;have hb:=(iN g3 h0 h8 (fun c hc=>kX hc) (aaC 0) hj).1;obtain ⟨e1,e2⟩:=h j.1 hb.1 hb.2;unfold jp2;rw [e1,e2]
theorem bdW.bg {q x:Int × Int} (h:bdW q x) (hq:(q.2 - q.1+1).toNat≤9):Bg x.1∧Bg x.2:=⟨abA h.1 (l8 hq),abA h.2 (l8 hq)⟩
theorem vf {a b:Nat} (ha:1≤a) (hb:1≤b):10 ^ (30 * a) * 10 ^ 25+10 ^ (30 * b)+10 ^ 25≤10 ^ (30 * (a+b)):=by
  have e:10 ^ (30 * (a+b))=10 ^ (30 * a) * 10 ^ (30 * b):=by rw [← Nat.pow_add];congr 1;lia
  have h1:10 ^ 30≤10 ^ (30 * a):=Nat.pow_le_pow_right (by decide) (by lia);have h2:10 ^ 30≤10 ^ (30 * b):=Nat.pow_le_pow_right (by decide) (by lia);rw [e];generalize 10 ^ (30 * a)=x at h1 ⊢;generalize 10 ^ (30 * b)=y at h2 ⊢;have h3:x * 10 ^ 30≤x * y:=Nat.mul_le_mul_left _ h2;have h4:10 ^ 30 * y≤x * y:=abS _ h1;have a1:x * (10 ^ 25 * 4)≤x * 10 ^ 30:=Nat.mul_le_mul_left x (by decide);have a2:4 * y≤10 ^ 30 * y:=abS y (by decide);have a3:10 ^ 25 * 4≤y:=aaT (by decide) h2;have b1:=aaT a1 h3;have b2:=aaT a2 h4;rw [← Nat.mul_assoc] at b1;clear a1 a2 h1 h2 h3 h4 e;generalize x * y=m at b1 b2 ⊢;generalize x * 10 ^ 25=u at b1 ⊢;generalize 10 ^ 25=v at a3 ⊢;lia
theorem yh {p:Int × Int} {j:Jt} {a b:Int × Int} (h1:p.1≤j.1∧j.1 < p.2) (h2:0≤j.2.2.2∧j.2.2.2 < 1000000000) (h3:0≤j.2.2.1∧j.2.2.1≤10 ^ 25) (ha:bdW (p.1,j.1) a) (hb:bdW (j.1+1,p.2) b):bdW p (j.2.1.op a.1 b.1,j.2.2.1+a.2 * j.2.2.2+b.2):=by
  obtain ⟨a1,a2⟩:=ha;obtain ⟨b1,b2⟩:=hb;simp only at a1 a2 b1 b2;have el:(p.2 - p.1+1).toNat=(j.1 - p.1+1).toNat+(p.2 - (j.1+1)+1).toNat:=by lia
  have tp:=vf (a:=(j.1 - p.1+1).toNat) (b:=(p.2 - (j.1+1)+1).toNat) (by lia) (by lia);have em:10 ^ (30 * ((j.1 - p.1+1).toNat+(p.2 - (j.1+1)+1).toNat))=10 ^ (30 * (j.1 - p.1+1).toNat) * 10 ^ (30 * (p.2 - (j.1+1)+1).toNat):=by rw [← Nat.pow_add];congr 1;lia
  unfold bdW;rw [el];generalize 10 ^ (30 * (j.1 - p.1+1).toNat)=x at a1 a2 tp em ⊢;generalize 10 ^ (30 * (p.2 - (j.1+1)+1).toNat)=y at b1 b2 tp em ⊢;generalize 10 ^ (30 * ((j.1 - p.1+1).toNat+(p.2 - (j.1+1)+1).toNat))=z at tp em ⊢;refine ⟨?_,?_⟩
  · simp only;cases j.2.1 with
    | plus=>show (a.1+b.1).natAbs≤z;lia
    | minus=>show (a.1 - b.1).natAbs≤z;lia
    | times=>show (a.1 * b.1).natAbs≤z;rw [Int.natAbs_mul,em];exact abB a1 b1
  · simp only;have hm:(a.2 * j.2.2.2).natAbs≤x * 10 ^ 25:=by rw [Int.natAbs_mul];exact abB a2 (by lia)
    have h10:((10 ^ 25:Nat):Int)=(10:Int) ^ 25:=by decide
    lia
section
variable {P:Program} {w:World} {K:aaa} {mg:Str→Option Value} {base:Heap} {f:Addr} {fd:FuncData}
def tu (T:Addr):Sp:=fun vs H Q _=>∃ (r:Addr) (ns:List Int) (gs:List Sg) (l:Addr) (ul:List V) (lo:List (Int × Int)),vs=[.ref r,.str (aC gs),.ref l]∧H r=some (.lst (ns.map V.int))∧1≤ns.length∧ns.length≤9∧1≤gs.length∧gs.length≤3∧Small ns∧(H l=some (.lst ul)∨∀ H',SqT K H' l ul)∧PairsIn H lo ul∧LT T H ∧
  ∀ pk kvs (L:Int × Int→List (Int × Int)) H',But T H H'→LT T H'→H pk=none→H' pk=some (.dT kvs)→kvs.map (·.1)=(sfl ns.length ns.length).map ky→(∀ q∈sfl ns.length ns.length,PkAt H' kvs q (L q)∧lW ns gs lo L q)→Q (.ref pk) H'
abbrev br:Stmt:=top 33
theorem a8:FnScope ["row","signs","left_out","counts","picks","stretch","first","last","found"] ["row","signs","left_out"] (aj br):=⟨rfl,rfl,rfl,by decide +kernel,rfl,by decide +kernel,by decide +kernel⟩
theorem gX {T tD:Addr} (F:FunD K "picks_by_stretch" "picks_by_stretch" br f fd tD) (B:Bu K mg) (C_counts_up_to:Cal P w K mg base "counts_up_to" 2 ["signs","many"] qO) (C_shorter_first:Cal P w K mg base "shorter_first" 1 ["many"] rO) (C_joints_of:Cal P w K mg base "joints_of" 2 ["signs","counts","stretch"] jR)
    (C_join_picks:Cal P w K mg base "join_picks" 2 ["picks","joints"] wM) (C_pick_three:Cal P w K mg base "pick_three" 4 ["found"] (pT T)):FnOk P w K mg base CX0 5 f fd ["row","signs","left_out"] (tu (K:=K) T):=by
  refine F.ok a8 (fun vs H Q E h=>?_) (fun cdv A outer s H vs Q E hr h=>?_)
  · obtain ⟨r,ns,gs,l,ul,lo,rfl,_⟩:=h;rfl
  obtain ⟨r,ns,gs,l,ul,lo,rfl,er,h1,h9,g1,g3,sm,hlo,plo,hT,q⟩:=h;refine ⟨_,(@ag _ _ _ _ _ (@aD _ _ (3) _ _ _ _ (a8).nd rfl (Or.inl rfl) (@al _ _ _ _ _ _ _ _ _ _ _ C_counts_up_to hr (by lia) rfl (@aa _ _ _ _ _ (pv 1) (@aa _ _ _ _ _ (@am _ _ _ _ _ _ _ _ _ aK rfl B.ilen aaL (@aa _ _ _ _ _ (pv 0) ac (by rfl)) (by decide) (by decide) (by rfl) (by rfl)) ac (by rfl)) (by rfl)) (by decide) (by rfl) (by rfl)) (by rfl) (by first|exact .inl rfl|exact .inr rfl|assumption)) (@ag _ _ _ _ _ (@aD _ _ (4) _ _ _ _ (a8).nd rfl (Or.inl rfl) oy (by rfl) (by first|exact .inl rfl|exact .inr rfl|assumption)) (@ag _ _ _ _ _ (@dg _ _ _ _ _ _ _ _ aaS rfl (@bu _ _ _ _ (@al _ _ _ _ _ _ _ _ _ _ _ C_shorter_first hr (by lia) rfl (@aa _ _ _ _ _ (@am _ _ _ _ _ _ _ _ _ aK rfl B.ilen aaL (@aa _ _ _ _ _ (pv 0) ac (by rfl)) (by decide) (by decide) (by rfl) (by rfl)) ac (by rfl)) (by decide) (by rfl) (by rfl))) (@ao _ _ (5) _ (a8).nd rfl (Or.inl rfl) (.inl rfl)) (@ag _ _ _ _ _ (@fj _ _ _ _ _ _ (pv 5) (@eK _ _ _ _ _ _ rfl (@aQ _ _ _ _ _ (@ao _ _ (6) _ (a8).nd rfl (Or.inl rfl) (.inl rfl)) (@aQ _ _ _ _ _ (@ao _ _ (7) _ (a8).nd rfl (Or.inl rfl) (.inl rfl)) cu (by rfl)) (by rfl)) (by rfl) (by rfl)) (by rfl) (by rfl) (by rfl)) (@qP _ _ _ _ _ (@aD _ _ (8) _ _ _ _ (a8).nd rfl (Or.inl rfl) (@eM _ _ _ _ _ _ _ _ (@aJ _ _ _ _ _ _ _ _ eU (pv 6) (pv 7) (aX _)) (@au _ _ _ _ (@aa _ _ _ _ _ (@aB _ _ _ _ _ (@aa _ _ _ _ _ (@aY _ _ _ _ _ _ _ bc (pv 0) (pv 6) (fun _ _=>rfl)) (@aa _ _ _ _ _ af ac (by rfl)) (by rfl))) ac (by rfl))) (@al _ _ _ _ _ _ _ _ _ _ _ C_join_picks hr (by lia) rfl (@aa _ _ _ _ _ (pv 4) (@aa _ _ _ _ _ (@al _ _ _ _ _ _ _ _ _ _ _ C_joints_of hr (by lia) rfl (@aa _ _ _ _ _ (pv 1) (@aa _ _ _ _ _ (pv 3) (@aa _ _ _ _ _ (pv 5) ac (by rfl)) (by rfl)) (by rfl)) (by decide) (by rfl) (by rfl)) ac (by rfl)) (by rfl)) (by decide) (by rfl) (by rfl))) (by rfl) (by first|exact .inl rfl|exact .inr rfl|assumption)) (@ai _ _ _ (@jK _ _ _ _ _ _ _ _ _ (u1 hr.units) (pv 4) (pv 5) (@eM _ _ _ _ _ _ _ _ (@PW.pt _ _ _ (@qe _ _ _ _ _ _ _ (@eI _ _ _ (pv 8) (fun _=>rfl)) (@mV _ _ _ _ (@aJ _ _ _ _ _ _ _ _ (@qg _ _ rfl hr.units) (pv 5) (pv 2) (by with_unfolding_all rfl))))) (@al _ _ _ _ _ _ _ _ _ _ _ C_pick_three hr (by lia) rfl (@aa _ _ _ _ _ (pv 8) ac (by rfl)) (by decide) (by rfl) (by rfl)) (@aB _ _ _ _ _ ac)) rfl)))) (by intro _;rfl)) (@ai _ _ _ (@az _ _ _ _ (pv 4)))))),?_⟩;have hl:(ns.map V.int).length=ns.length:=aak _;have zl:(aC gs).length=gs.length:=jI gs;have t2:(2:Nat)≤sizeLine:=by decide
  refine ⟨_,rfl,_,rfl,r,_,rfl,.inl (SqL.of er),?_⟩;rw [hl];refine ⟨aC gs,ns.length,rfl,by rw [zl];exact g3,by lia,by lia,fun pc H1 s1 npc ec=>?_⟩;rw [zl,show (((ns.length:Nat):Int) - 1).toNat=ns.length - 1 by lia] at ec;refine fun pk nk=>?_;have sk:=Same.new nk (.dT []);have ek0:upd H1 pk (.dT []) pk=some (.dT []):=ae;generalize upd H1 pk (.dT [])=H2 at sk ek0 ⊢;refine ⟨_,rfl,r,_,rfl,.inl (SqL.of ((s1.trans sk) _ _ er)),?_⟩;rw [hl];refine ⟨ns.length,rfl,h9,fun pl us H3 s3 npl epl hus=>?_⟩;have S3:=(s1.trans sk).trans s3;have nkH:H pk=none:=s1.free nk;obtain ⟨tp0,T0⟩:=hT;have npkT:pk≠T:=fun e=>by rw [e,T0.tab] at nkH;cases nkH
  have nplT:pl≠T:=fun e=>by rw [e,(s1.trans sk) _ _ T0.tab] at npl;cases npl
  have nplk:pl≠pk:=fun e=>by rw [e,ek0] at npl;cases npl
  have npcT:pc≠T:=fun e=>by rw [e,T0.tab] at npc;cases npc
  have npck:pc≠pk:=ak ec nk;have nrT:r≠T:=fun e=>by rw [e,T0.tab] at er;cases er
  have nrk:r≠pk:=ak er nkH;have lus:=hus.length;have l81:=jJ ns.length ns.length;have l81':ns.length * ns.length≤9 * 9:=abB h9 h9;have LT3:LT T H3:=⟨tp0,S3 _ _ T0.tab,T0.tri,fun pos' cv hc=>by obtain ⟨d,e1,e2⟩:=T0.cds pos' cv hc;exact ⟨d,e1,S3 _ _ e2⟩⟩
  refine ⟨pl,rfl,⟨_,SqL.of epl⟩,kT (xs:=us) (fun i σ H'=>∃ (kvs:List (List Key × V)) (L:Int × Int→List (Int × Int)) (c5 c6 c7 c8:Option V),σ=[some (.ref r),some (.str (aC gs)),some (.ref l),some (.ref pc),some (.ref pk),c5,c6,c7,c8]∧(∀ b o,b≠pk→b≠T→H3 b=some o→H' b=some o)∧LT T H'∧H' pk=some (.dT kvs)∧kvs.map (·.1)=((sfl ns.length ns.length).take i).map ky∧(∀ q,(L q).length≤3∧(q∉(sfl ns.length ns.length).take i→L q=[])∧∀ x∈L q,bdW q x)∧∀ q∈(sfl ns.length ns.length).take i,PkAt H' kvs q (L q)∧lW ns gs lo L q)
    ⟨[],fun _=>[],_,_,_,_,rfl,fun b o _ _ h=>h,LT3,s3 _ _ ek0,by simp,fun q=>⟨by simp,fun _=>rfl,fun x hx=>by simp at hx⟩,fun q hq=>by simp at hq⟩ ?_ ?_ ?_⟩
  · rintro i σ H' _ ⟨_,_,_,_,_,_,rfl,kp,_⟩;exact SqL.of (kp _ _ nplk nplT epl)
  · rintro i x σ H4 hx ⟨kvs,L,c5,c6,c7,c8,rfl,kp,lt,ek,lk,hL,hq⟩;obtain ⟨p,hpi,hpx0⟩:=cF hus hx;have ilt:i < us.length:=(aan.mp hx).1;have hpm:=iA ns.length p (aax hpi);have TT:Tups H3 H4:=fun b xs hb=>kp b _ (fun e=>by rw [e,s3 _ _ ek0] at hb;cases hb) (fun e=>by rw [e,S3 _ _ T0.tab] at hb;cases hb) hb;have hpx:=PairIn.mono TT hpx0;have hpx':=hpx;obtain ⟨bp,rfl,ebp⟩:=hpx;have er4:=kp _ _ nrk nrT (S3 _ _ er);have ec4:=kp _ _ npck npcT ((sk.trans s3) _ _ ec);have pnew:p∉(sfl ns.length ns.length).take i:=fun z=>by
      obtain ⟨k,hk⟩:=List.mem_iff_getElem?.mp z;have hk1:k < i:=by
        have:=(aan.mp hk).1;rw [aaz] at this;lia
      rw [abZ hk1] at hk;obtain ⟨h1',e1'⟩:=aan.mp hk;obtain ⟨h2',e2'⟩:=aan.mp hpi;exact abT.mp (rR ns.length h9) k i h1' h2' hk1 (by rw [e1',e2'])
    have etake:(sfl ns.length ns.length).take (i+1)=(sfl ns.length ns.length).take i++[p]:=by rw [aaR,hpi];rfl
    have part:∀ q,q.1≤q.2→q∈(sfl ns.length ns.length).take (i+1)→∀ z:Int × Int,z.2 - z.1 < q.2 - q.1→z≠p:=fun q _ hqm z hz e=>by
      subst e;rw [etake] at hqm;rcases aap.mp hqm with hm|hm
      · obtain ⟨k,hk⟩:=List.mem_iff_getElem?.mp hm;have hk1:k < i:=by
          have:=(aan.mp hk).1;rw [aaz] at this;lia
        rw [abZ hk1] at hk;obtain ⟨h1',e1'⟩:=aan.mp hk;obtain ⟨h2',e2'⟩:=aan.mp hpi;have:=abT.mp (n0 ns.length h9) k i h1' h2' hk1;rw [e1',e2'] at this;lia
      · rw [aam.mp hm] at hz;lia
    have lk':kvs.length≤i:=by have:=congrArg List.length lk;rw [aak,aak,aaz] at this;lia
    have fin:∀ (ls:List (Int × Int)) (t:Addr) (xs:List V) (H5:Hp) (d6 d7 d8:Option V),(∀ b o,b≠pk→b≠T→H4 b=some o→H5 b=some o)→LT T H5→H5 pk=some (.dT kvs)→H5 t=some (.tup xs)→PairsIn H5 ls xs→ls.length≤3→(∀ x∈ls,bdW p x)→(ls=if fnd ns gs L p≠[]∧p∉lo then j8 (fnd ns gs L p) else []) →
        ∃ H6,DPut H5 pk (.ref bp) (.ref t) H6∧∃ (kvs:List (List Key × V)) (L:Int × Int→List (Int × Int)) (c5 c6 c7 c8:Option V),[some (V.ref r),some (.str (aC gs)),some (.ref l),some (.ref pc),some (.ref pk),some (.ref bp),d6,d7,d8]=[some (.ref r),some (.str (aC gs)),some (.ref l),some (.ref pc),some (.ref pk),c5,c6,c7,c8]∧(∀ b o,b≠pk→b≠T→H3 b=some o→H6 b=some o)∧LT T H6∧H6 pk=some (.dT kvs)∧kvs.map (·.1)=((sfl ns.length ns.length).take (i+1)).map ky∧(∀ q,(L q).length≤3∧(q∉(sfl ns.length ns.length).take (i+1)→L q=[])∧∀ x∈L q,bdW q x)∧∀ q∈(sfl ns.length ns.length).take (i+1),PkAt H6 kvs q (L q)∧lW ns gs lo L q:=fun ls t xs H5 d6 d7 d8 k5 lt5 ek5 et5 hp5 l3 hb he=>by
      have ntk:t≠pk:=fun e=>by rw [e,ek5] at et5;cases et5
      have T45:Tups H4 H5:=fun b ys hb=>k5 b _ (fun e=>by rw [e,ek] at hb;cases hb) (fun e=>by obtain ⟨tp,lt⟩:=lt;rw [e,lt.tab] at hb;cases hb) hb;have T56:Tups H5 (upd H5 pk (.dT (eW kvs (ky p) (.ref t)))):=fun b ys hb=>by rw [aw (fun e=>by rw [e,ek5] at hb;cases hb)];exact hb
      have fe:∀ q∈(sfl ns.length ns.length).take (i+1),fnd ns gs (fun q'=>if q'=p then ls else L q') q=fnd ns gs L q:=fun q hqm=>by
        have hg:=iA ns.length q (abD hqm);refine xw g3 hg.1 (by lia) fun c h1 h2=>⟨?_,?_⟩
        · rw [if_neg (part q hg.2.1 hqm _ (by simp only;lia))]
        · rw [if_neg (part q hg.2.1 hqm _ (by simp only;lia))]
      refine ⟨_,DPut.t (k:=ky p) ek5 (T45 _ _ ebp) (aU (by lia)),eW kvs (ky p) (.ref t),fun q'=>if q'=p then ls else L q',_,_,_,_,rfl,fun b o h1 h2 h3=>?_,?_,ae,?_,fun q=>?_,fun q hqm=>?_⟩
      · rw [aw h1];exact k5 _ _ h1 h2 (kp _ _ h1 h2 h3)
      · obtain ⟨tp,h⟩:=lt5;refine ⟨tp,by rw [aw npkT.symm];exact h.tab,h.tri,fun pos' cv hc=>?_⟩;obtain ⟨d,e1,e2⟩:=h.cds pos' cv hc;exact ⟨d,e1,by rw [aw (fun e=>by rw [e,ek5] at e2;cases e2)];exact e2⟩
      · rw [tI (fun z=>by rw [lk] at z;obtain ⟨q',hq',e⟩:=abr.mp z;exact pnew (qr e ▸ hq')),aaK,lk,etake,aaK];rfl
      · by_cases e:q=p
        · subst e;simp only [if_true];refine ⟨l3,fun z=>absurd (by rw [etake];simp) z,hb⟩
        · simp only [if_neg e];refine ⟨(hL q).1,fun z=>(hL q).2.1 fun y=>z (by rw [etake];exact aaG _ y),(hL q).2.2⟩
      · have fq:=fe q hqm;rw [etake] at hqm;rcases aap.mp hqm with hm|hm
        · have ne:q≠p:=fun e=>pnew (e ▸ hm);obtain ⟨⟨t0,xs0,v0,e0,p0⟩,pe⟩:=hq q hm;refine ⟨⟨t0,xs0,?_,T56 _ _ (T45 _ _ e0),?_⟩,?_⟩
          · rw [jO,if_neg (fun e=>ne (qr e))];exact v0
          · simp only [if_neg ne];exact PairsIn.mono (T45.trans T56) p0
          · unfold lW;rw [fq];simp only [if_neg ne];exact pe
        · have e:=aam.mp hm;subst e;refine ⟨⟨t,xs,?_,T56 _ _ et5,?_⟩,?_⟩
          · rw [jO,if_pos rfl]
          · simp only [if_true];exact PairsIn.mono T56 hp5
          · unfold lW;rw [fq];simp only [if_true];exact he
    refine ⟨_,rfl,bp,_,rfl,SqT.of ebp,rfl,_,_,rfl,_,_,rfl,rfl,?_⟩;have fbd:∀ x∈fnd ns gs L p,bdW p x:=fun x hx=>by
      unfold fnd at hx;split at hx
      · rename_i e;rw [aam.mp hx];have e1:(p.2 - p.1+1).toNat=1:=by lia
        have hi:p.1.toNat < ns.length:=by lia
        have hm:=sm _ (abz hi);unfold bdW;rw [e1,aay,aad hi];have e10:(10:Nat) ^ (30 * 1)=1000000000000000000000000000000:=by decide
        rw [e10];refine ⟨?_,by show (0:Int).natAbs≤_;decide⟩;show (ns[p.1.toNat]).natAbs≤_;lia
      · unfold hV at hx;obtain ⟨j,hj,hx⟩:=List.mem_flatMap.mp hx;unfold jp2 jp1 at hx;obtain ⟨a,ha,hx⟩:=List.mem_flatMap.mp hx;obtain ⟨b,hb,rfl⟩:=abr.mp hx;obtain ⟨j1,j2,j3,j4⟩:=iN g3 hpm.1 (by lia) (fun c hc=>kX hc) (aaC 0) hj;have lc:((bf p).length:Int)≤8:=by
          have : (bf p).length=(p.2 - p.1).toNat:=by simp [bf]
          lia
        have e25:(10:Int) ^ 25=10000000000000000000000000:=by decide
        exact yh j1 j2 ⟨j3,by rw [e25];lia⟩ ((hL _).2.2 a ha) ((hL _).2.2 b hb)
    refine ⟨fun σ H5=>∃ pf uf,σ=[some (.ref r),some (.str (aC gs)),some (.ref l),some (.ref pc),some (.ref pk),some (.ref bp),some (.int p.1),some (.int p.2),some (.ref pf)]∧Same H4 H5∧H5 pf=some (.lst uf)∧PairsIn H5 (fnd ns gs L p) uf,?_,?_⟩
    · refine ⟨_,rfl,_,rfl,rfl,_,rfl,dQ (fun ce=>?_) (fun ce=>?_)⟩
      · have ce:V.int p.1=V.int p.2:=of_decide_eq_true ce;injection ce with ce
        have hi:p.1.toNat < ns.length:=by lia
        have ea:atI (ns.map V.int) p.1=some (.int (ns.getD p.1.toNat 0)):=by
          have h:atI (ns.map V.int) ((p.1.toNat:Nat):Int)=some (.int (ns.getD p.1.toNat 0)):=iR (by rw [aaX,aad hi,aay,aad hi];rfl)
          rwa [show ((p.1.toNat:Nat):Int)=p.1 by lia] at h
        refine ⟨_,rfl,_,rfl,r,_,_,_,rfl,rfl,SqL.of er4,ea,t2,fun t ht=>⟨(by show 1≤sizeLine;decide),fun u hu=>?_⟩⟩;have st:=Same.new ht (.tup [.int (ns.getD p.1.toNat 0),.int 0]);have su:=Same.new hu (.lst [.ref t]);refine ⟨u,_,rfl,st.trans su,ae,?_⟩;unfold fnd;rw [if_pos ce];exact .cons ⟨t,rfl,su _ _ ae⟩ .nil
      · have ce:p.1≠p.2:=fun z=>ce (by rw [z];exact decide_eq_true rfl);refine ⟨_,rfl,_,rfl,_,rfl,_,rfl,gs,pc,ns.length - 1,p,_,rfl,g3,ec4,by lia,hpx',hpm.1,hpm.2.1,by lia,fun pj uj H5 s5 npj ej hj=>?_⟩;have lj:(gg gs p (bf p) 0).length≤24:=by
          rw [kN];have : (bf p).length=(p.2 - p.1).toNat:=by simp [bf]
          exact aaT (abB (show (bf p).length≤8 by lia) g3) (by decide)
        refine ⟨pk,pj,kvs,uj,p,gg gs p (bf p) 0,L,rfl,s5 _ _ ek,ej,hj,lj,fun j hj'=>?_,fun q'=>⟨(hL q').1,fun x hx=>?_⟩,fun a vs H6 s6 na ea hp6=>?_⟩
        · obtain ⟨j1,j2,_,_⟩:=iN g3 hpm.1 (by lia) (fun c hc=>kX hc) (aaC 0) hj';have m1:=fJ h9 hpi (q:=(p.1,j.1)) ⟨hpm.1,by lia,by simp only;lia⟩ (by simp only;lia);have m2:=fJ h9 hpi (q:=(j.1+1,p.2)) ⟨by simp only;lia,by simp only;lia,hpm.2.2⟩ (by simp only;lia);refine ⟨PkAt.mono (Tups.of s5) (hq _ m1).1,PkAt.mono (Tups.of s5) (hq _ m2).1,?_⟩;have b9:(1000000000:Nat) < 2 ^ 4000:=by decide +kernel
          exact ab1 (by lia) b9
        · by_cases e:q'∈(sfl ns.length ns.length).take i
          · have hg:=iA ns.length q' (abD e);exact ((hL q').2.2 x hx).bg (by lia)
          · rw [(hL q').2.1 e] at hx;simp at hx
        · refine ⟨a,vs,rfl,s5.trans s6,ea,?_⟩;unfold fnd;rw [if_neg ce];exact hp6
    · rintro σ H5 ⟨pf,uf,rfl,s5,ef,hf⟩;have k5:∀ b o,b≠pk→b≠T→H4 b=some o→H5 b=some o:=fun b o _ _ h=>s5 _ _ h;have lt5:LT T H5:=by
        obtain ⟨tp,h⟩:=lt;exact ⟨tp,s5 _ _ h.tab,h.tri,fun pos' cv hc=>by obtain ⟨d,e1,e2⟩:=h.cds pos' cv hc;exact ⟨d,e1,s5 _ _ e2⟩⟩
      have lo5:PairsIn H5 lo ul:=PairsIn.mono (((Tups.of S3).trans TT).trans (Tups.of s5)) plo;have hlo5:SqL K H5 l ul∨SqT K H5 l ul:=by
        rcases hlo with h|h
        · exact .inl (SqL.of (s5 _ _ (kp _ _ (ak h nkH) (fun e=>by rw [e,T0.tab] at h;cases h) (S3 _ _ h))))
        · exact .inr (h H5)
      have ek5:=s5 _ _ ek;have hfl:=hf.length;refine ⟨_,rfl,!uf.isEmpty,.inl ⟨uf,SqL.of ef,rfl⟩,?_⟩;have empty:(¬ (fnd ns gs L p≠[]∧p∉lo))→∀ t,H5 t=none→∃ H6,DPut (upd H5 t (.tup [])) pk (.ref bp) (.ref t) H6∧_:=fun hn t ht=>fin [] t [] (upd H5 t (.tup [])) (some (.int p.1)) (some (.int p.2)) (some (.ref pf)) (fun b o _ _ h=>Same.new ht _ _ _ (s5 _ _ h)) (by
          obtain ⟨tp,h⟩:=lt5;exact ⟨tp,Same.new ht _ _ _ h.tab,h.tri,fun pos' cv hc=>by obtain ⟨d,e1,e2⟩:=h.cds pos' cv hc;exact ⟨d,e1,Same.new ht _ _ _ e2⟩⟩) (Same.new ht _ _ _ ek5) ae .nil (by decide) (fun x hx=>by simp at hx) (by rw [if_neg hn])
      have t0:(0:Nat)≤sizeLine:=by decide
      cases uf with
      | nil =>
        have e0:fnd ns gs L p=[]:=(mf hf).mp rfl;refine aV ⟨t0,fun t ht=>?_⟩;obtain ⟨H6,d6,w6⟩:=empty (fun z=>z.1 e0) t ht;exact ⟨_,rfl,_,rfl,pk,H6,rfl,d6,w6⟩
      | cons u0 ur =>
        have hne:fnd ns gs L p≠[]:=fun z=>by have:=(mf hf).mpr z;cases this
        refine cD ⟨_,rfl,_,rfl,p,l,ul,lo,PairIn.mono (Tups.of s5) hpx',rfl,hlo5,lo5,_,rfl,dQ (fun cn'=>?_) (fun cn'=>?_)⟩
        · have cn':p∉lo:=by simpa using cn'
          refine ⟨_,rfl,pf,u0 :: ur,fnd ns gs L p,rfl,ef,hf,by simp,lt5,fun t x y z H6 b6 nt lt6 et hx hy hz=>?_⟩;have T56:Tups H5 H6:=fun b ys hb=>b6 b _ (fun e=>by obtain ⟨tp,h⟩:=lt5;rw [e,h.tab] at hb;cases hb) hb;have one:∀ {k:Nat} {v:V},(u0 :: ur)[k]?=some v→PairIn H6 ((fnd ns gs L p).getD k (0,0)) v:=fun {k v} h=>by
            obtain ⟨p',e1,h1⟩:=cF hf h;rw [aay,e1];exact PairIn.mono T56 h1
          rw [← hfl] at hx hy hz;have ek6:=b6 _ _ npkT ek5;obtain ⟨H7,d7,w7⟩:=fin (j8 (fnd ns gs L p)) t [x,y,z] H6 (some (.int p.1)) (some (.int p.2)) (some (.ref pf)) (fun b o _ h2 h=>b6 _ _ h2 (s5 _ _ h)) lt6 ek6 et (.cons (one hx) (.cons (one hy) (.cons (one hz) .nil))) (aae 3) (fun x hx=>fbd x (gO hne x hx)) (by rw [if_pos ⟨hne,cn'⟩]);exact ⟨_,rfl,_,rfl,pk,H7,rfl,d7,w7⟩
        · have cn':p∈lo:=by simpa using cn'
          refine ⟨t0,fun t ht=>?_⟩;obtain ⟨H6,d6,w6⟩:=empty (fun z=>z.2 cn') t ht;exact ⟨_,rfl,_,rfl,pk,H6,rfl,d6,w6⟩
  · rintro σ H' ⟨kvs,L,_,_,_,_,rfl,kp,lt,ek,lk,hL,hq⟩;rw [← lus,aa5] at hq lk;refine ⟨_,rfl,q pk kvs L H' (fun b o hb e=>?_) lt nkH ek lk hq⟩;exact kp _ _ (ak e nkH) hb (S3 _ _ e)
end
open PySem L2
theorem jB {kf kf':Nat→List Int}:∀ n,(∀ i,i≤n→kf i=kf' i)→a5 kf n=a5 kf' n
  | 0,_=>rfl
  | n+1,h=>by
    have ih:=jB n fun i hi=>h i (by lia);unfold a5;rw [ih,h (n+1) (aae _),h (a5 kf' n) (by have:=lw kf' n;lia)]
theorem sJ (key:Int × Int→List Int) {ps:List (Int × Int)} {i:Nat} (h:i < ps.length):c_ key ps i=key (ps.getD i (0,0)):=by
  unfold c_;rw [aad h,aay,aad h];rfl
def Ends (L:Int × Int→List (Int × Int)) (q:Int × Int) (lo hi:Int):Prop:=∃ f a b,L q=[f,a,b]∧a.1=lo∧b.1=hi∧lo≤f.1∧f.1≤hi∧lo≤hi
def two (p:Int × Int):List Int:=[p.1,p.2]
open PySem L2
theorem rJ {q:Int × Int} {c:Int} (h:c∈bf q):q.1≤c∧c < q.2:=by
  unfold bf at h;obtain ⟨k,hk,rfl⟩:=abr.mp h;have:=aaV.mp hk;lia
open PySem L2
mutual
def szD:PyData→Nat
  | .list ds=>szAll ds+1
  | .tuple ds=>szAll ds+1
  | .none=>1
  | .bool _=>1
  | .int _=>1
  | .str _=>1
  | .dict _=>1
def szAll:List PyData→Nat
  | []=>0
  | d :: ds=>szD d+szAll ds
end
mutual
def OkD:PyData→Prop
  | .none=>True
  | .bool _=>True
  | .int i=>i.natAbs < 10 ^ 40
  | .str x=>(reprText x).length≤20
  | .list ds=>OkAll ds
  | .tuple ds=>OkAll ds
  | .dict kvs=>kvs=[]
def OkAll:List PyData→Prop
  | []=>True
  | d :: ds=>OkD d∧OkAll ds
end
mutual
theorem qW : ∀ d:PyData,OkD d→d.showable=true
  | .none,h=>by simp [abn]
  | .bool _,h=>by simp [abn]
  | .int i,h=>by
    simp only [OkD] at h;have z:(10:Nat) ^ 13 < 2 ^ 140:=by decide
    have : i.natAbs.log2 < 140:=by
      by_cases c:i.natAbs=0
      · rw [c];decide
      · exact (Nat.log2_lt c).mpr (by lia)
    simp only [abn];exact decide_eq_true (by lia)
  | .str _,h=>by simp [abn]
  | .list ds,h=>by simp only [OkD] at h;simp only [abn];exact ok_showAll ds h
  | .tuple ds,h=>by simp only [OkD] at h;simp only [abn];exact ok_showAll ds h
  | .dict kvs,h=>by simp only [OkD] at h;subst h;simp [abn,PyData.showableKv]
theorem ok_showAll:∀ ds:List PyData,OkAll ds→ab7 ds=true
  | [],h=>by simp [ab7]
  | d :: ds,h=>by
    simp only [OkAll] at h;simp only [ab7,qW d h.1,ok_showAll ds h.2,Bool.and_self]
end
mutual
theorem tY:∀ d:PyData,OkD d→d.shown.length+5≤60 * szD d
  | .none,h=>by show 4+5≤60 * szD .none;simp [szD]
  | .bool b,h=>by cases b <;> (simp only [szD];decide)
  | .int i,h=>by
    simp only [OkD] at h;have e:=int_text_length_le10 (a:=i) (k:=40) (by decide) h;simp only [szD];show (Str.ofString (toString i)).length+5≤60;rw [ofString_length];lia
  | .str x,h=>by
    simp only [OkD] at h;simp only [szD,PyData.shown];lia
  | .list ds,h=>by
    simp only [OkD] at h;have a:=ok_lenAll ds h;have b:=listText_len_le (abH ds);have c:=PyData.shownAll_length ds;simp only [szD,PyData.shown];lia
  | .tuple ds,h=>by
    simp only [OkD] at h;have a:=ok_lenAll ds h;have b:=tupleText_len_le (abH ds);have c:=PyData.shownAll_length ds;simp only [szD,PyData.shown];lia
  | .dict kvs,h=>by
    simp only [OkD] at h;subst h;simp only [szD];show (PyData.shown (.dict [])).length+5≤60;decide +kernel
theorem ok_lenAll:∀ ds:List PyData,OkAll ds→((abH ds).map (·.length)).sum+5 * ds.length≤60 * szAll ds
  | [],h=>by simp [abH,szAll]
  | d :: ds,h=>by
    simp only [OkAll] at h;have a:=tY d h.1;have b:=ok_lenAll ds h.2;simp only [abH,szAll,aaH,abJ,aaF];lia
end
def iC:PyData→Nat
  | .list ds=>ds.length
  | _=>0
theorem o7 {H:Hp}:∀ {ds:List PyData} {xs:List V},DatAll H ds xs→ds.all bH=true→∃ ns:List Int,xs=ns.map V.int
  | [],xs,h,_=>by simp only [DatAll] at h;subst h;exact ⟨[],rfl⟩
  | d :: ds,xs,h,a=>by
    simp only [DatAll] at h;obtain ⟨v,r,rfl,h1,h2⟩:=h;simp only [List.all_cons,abt] at a;obtain ⟨ns,rfl⟩:=o7 h2 a.2;cases d with
    | int i =>
      have e:v=.int i:=by simpa only [Dat] using h1
      subst e;exact ⟨i :: ns,rfl⟩
    | _=>exact absurd a.1 (by simp [bH])
theorem i_ {d:PyData} {H:Hp} {v:V} (h:bt d=true) (hd:Dat H d v):∃ (a:Addr) (ns:List Int),v=.ref a∧H a=some (.lst (ns.map V.int))∧1≤ns.length∧ns.length≤9∧ns.length=iC d:=by
  cases d with
  | list ds =>
    have h':(decide (1≤ds.length) && decide (ds.length≤9) && ds.all bH)=true:=h;simp only [abt,decide_eq_true_eq] at h';simp only [Dat] at hd;obtain ⟨a,xs,rfl,ha,hx⟩:=hd;obtain ⟨ns,rfl⟩:=o7 hx h'.2;have:=hx.len;rw [aak] at this;exact ⟨a,ns,rfl,ha,by lia,by lia,this.symm⟩
  | _=>exact absurd h (by simp [bt])
theorem mR {d:PyData} {H:Hp} {v:V} (h:cE d=true) (hd:Dat H d v):∃ gs:List Sg,v=.str (aC gs)∧dm gs∧1≤gs.length∧gs.length≤3:=by
  cases d with
  | str z =>
    have e:v=.str z:=by simpa only [Dat] using hd
    subst e;have h':inV (.str z) iY=true:=h;have all:∀ y∈iY,∃ gs:List Sg,y=.str (aC gs)∧dm gs∧1≤gs.length∧gs.length≤3:=by
      intro y hy;simp only [iY,aao,aaM,or_false] at hy;rcases hy with rfl|rfl|rfl|rfl|rfl|rfl|rfl
      · exact ⟨[.plus],by decide +kernel,by unfold dm;decide +kernel,by decide,by decide⟩
      · exact ⟨[.minus],by decide +kernel,by unfold dm;decide +kernel,by decide,by decide⟩
      · exact ⟨[.times],by decide +kernel,by unfold dm;decide +kernel,by decide,by decide⟩
      · exact ⟨[.plus,.minus],by decide +kernel,by unfold dm;decide +kernel,by decide,by decide⟩
      · exact ⟨[.plus,.times],by decide +kernel,by unfold dm;decide +kernel,by decide,by decide⟩
      · exact ⟨[.minus,.times],by decide +kernel,by unfold dm;decide +kernel,by decide,by decide⟩
      · exact ⟨[.plus,.minus,.times],by decide +kernel,by unfold dm;decide +kernel,by decide,by decide⟩
    unfold inV at h';rw [List.any_eq_true] at h';obtain ⟨y,hy,e⟩:=h';obtain ⟨gs,rfl,g⟩:=all y hy;have e2:decide (aC gs=z)=true:=by simpa [eqV] using e
    rw [← of_decide_eq_true e2];exact ⟨gs,rfl,g⟩
  | _=>exact absurd h (by simp [cE])
structure Xc (K:aaa) (mg:Str→Option Value) (aP aR aS aH:Addr):Prop where
  mPutError:mg "PutError" = some (.ref aP)
  mNoRow:mg "NoRow" = some (.ref aR)
  mNoSigns:mg "NoSigns" = some (.ref aS)
  mNoHolds:mg "NoHolds" = some (.ref aH)
  eNoRow:EC K aR
  eNoSigns:EC K aS
  eNoHolds:EC K aH
  uNoRow:Und K aR aP
  uNoSigns:Und K aS aP
  uNoHolds:Und K aH aP
def cI:PyData→Bool
  | .tuple [a,b]=>bH a && bH b
  | _=>false
def bh (n:Int):PyData→Bool
  | .tuple [.int a,.int b]=>decide (0≤a∧a < b∧b < n)
  | _=>false
def cb (n:Int):PyData→Bool
  | .list ds=>decide (ds.length≤40) && ds.all (bh n)
  | _=>false
def bW (n:Int):PyData→Bool
  | .tuple [a,b]=>cb n a && cb n b
  | _=>false
def df:PyData→Bool
  | .int i=>decide (1≤i∧i≤9)
  | _=>false
def mnD:PyData→Int
  | .int i=>i
  | _=>0
theorem yq {H:Hp} {ds:List PyData} {xs:List V} (h:DatAll H ds xs) (h2:xs.length=2):∃ l r y z,ds=[l,r]∧xs=[y,z]∧Dat H l y∧Dat H r z:=by
  have hl:=h.len;cases ds with
  | nil=>simp at hl;lia
  | cons l ds=>cases ds with
    | nil=>simp at hl;lia
    | cons r ds=>cases ds with
      | cons _ _=>simp at hl;lia
      | nil =>
        simp only [DatAll] at h;obtain ⟨y,_,rfl,h1,z,_,rfl,h2',rfl⟩:=h;exact ⟨l,r,y,z,rfl,rfl,h1,h2'⟩
theorem qT {d:PyData} {n:Int} (h:cI d=false):bh n d=false:=by
  cases d with
  | tuple ds =>
    match ds with
    | []=>simp [bh]
    | [_]=>simp [bh]
    | [a,b]=>cases a <;> cases b <;> first|rfl|simp [cI,bH] at h
    | _ :: _ :: _ :: _=>simp [bh]
  | _=>rfl
theorem qU {dd:PyData} (c1:cI dd=true):∃ i j,dd=.tuple [.int i,.int j]:=by
  cases dd with
  | tuple l =>
    match l with
    | [a,b] =>
      cases a <;> cases b <;> first|exact ⟨_,_,rfl⟩|simp [cI,bH] at c1
    | []=>simp [cI] at c1
    | [_]=>simp [cI] at c1
    | _ :: _ :: _ :: _=>simp [cI] at c1
  | _=>simp [cI] at c1
theorem xV {n:Int} {dd:PyData} (h:bh n dd=true):∃ p:Int × Int,dd=.tuple [.int p.1,.int p.2]∧Gp n p:=by
  cases c:cI dd with
  | false=>rw [qT c] at h;cases h
  | true =>
    obtain ⟨i,j,rfl⟩:=qU c;exact ⟨(i,j),rfl,show 0≤i∧i < j∧j < n from of_decide_eq_true (show decide (0≤i∧i < j∧j < n)=true from h)⟩
theorem s_ {n:Int} {H:Hp}:∀ {ds:List PyData} {us:List V},ds.all (bh n)=true→DatAll H ds us→∃ ps:List (Int × Int),ps.length=ds.length∧PairsIn H ps us∧∀ p∈ps,Gp n p
  | [],us,_,h=>by
    simp only [DatAll] at h;subst h;exact ⟨[],rfl,.nil,fun p hp=>by cases hp⟩
  | d :: ds,us,ha,h=>by
    rw [List.all_cons,abt] at ha;simp only [DatAll] at h;obtain ⟨v,r,rfl,h1,h2⟩:=h;obtain ⟨p,rfl,gp⟩:=xV ha.1;obtain ⟨ps,e,pi,g⟩:=s_ ha.2 h2;simp only [Dat,DatAll] at h1;obtain ⟨a,_,rfl,ea,_,_,rfl,rfl,_,_,rfl,rfl,rfl⟩:=h1;exact ⟨p :: ps,by simp [e],.cons ⟨a,rfl,ea⟩ pi,fun q hq=>by
      rcases aao.mp hq with rfl|hq
      · exact gp
      · exact g q hq⟩
theorem wc {n:Int} {H:Hp} {d:PyData} {v:V} (h:cb n d=true) (hd:Dat H d v):∃ ps,StIn H ps v∧Gs n ps:=by
  cases d with
  | list ds =>
    have h:(decide (ds.length≤40) && ds.all (bh n))=true:=h;rw [abt] at h;simp only [Dat] at hd;obtain ⟨a,us,rfl,ea,ha⟩:=hd;obtain ⟨ps,e,pi,g⟩:=s_ h.2 ha;exact ⟨ps,⟨a,us,rfl,ea,pi⟩,by rw [e];exact of_decide_eq_true h.1,g⟩
  | _=>simp [cb] at h
theorem rh {n:Int} {H:Hp} {d:PyData} {v:V} (h:bW n d=true) (hd:Dat H d v):∃ ps qs,HdIn H ps qs v∧Gs n ps∧Gs n qs:=by
  cases d with
  | tuple ds =>
    match ds with
    | [a,b] =>
      have h:(cb n a && cb n b)=true:=h;rw [abt] at h;simp only [Dat,DatAll] at hd;obtain ⟨t,_,rfl,et,x,_,rfl,hx,y,_,rfl,hy,rfl⟩:=hd;obtain ⟨ps,p1,p2⟩:=wc h.1 hx;obtain ⟨qs,q1,q2⟩:=wc h.2 hy;exact ⟨ps,qs,⟨t,x,y,rfl,et,p1,q1⟩,p2,q2⟩
    | []=>simp [bW] at h
    | [_]=>simp [bW] at h
    | _ :: _ :: _ :: _=>simp [bW] at h
  | _=>simp [bW] at h
section
variable {P:Program} {w:World} {K:aaa} {mg:Str→Option Value} {base:Heap} {f:Addr} {fd:FuncData}
def h_ (aR:Addr):Sp:=fun vs H Q E=>∃ d v,vs=[v]∧Dat H d v∧(bt d=true→∀ H',Same H H'→Q .non H')∧(bt d=false→∀ H',Same H H'→E (.ref aR) none H')
abbrev ii:Stmt:=top 20
theorem oh:FnScope ["thing"] ["thing"] (aj ii):=⟨rfl,rfl,rfl,by decide +kernel,rfl,by decide +kernel,by decide +kernel⟩
theorem mY {aP aR aS aH:Addr} (F:Fun K "need_row" "need_row" ii f fd) (XC:Xc K mg aP aR aS aH) (C_is_row:Cal P w K mg base "is_row" 2 ["thing"] mK):FnOk P w K mg base (CX1 P w) 3 f fd ["thing"] (h_ aR):=by
  refine Fun.ok1 F oh (fun vs H Q E h=>?_) (fun cdv A outer s H vs Q E hr h=>?_)
  · obtain ⟨d,v,rfl,_⟩:=h;rfl
  obtain ⟨d,v,rfl,hd,q1,q2⟩:=h;refine ⟨_,(@ai _ _ _ (@bV _ _ _ _ _ _ _ _ (@fW _ _ _ _ (@fV _ _ _ (@al _ _ _ _ _ _ _ _ _ _ _ C_is_row hr (by lia) rfl (@aa _ _ _ _ _ (pv 0) ac (by rfl)) (by decide) (by rfl) (by rfl)) (by intro _;rfl))) (@ai _ _ _ (@j0 _ _ _ _ _ _ _ _ _ _ rz1 XC.eNoRow rfl rfl XC.mNoRow (by rfl) (by decide))) a6)),?_⟩;refine ⟨_,rfl,d,v,rfl,hd,fun H1 g1=>?_⟩;cases c:bt d with
  | true=>exact ⟨true,rfl,aV (q1 c H1 g1)⟩
  | false=>exact ⟨false,rfl,cD (q2 c H1 g1)⟩
def fG (aS:Addr):Sp:=fun vs H Q E=>∃ d v,vs=[v]∧Dat H d v∧(cE d=true→Q .non H)∧(cE d=false→E (.ref aS) none H)
abbrev fM:Stmt:=top 21
theorem lI:FnScope ["thing"] ["thing"] (aj fM):=⟨rfl,rfl,rfl,by decide +kernel,rfl,by decide +kernel,by decide +kernel⟩
theorem ki {aP aR aS aH:Addr} (F:Fun K "need_signs" "need_signs" fM f fd) (XC:Xc K mg aP aR aS aH) (C_is_signs:Cal P w K mg base "is_signs" 1 ["thing"] iU):FnOk P w K mg base (CX1 P w) 2 f fd ["thing"] (fG aS):=by
  refine Fun.ok1 F lI (fun vs H Q E h=>?_) (fun cdv A outer s H vs Q E hr h=>?_)
  · obtain ⟨d,v,rfl,_⟩:=h;rfl
  obtain ⟨d,v,rfl,hd,q1,q2⟩:=h;refine ⟨_,(@ai _ _ _ (@bV _ _ _ _ _ _ _ _ (@fW _ _ _ _ (@fV _ _ _ (@al _ _ _ _ _ _ _ _ _ _ _ C_is_signs hr (by lia) rfl (@aa _ _ _ _ _ (pv 0) ac (by rfl)) (by decide) (by rfl) (by rfl)) (by intro _;rfl))) (@ai _ _ _ (@j0 _ _ _ _ _ _ _ _ _ _ rz1 XC.eNoSigns rfl rfl XC.mNoSigns (by rfl) (by decide))) a6)),?_⟩;refine ⟨_,rfl,d,v,rfl,hd,?_⟩;cases c:cE d with
  | true=>exact ⟨true,rfl,aV (q1 c)⟩
  | false=>exact ⟨false,rfl,cD (q2 c)⟩
def Sm1 (H:Hp) (d:PyData) (v:V):Prop:=bt d=true→∀ (r:Addr) (ns:List Int),v=.ref r→H r=some (.lst (ns.map V.int))→Small ns
def iV:Sp:=fun vs H Q _=>∃ d v,vs=[v]∧Dat H d v∧Q (.bl (cI d)) H
abbrev i6:Stmt:=top 24
theorem qb:FnScope ["thing"] ["thing"] (aj i6):=⟨rfl,rfl,rfl,by decide +kernel,rfl,by decide +kernel,by decide +kernel⟩
theorem oM (F:Fun K "is_pair" "is_pair" i6 f fd) (B:Bu K mg) (C_is_whole:Cal P w K mg base "is_whole" 1 ["thing"] (iz K)):FnOk P w K mg base CX0 2 f fd ["thing"] iV:=by
  refine F.ok qb (fun vs H Q E h=>?_) (fun cdv A outer s H vs Q E hr h=>?_)
  · obtain ⟨p,v,rfl,_⟩:=h;rfl
  obtain ⟨d,v,rfl,hd,q⟩:=h;refine ⟨_,(@ai _ _ _ (@az _ _ _ _ (@ip _ _ _ _ _ _ _ (@am _ _ _ _ _ _ _ _ _ (@cQ _ ("tuple")) rfl B.iisinstance aau (@aa _ _ _ _ _ (pv 0) (@aa _ _ _ _ _ (@eZ _ _ (.ty "tuple") _ _ rfl B.ituple abv rfl (by decide) (by decide)) ac (by rfl)) (by rfl)) (by decide) (by decide) (by rfl) (by rfl)) (@ip _ _ _ _ _ _ _ (@jL _ _ _ _ _ _ _ _ eU (@am _ _ _ _ _ _ _ _ _ aK rfl B.ilen aaL (@aa _ _ _ _ _ (pv 0) ac (by rfl)) (by decide) (by decide) (by rfl) (by rfl)) af (aX _)) (@ip _ _ _ _ _ _ _ (@al _ _ _ _ _ _ _ _ _ _ _ C_is_whole hr (by lia) rfl (@aa _ _ _ _ _ (@aY _ _ _ _ _ _ _ bv (pv 0) af (fun _ _=>rfl)) ac (by rfl)) (by decide) (by rfl) (by rfl)) (@jb _ _ _ _ _ (@al _ _ _ _ _ _ _ _ _ _ _ C_is_whole hr (by lia) rfl (@aa _ _ _ _ _ (@aY _ _ _ _ _ _ _ bv (pv 0) af (fun _ _=>rfl)) ac (by rfl)) (by decide) (by rfl) (by rfl)))))))),?_⟩;cases d with
  | tuple ds =>
    have ty:=hd.ty (K:=K);simp only [Dat] at hd;obtain ⟨a,xs,rfl,ha,hxs⟩:=hd;refine ⟨_,rfl,_,_,true,rfl,ty,rfl,true,rfl,cD ⟨_,rfl,a,_,rfl,.inr (SqT.of ha),rfl,decide (V.int (xs.length:Nat)=V.int 2),rfl,?_⟩⟩;have lx:=hxs.len;by_cases c:xs.length=2
    · obtain ⟨l,r,y,z,rfl,rfl,h1,h2⟩:=yq hxs c;refine jz rfl ⟨_,rfl,a,_,_,_,rfl,rfl,SqT.of ha,rfl,_,_,rfl,h1.ty,_,rfl,?_⟩;have e:cI (.tuple [l,r])=(bH l && bH r):=rfl;rw [kO];rw [e] at q;cases c1:bH l with
      | true =>
        rw [c1,acl] at q;refine cD ⟨_,rfl,a,_,_,_,rfl,rfl,SqT.of ha,rfl,_,_,rfl,h2.ty,?_⟩;rw [kO];exact q
      | false =>
        rw [c1,acf] at q;exact aV q
    · refine gJ (fun e=>c (by injection e with e;lia)) ?_;have e:cI (.tuple ds)=false:=by
        match ds,lx with
        | [],_=>rfl
        | [_],_=>rfl
        | [_,_],lx=>exact absurd lx.symm (by intro z;exact c z)
        | _ :: _ :: _ :: _,_=>rfl
      rw [e] at q;exact q
  | none=>exact ⟨_,rfl,_,_,false,rfl,hd.ty,rfl,false,rfl,aV q⟩
  | bool b=>exact ⟨_,rfl,_,_,false,rfl,hd.ty,rfl,false,rfl,aV q⟩
  | int i=>exact ⟨_,rfl,_,_,false,rfl,hd.ty,rfl,false,rfl,aV q⟩
  | str i=>exact ⟨_,rfl,_,_,false,rfl,hd.ty,rfl,false,rfl,aV q⟩
  | list ds=>exact ⟨_,rfl,_,_,false,rfl,hd.ty,rfl,false,rfl,aV q⟩
  | dict ds=>exact ⟨_,rfl,_,_,false,rfl,hd.ty,rfl,false,rfl,aV q⟩
def iW:Sp:=fun vs H Q _=>∃ d v,vs=[v]∧Dat H d v∧Q (.bl (df d)) H
abbrev i7:Stmt:=top 19
theorem qc:FnScope ["thing"] ["thing"] (aj i7):=⟨rfl,rfl,rfl,by decide +kernel,rfl,by decide +kernel,by decide +kernel⟩
theorem oN {tk t4:Tok} {aP:Addr} (F:Fun K "is_many" "is_many" i7 f fd) (B:Bu K mg) (B3:Ch K mg tk t4 aP) (C_is_whole:Cal P w K mg base "is_whole" 1 ["thing"] (iz K)):FnOk P w K mg base CX0 2 f fd ["thing"] iW:=by
  refine F.ok qc (fun vs H Q E h=>?_) (fun cdv A outer s H vs Q E hr h=>?_)
  · obtain ⟨d,v,rfl,_⟩:=h;rfl
  obtain ⟨d,v,rfl,hd,q⟩:=h;refine ⟨_,(@ai _ _ _ (@az _ _ _ _ (@ip _ _ _ _ _ _ _ (@al _ _ _ _ _ _ _ _ _ _ _ C_is_whole hr (by lia) rfl (@aa _ _ _ _ _ (pv 0) ac (by rfl)) (by decide) (by rfl) (by rfl)) (@jb _ _ _ _ _ (@tS _ _ _ _ _ _ _ _ _ _ _ _ kc kc af (pv 0) (@cx _ _ (.int 9) _ _ rfl B3.gMOST_NUMBERS ⟨_,rfl⟩ (by decide)) (by with_unfolding_all rfl)))))),?_⟩;cases d with
  | int n =>
    have e:v=.int n:=by simpa only [Dat] using hd
    subst e;refine ⟨_,rfl,_,_,rfl,.int n,true,rfl,cD ⟨_,rfl,_,_,rfl,rfl,decide (1≤n),rfl,?_⟩⟩;have es:df (.int n)=decide (1≤n∧n≤9):=rfl;rw [es] at q;by_cases c:1≤n
    · refine jz c ⟨_,_,rfl,rfl,?_⟩;show Q (.bl (decide (n≤9))) H;rw [show decide (n≤9)=decide (1≤n∧n≤9) from decide_eq_decide.mpr ⟨fun z=>⟨c,z⟩,fun z=>z.2⟩];exact q
    · rw [decide_eq_false (fun z=>c z.1)] at q;exact gJ c q
  | none=>exact ⟨_,rfl,_,_,rfl,hd.ty,false,rfl,aV q⟩
  | bool b=>exact ⟨_,rfl,_,_,rfl,hd.ty,false,rfl,aV q⟩
  | str b=>exact ⟨_,rfl,_,_,rfl,hd.ty,false,rfl,aV q⟩
  | list b=>exact ⟨_,rfl,_,_,rfl,hd.ty,false,rfl,aV q⟩
  | tuple b=>exact ⟨_,rfl,_,_,rfl,hd.ty,false,rfl,aV q⟩
  | dict b=>exact ⟨_,rfl,_,_,rfl,hd.ty,false,rfl,aV q⟩
def mL:Sp:=fun vs H Q _=>∃ n d v,vs=[v,.int n]∧Dat H d v∧∀ H',Same H H'→Q (.bl (cb n d)) H'
abbrev cr:Stmt:=top 39
theorem ft:FnScope ["thing","many"] ["thing","many"] (aj cr):=⟨rfl,rfl,rfl,by decide +kernel,rfl,by decide +kernel,by decide +kernel⟩
theorem tZ {tk t4:Tok} {aP:Addr} (F:Fun K "is_list_of_stretches" "is_list_of_stretches" cr f fd) (B:Bu K mg) (B3:Ch K mg tk t4 aP) (C_is_pair:Cal P w K mg base "is_pair" 2 ["thing"] iV):FnOk P w K mg base CX0 3 f fd ["thing","many"] mL:=by
  refine F.ok ft (fun vs H Q E h=>?_) (fun cdv A outer s H vs Q E hr h=>?_)
  · obtain ⟨nn,d,v,rfl,_⟩:=h;rfl
  obtain ⟨nn,d,v,rfl,hd,q⟩:=h;refine ⟨_,(@ag _ _ _ _ _ (@bV _ _ _ _ _ _ _ _ (@PW.pt _ _ _ (@g_ _ _ _ _ _ _ _ (@fW _ _ _ _ (@fV _ _ _ (@am _ _ _ _ _ _ _ _ _ (@cQ _ ("list")) rfl B.iisinstance aau (@aa _ _ _ _ _ (pv 0) (@aa _ _ _ _ _ (@eZ _ _ (.ty "list") _ _ rfl B.ilist PyProof.Rows.boot_list rfl (by decide) (by decide)) ac (by rfl)) (by rfl)) (by decide) (by decide) (by rfl) (by rfl)) (by intro _;rfl))) (@gE _ _ _ _ (@aJ _ _ _ _ _ _ _ _ qV (@am _ _ _ _ _ _ _ _ _ aK rfl B.ilen aaL (@aa _ _ _ _ _ (pv 0) ac (by rfl)) (by decide) (by decide) (by rfl) (by rfl)) (@cx _ _ (.int 40) _ _ rfl B3.gMOST_STRETCHES ⟨_,rfl⟩ (by decide)) (aX _))))) (@ai _ _ _ (@az _ _ _ _ bS)) a6) (@ai _ _ _ (@az _ _ _ _ (@am _ _ _ _ _ _ _ _ _ (@lu _ rfl) rfl B.iall ach (@aa _ _ _ _ _ (@fA _ _ _ _ _ _ _ _ (["pair","many"]) ([none,some 1]) _ _ _ _ rfl (@bu _ _ _ _ (pv 0)) rfl ⟨rfl,trivial⟩ ⟨⟨rfl,Or.inl rfl,Or.inl rfl⟩,trivial⟩ (fun _ _ _ _=>⟨(@ao _ _ (0) _ (show aaP (["pair","many"]:List Str) by decide +kernel) rfl (Or.inl rfl) (.inr rfl)),bZ,(@ip _ _ _ _ _ _ _ (@al _ _ _ _ _ _ _ _ _ _ _ C_is_pair hr (by lia) rfl (@aa _ _ _ _ _ (pv 0) ac (by rfl)) (by decide) (by rfl) (by rfl)) (@jb _ _ _ _ _ (@jc _ _ _ _ _ _ _ _ _ _ _ _ _ _ _ _ kc j_ j_ af (@aY _ _ _ _ _ _ _ (@iO _ _ rfl) (pv 0) af (fun _ _=>rfl)) (@aY _ _ _ _ _ _ _ (@iO _ _ rfl) (pv 0) af (fun _ _=>rfl)) (pv 1) (by with_unfolding_all rfl))))⟩) (by rfl) (by rfl) (by rfl) (by rfl) (by intro _;rfl)) ac (by rfl)) (by decide) (by decide) (by rfl) (by rfl))))),?_⟩;by_cases hl:dy d=true
  · cases d with
    | list ds =>
      simp only [Dat] at hd;obtain ⟨a,us,rfl,ea,hall⟩:=hd;have hlen:=hall.len;refine ⟨_,rfl,_,_,true,rfl,.lst ea,rfl,true,rfl,aV ⟨_,rfl,a,_,rfl,.inl (SqL.of ea),_,_,rfl,rfl,_,rfl,?_⟩⟩;have e0:cb nn (.list ds)=(decide (ds.length≤40) && ds.all (bh nn)):=rfl;rw [e0] at q;by_cases c:us.length≤40
      · rw [decide_eq_false (by lia)];refine aV ⟨_,rfl,a,rfl,⟨_,SqL.of ea⟩,?_⟩;refine eV (Trn.list (xs:=us)) (fun i ys H'=>H'=H∧ys=((ds.take i).map (bh nn)).map V.bl) ⟨rfl,rfl⟩ (fun i ys H' hi p=>by rw [p.1,p.2];exact ⟨SqL.of ea,aU (by simp;lia)⟩) (fun i x ys H1 H' hi hx p Nx nx=>?_) (fun ys H' p p5 n5=>?_)
        · obtain ⟨rfl,rfl⟩:=p;obtain ⟨rfl,hx⟩:=hx;obtain ⟨dd,h1,h2⟩:=qB hall hx;have step:∀ b,b=bh nn dd→Nx ((ds.take i).map (bh nn) |>.map V.bl |>.append [V.bl b]) H':=fun b e=>nx _ _ ⟨rfl,by rw [e,aaR,h1,aaK,aaK];rfl⟩;refine ⟨_,rfl,dd,_,rfl,h2,cI dd,rfl,?_⟩;cases c1:cI dd with
          | false=>exact aV (step _ (qT c1).symm)
          | true =>
            obtain ⟨i1,j1,rfl⟩:=qU c1;simp only [Dat,DatAll] at h2;obtain ⟨b,_,rfl,hb,_,_,rfl,rfl,_,_,rfl,rfl,rfl⟩:=h2;have es:bh nn (.tuple [.int i1,.int j1])=decide (0≤i1∧i1 < j1∧j1 < nn):=rfl;refine cD ⟨_,rfl,b,_,_,_,rfl,rfl,SqT.of hb,rfl,_,_,rfl,rfl,decide (0≤i1),rfl,?_⟩;by_cases k1:0≤i1
            · refine jz k1 ⟨_,rfl,b,_,_,_,rfl,rfl,SqT.of hb,rfl,_,_,rfl,rfl,decide (i1 < j1),rfl,?_⟩;by_cases k2:i1 < j1
              · refine jz k2 ⟨_,rfl,_,_,rfl,rfl,step _ ?_⟩;rw [es];by_cases k3:j1 < nn
                · rw [decide_eq_true k3,decide_eq_true ⟨k1,k2,k3⟩]
                · rw [decide_eq_false k3,decide_eq_false (fun z=>k3 z.2.2)]
              · exact gJ k2 (step _ (by rw [es,decide_eq_false (fun z=>k2 z.2.1)]))
            · exact gJ k1 (step _ (by rw [es,decide_eq_false (fun z=>k1 z.1)]))
        obtain ⟨rfl,rfl⟩:=p;rw [abe (by lia)];refine ⟨p5,_,rfl,SqL.of ae,?_⟩;rw [List.all_map];rw [decide_eq_true (show ds.length≤40 by lia),acl] at q;exact q _ (Same.new n5 _)
      · rw [decide_eq_true (by lia)];rw [decide_eq_false (show ¬ ds.length≤40 by lia),acf] at q;exact cD (q H (Same.refl _))
    | _=>simp [dy] at hl
  · have hl':dy d=false:=by simpa using hl
    refine ⟨_,rfl,_,_,false,rfl,hd.ty,by rw [oZ,hl'],false,rfl,cD ?_⟩;have z:=q H (Same.refl _);have e:cb nn d=false:=by cases d <;> first|rfl|simp [dy] at hl'
    rw [e] at z;exact z
def fH:Sp:=fun vs H Q _=>∃ d v e u,vs=[v,u]∧Dat H d v∧Dat H e u∧∀ H',Same H H'→Q (.bl (df e && bW (mnD e) d)) H'
abbrev il:Stmt:=top 38
theorem om:FnScope ["thing","many"] ["thing","many"] (aj il):=⟨rfl,rfl,rfl,by decide +kernel,rfl,by decide +kernel,by decide +kernel⟩
theorem nh {tk t4:Tok} {aP:Addr} (F:Fun K "is_holds" "is_holds" il f fd) (B:Bu K mg) (B3:Ch K mg tk t4 aP) (C_is_many:Cal P w K mg base "is_many" 2 ["thing"] iW) (C_is_list_of_stretches:Cal P w K mg base "is_list_of_stretches" 3 ["thing","many"] mL):FnOk P w K mg base CX0 4 f fd ["thing","many"] fH:=by
  refine F.ok om (fun vs H Q E h=>?_) (fun cdv A outer s H vs Q E hr h=>?_)
  · obtain ⟨d,v,e,u,rfl,_⟩:=h;rfl
  obtain ⟨d,v,e,u,rfl,hd,he,q0⟩:=h;refine ⟨_,(@ag _ _ _ _ _ (@bV _ _ _ _ _ _ _ _ (@PW.pt _ _ _ (@g_ _ _ _ _ _ _ _ (@fW _ _ _ _ (@fV _ _ _ (@al _ _ _ _ _ _ _ _ _ _ _ C_is_many hr (by lia) rfl (@aa _ _ _ _ _ (pv 1) ac (by rfl)) (by decide) (by rfl) (by rfl)) (by intro _;rfl))) (@g_ _ _ _ _ _ _ _ (@fW _ _ _ _ (@fV _ _ _ (@am _ _ _ _ _ _ _ _ _ (@cQ _ ("tuple")) rfl B.iisinstance aau (@aa _ _ _ _ _ (pv 0) (@aa _ _ _ _ _ (@eZ _ _ (.ty "tuple") _ _ rfl B.ituple abv rfl (by decide) (by decide)) ac (by rfl)) (by rfl)) (by decide) (by decide) (by rfl) (by rfl)) (by intro _;rfl))) (@gE _ _ _ _ (@aJ _ _ _ _ _ _ _ _ jv (@am _ _ _ _ _ _ _ _ _ aK rfl B.ilen aaL (@aa _ _ _ _ _ (pv 0) ac (by rfl)) (by decide) (by decide) (by rfl) (by rfl)) af (aX _)))))) (@ai _ _ _ (@az _ _ _ _ bS)) a6) (@ai _ _ _ (@az _ _ _ _ (@am _ _ _ _ _ _ _ _ _ (@lu _ rfl) rfl B.iall ach (@aa _ _ _ _ _ (@fA _ _ _ _ _ _ _ _ (["part","many"]) ([none,some 1]) _ _ _ _ rfl (@tO _ _ _ _ (pv 0)) rfl ⟨rfl,trivial⟩ ⟨⟨rfl,Or.inl rfl,Or.inl rfl⟩,trivial⟩ (fun _ _ _ _=>⟨(@ao _ _ (0) _ (show aaP (["part","many"]:List Str) by decide +kernel) rfl (Or.inl rfl) (.inr rfl)),bZ,(@al _ _ _ _ _ _ _ _ _ _ _ C_is_list_of_stretches hr (by lia) rfl (@aa _ _ _ _ _ (pv 0) (@aa _ _ _ _ _ (pv 1) ac (by rfl)) (by rfl)) (by decide) (by rfl) (by rfl))⟩) (by rfl) (by rfl) (by rfl) (by rfl) (by intro _;rfl)) ac (by rfl)) (by decide) (by decide) (by rfl) (by rfl))))),?_⟩;refine ⟨_,rfl,e,u,rfl,he,df e,rfl,?_⟩;cases cm:df e with
  | false=>exact cD (by have z:=q0 H (Same.refl _);rw [cm,acf] at z;exact z)
  | true =>
  obtain ⟨nn,rfl⟩:∃ nn,e=.int nn:=by cases e <;> first|exact ⟨_,rfl⟩|simp [df] at cm
  have eu:u=.int nn:=by simpa only [Dat] using he
  subst eu;have q:∀ H',Same H H'→Q (.bl (bW nn d)) H':=fun H' g=>by have z:=q0 H' g;rw [cm,acl] at z;exact z
  refine aV ?_;have bad:bW nn d=false→Q (.bl false) H:=fun e=>by have z:=q H (Same.refl _);rw [e] at z;exact z
  cases d with
  | tuple ds =>
    have ty:=hd.ty (K:=K);simp only [Dat] at hd;obtain ⟨a,xs,rfl,ha,hxs⟩:=hd;refine ⟨_,rfl,_,_,true,rfl,ty,rfl,true,rfl,aV ⟨_,rfl,a,_,rfl,.inr (SqT.of ha),rfl,(!decide (V.int (xs.length:Nat)=V.int 2)),rfl,?_⟩⟩;have lx:=hxs.len;by_cases c:xs.length=2
    · obtain ⟨l,r,y,z,rfl,rfl,h1,h2⟩:=yq hxs c;refine aV ?_;refine ⟨_,rfl,a,rfl,⟨_,SqT.of ha⟩,?_⟩;refine eV (Trn.tup (xs:=[y,z])) (fun i ys H'=>Same H H'∧ys=(([l,r].take i).map (cb nn)).map V.bl) ⟨Same.refl _,rfl⟩ (fun i ys H' hi p=>by rw [p.2];exact ⟨SqT.of (p.1 _ _ ha),aU (by simp at hi;simp;lia)⟩) (fun i z' ys H1 H' hi hx' p Nx nx=>?_) (fun ys H' p p5 n5=>?_)
      · obtain ⟨S,rfl⟩:=p;obtain ⟨rfl,hz⟩:=hx';have key:∃ dd,Dat H' dd z'∧[l,r][i]?=some dd:=by
          have : i=0∨i=1:=by simp at hi;lia
          rcases this with rfl|rfl
          · simp at hz;subst hz;exact ⟨l,Dat.mono S _ _ h1,rfl⟩
          · simp at hz;subst hz;exact ⟨r,Dat.mono S _ _ h2,rfl⟩
        obtain ⟨dd,k1,k2⟩:=key;refine ⟨_,rfl,_,rfl,nn,dd,z',rfl,k1,fun H2 s2=>nx _ _ ⟨S.trans s2,?_⟩⟩;rw [aaR,k2,aaK,aaK];rfl
      obtain ⟨S,rfl⟩:=p;refine ⟨p5,_,rfl,SqL.of ae,?_⟩;have e:((([l,r].take [y,z].length).map (cb nn)).all id)=bW nn (.tuple [l,r]):=by
        show (cb nn l && (cb nn r && true))=(cb nn l && cb nn r)
        rw [Bool.and_true]
      rw [e];exact q _ (S.trans (Same.new n5 _))
    · rw [decide_eq_false (fun e=>c (by injection e with e;lia))];refine cD (bad ?_)
      match ds,lx with
      | [],_=>rfl
      | [_],_=>rfl
      | [_,_],lx=>exact absurd lx.symm (by intro z;exact c z)
      | _ :: _ :: _ :: _,_=>rfl
  | none=>exact ⟨_,rfl,_,_,false,rfl,hd.ty,rfl,false,rfl,cD (bad rfl)⟩
  | bool b=>exact ⟨_,rfl,_,_,false,rfl,hd.ty,rfl,false,rfl,cD (bad rfl)⟩
  | int i=>exact ⟨_,rfl,_,_,false,rfl,hd.ty,rfl,false,rfl,cD (bad rfl)⟩
  | str i=>exact ⟨_,rfl,_,_,false,rfl,hd.ty,rfl,false,rfl,cD (bad rfl)⟩
  | list ds=>exact ⟨_,rfl,_,_,false,rfl,hd.ty,rfl,false,rfl,cD (bad rfl)⟩
  | dict ds=>exact ⟨_,rfl,_,_,false,rfl,hd.ty,rfl,false,rfl,cD (bad rfl)⟩
def Rf (aR aS aH:Addr) (d e h:PyData) (H:Hp) (E:XK):Prop:=(bt d=false→∀ H',Same H H'→E (.ref aR) none H')∧(bt d=true→cE e=false→∀ H',Same H H'→E (.ref aS) none H')∧(bt d=true→cE e=true→bW (iC d) h=false→∀ H',Same H H'→E (.ref aH) none H')
def cR (aR aS aH:Addr):Sp:=fun vs H Q E=>∃ d v e u h x,vs=[v,u,x]∧Dat H d v∧Dat H e u∧Dat H h x∧Rf aR aS aH d e h H E∧(bt d=true→cE e=true→bW (iC d) h=true→∀ H',Same H H'→Q .non H')
abbrev fN:Stmt:=top 47
theorem lJ:FnScope ["row","signs","thing"] ["row","signs","thing"] (aj fN):=⟨rfl,rfl,rfl,by decide +kernel,rfl,by decide +kernel,by decide +kernel⟩
theorem km {aP aR aS aH:Addr} (F:Fun K "need_holds" "need_holds" fN f fd) (B:Bu K mg) (XC:Xc K mg aP aR aS aH) (C_need_row:db P w K mg base "need_row" 3 ["thing"] (h_ aR)) (C_need_signs:db P w K mg base "need_signs" 2 ["thing"] (fG aS)) (C_is_holds:Cal P w K mg base "is_holds" 4 ["thing","many"] fH):FnOk P w K mg base (CX1 P w) 5 f fd ["row","signs","thing"] (cR aR aS aH):=by
  refine Fun.ok1 F lJ (fun vs H Q E h=>?_) (fun cdv A outer s H vs Q E hr h=>?_)
  · obtain ⟨d,v,e,u,h,x,rfl,_⟩:=h;rfl
  obtain ⟨d,v,e,u,h,x,rfl,hd,he,hh,rf,q⟩:=h;refine ⟨_,(@ag _ _ _ _ _ (@cT _ _ _ _ (@b_ _ _ _ _ _ _ _ _ _ _ _ _ C_need_row dE hr (by lia) rfl (@aa _ _ _ _ _ (pv 0) ac (by rfl)) (by decide) (by rfl) (by rfl)) (by rfl)) (@ag _ _ _ _ _ (@cT _ _ _ _ (@b_ _ _ _ _ _ _ _ _ _ _ _ _ C_need_signs dE hr (by lia) rfl (@aa _ _ _ _ _ (pv 1) ac (by rfl)) (by decide) (by rfl) (by rfl)) (by rfl)) (@ai _ _ _ (@bV _ _ _ _ _ _ _ _ (@fW _ _ _ _ (@fV _ _ _ (@al _ _ _ _ _ _ _ _ _ _ _ C_is_holds hr (by lia) rfl (@aa _ _ _ _ _ (pv 2) (@aa _ _ _ _ _ (@am _ _ _ _ _ _ _ _ _ aK rfl B.ilen aaL (@aa _ _ _ _ _ (pv 0) ac (by rfl)) (by decide) (by decide) (by rfl) (by rfl)) ac (by rfl)) (by rfl)) (by decide) (by rfl) (by rfl)) (by intro _;rfl))) (@ai _ _ _ (@j0 _ _ _ _ _ _ _ _ _ _ rz1 XC.eNoHolds rfl rfl XC.mNoHolds (by rfl) (by decide))) a6)))),?_⟩;refine ⟨_,rfl,d,v,rfl,hd,fun c H1 s1=>?_,rf.1⟩;refine ⟨_,rfl,e,u,rfl,Dat.mono s1 e u he,fun c2=>?_,fun c2=>rf.2.1 c c2 H1 s1⟩;obtain ⟨r,ns,rfl,er,h1,h9,el⟩:=i_ c hd;refine ⟨_,rfl,_,rfl,r,_,rfl,.inl (SqL.of (s1 _ _ er)),h,x,.int ns.length,.int ns.length,by rw [aak];rfl,Dat.mono s1 h x hh,by simp only [Dat],fun H2 s2=>?_⟩;have em:df (.int ns.length)=true:=decide_eq_true (by lia);rw [em,acl,show mnD (.int ns.length)=(iC d:Int) from congrArg Nat.cast el];have S:=s1.trans s2;cases c3:bW (iC d) h with
  | true=>exact ⟨true,rfl,aV (q c c2 c3 H2 S)⟩
  | false=>exact ⟨false,rfl,cD (rf.2.2 c c2 c3 H2 S)⟩
end
open PySem L2
theorem fF (xs:List V) (c:Nat) (h:c≤xs.length):fm xs none (some (c:Int))=xs.take c:=by
  have e0:HT.sIx xs.length 0 none=0:=by simp [HT.sIx]
  have e1:HT.sIx xs.length xs.length (some (c:Int))=c:=by
    simp only [HT.sIx];split <;> lia
  unfold fm;rw [e0,e1,List.drop_zero];rfl
theorem kY (xs:List V) (c:Nat):fm xs none (some (c:Int))=xs.take c:=by
  by_cases h:c≤xs.length
  · exact fF xs c h
  · have e0:HT.sIx xs.length 0 none=0:=by simp [HT.sIx]
    have e1:HT.sIx xs.length xs.length (some (c:Int))=xs.length:=by
      simp only [HT.sIx];split <;> lia
    unfold fm;rw [e0,e1,List.drop_zero,Nat.sub_zero,aa5,abe (by lia)]
theorem d_ (xs:List V) (c:Nat) (h:c≤xs.length):fm xs (some (c:Int)) none=xs.drop c:=by
  have e0:HT.sIx xs.length xs.length none=xs.length:=by simp [HT.sIx]
  have e1:HT.sIx xs.length 0 (some (c:Int))=c:=by
    simp only [HT.sIx];split <;> lia
  unfold fm;rw [e0,e1,abe (by rw [aba];exact aae _)]
def Wy.within (gs:List Sg):Wy→Prop
  | .num _=>True
  | .node g l r=>g∈gs∧l.within gs∧r.within gs
def Wy.wv:Wy→Int
  | .num i=>i
  | .node g l r=>g.op l.wv r.wv
def Wy.bd:Wy→Prop
  | .num i=>i.natAbs≤10 ^ (30 * 1)
  | .node g l r=>l.bd∧r.bd∧(g.op l.wv r.wv).natAbs≤10 ^ (30 * (l.size+r.size))
section
variable {P:Program} {w:World} {K:aaa} {mg:Str→Option Value} {base:Heap} {f:Addr} {fd:FuncData}
end
open PySem L2
def slice (ns:List Int) (q:Int × Int):List Int:=(ns.drop q.1.toNat).take (q.2 - q.1+1).toNat
theorem l5 {ns:List Int} {q:Int × Int} (h0:0≤q.1) (h1:q.1≤q.2) (h2:q.2 < ns.length):(slice ns q).length=(q.2 - q.1+1).toNat:=by
  unfold slice;rw [aaz,aba];lia
theorem l7 {ns:List Int} {q:Int × Int} {c:Int} (h0:0≤q.1) (h1:q.1≤c) (h2:c < q.2):slice ns (q.1,c)++slice ns (c+1,q.2)=slice ns q:=by
  unfold slice;simp only;have e:(q.2 - q.1+1).toNat=(c - q.1+1).toNat+(q.2 - (c+1)+1).toNat:=by lia
  rw [e,List.take_add,List.drop_drop];congr 3;lia
theorem rQ {ns:List Int} {q:Int × Int} (h0:0≤q.1) (h1:q.1=q.2) (h2:q.2 < ns.length):slice ns q=[ns.getD q.1.toNat 0]:=by
  unfold slice;have e:(q.2 - q.1+1).toNat=1:=by lia
  have hi:q.1.toNat < ns.length:=by lia
  rw [e,List.drop_eq_getElem_cons hi,abV,List.take_zero,aay,aad hi];rfl
def prs (s n:Nat):Nat→Int
  | 0=>0
  | j+1=>prs s n j+(s:Int) * cn s (1+j) * cn s (n - (1+j))
theorem vp:∀ s≤3,∀ n≤9,2≤n→prs s n (n - 1)=cn s n:=by decide +kernel
theorem xx:∀ s≤3,cn s 1=1:=by decide +kernel
theorem tL {s n:Nat} (hs:s≤3) (hn:n≤9) {j:Nat} (hj:j+1≤n - 1):prs s n j≤prs s n (j+1):=by
  show _≤prs s n j+(s:Int) * cn s (1+j) * cn s (n - (1+j));have a:=(iP s hs (1+j) (by lia)).1;have b:=(iP s hs (n - (1+j)) (by lia)).1;have c:=abk (abk (Int.natCast_nonneg s) a) b;lia
theorem iD {s n:Nat} (hs:s≤3) (hn:n≤9) {i:Nat}:∀ {j:Nat},i≤j→j≤n - 1→prs s n i≤prs s n j
  | 0,h,_=>by rw [show i=0 by lia];exact aaC _
  | j+1,h,hj=>by
    by_cases e:i=j+1
    · rw [e];exact aaC _
    · exact Int.le_trans (iD hs hn (j:=j) (by lia) (by lia)) (tL hs hn hj)
def Wy.nr (gs:List Sg):Wy→Int
  | .num _=>0
  | .node g l r=>prs gs.length (l.size+r.size) (l.size - 1)+((((gs.idxOf g:Nat):Int) * cn gs.length l.size+l.nr gs) * cn gs.length r.size+r.nr gs)
theorem ud {i s A C a c:Int} (i0:0≤i) (i1:i+1≤s) (a0:0≤a) (a1:a < A) (c0:0≤c) (c1:c < C) :
    0≤(i * A+a) * C+c∧(i * A+a) * C+c < s * A * C∧((i * A+a) * C+c) / C=i * A+a∧((i * A+a) * C+c) % C=c∧(i * A+a) / A=i∧(i * A+a) % A=a:=by
  have A0:0 < A:=by lia
  have C0:0 < C:=by lia
  have m0:0≤i * A+a:=Int.add_nonneg (abk i0 (abX A0)) a0;have m1:i * A+a+1≤s * A:=by
    have:=aa2 i1 (abX A0);rw [abI,acb] at this;lia
  have m2:=aa2 m1 (abX C0);rw [abI,acb] at m2;have u1:=(Int.ediv_emod_unique C0 (a:=(i * A+a) * C+c) (q:=i * A+a) (r:=c)).mpr ⟨by rw [Int.mul_comm C,Int.add_comm],c0,c1⟩;have u2:=(Int.ediv_emod_unique A0 (a:=i * A+a) (q:=i) (r:=a)).mpr ⟨by rw [Int.mul_comm A,Int.add_comm],a0,a1⟩;exact ⟨Int.add_nonneg (abk m0 (abX C0)) c0,by lia,u1.1,u1.2,u2.1,u2.2⟩
theorem qw {gs:List Sg} {g:Sg} (h:g∈gs):gs.idxOf g < gs.length∧gs[gs.idxOf g]?=some g:=by
  have h1:=List.idxOf_lt_length_of_mem h;exact ⟨h1,by rw [aad h1,List.getElem_idxOf h1]⟩
theorem Wy.nr_bd {gs:List Sg} (hs:gs.length≤3):∀ w:Wy,w.within gs→w.size≤9→0≤w.nr gs∧w.nr gs < cn gs.length w.size
  | .num i,_,_=>by
    show (0:Int)≤0∧(0:Int) < cn gs.length 1;rw [xx _ hs];decide
  | .node g l r,h,h9=>by
    have h9:l.size+r.size≤9:=h9;have l1:=l.size_pos;have r1:=r.size_pos;obtain ⟨a0,a1⟩:=Wy.nr_bd hs l h.2.1 (by lia);obtain ⟨c0,c1⟩:=Wy.nr_bd hs r h.2.2 (by lia);obtain ⟨i1,_⟩:=qw h.1;obtain ⟨e0,e1,_⟩:=ud (i:=((gs.idxOf g:Nat):Int)) (s:=gs.length) (by lia) (by lia) a0 a1 c0 c1;have p0:=iD hs h9 (i:=0) (j:=l.size - 1) (aaO _) (by lia);have p0:0≤prs gs.length (l.size+r.size) (l.size - 1):=p0;have p1:=iD hs h9 (i:=l.size - 1+1) (j:=l.size+r.size - 1) (by lia) (by lia);rw [vp _ hs _ h9 (by lia)] at p1;have p1:prs gs.length (l.size+r.size) (l.size - 1)+(gs.length:Int) * cn gs.length (1+(l.size - 1)) * cn gs.length (l.size+r.size - (1+(l.size - 1)))≤cn gs.length (l.size+r.size):=p1;rw [show 1+(l.size - 1)=l.size by lia,show l.size+r.size - l.size=r.size by lia] at p1;show 0≤prs _ _ _+_∧prs _ _ _+_ < cn gs.length (l.size+r.size);lia
section
variable {P:Program} {w:World} {K:aaa} {mg:Str→Option Value} {base:Heap} {f:Addr} {fd:FuncData}
def mI (n:Nat):Sp:=fun vs H Q _=>∃ (gs:List Sg) (pr pc:Addr) (wy:Wy) (k:Nat),vs=[.ref pr,.str (aC gs),.ref pc,.int (wy.nr gs)]∧gs.length≤3∧H pr=some (.lst (wy.nums.map V.int))∧H pc=some (.lst ((cl gs.length k).map V.int))∧k≤8∧wy.size≤k+1∧wy.size≤n∧wy.within gs∧∀ v H',Same H H'→WyIn H' wy v→Q v H'
abbrev jY:Stmt:=top 28
theorem cg:FnScope ["row","signs","counts","number","many","left","both","right_number","place","left_number","left_way","right_way"] ["row","signs","counts","number"] (aj jY):=⟨rfl,rfl,rfl,by decide +kernel,rfl,by decide +kernel,by decide +kernel⟩
theorem rZ (F:Fun K "way_at" "way_at" jY f fd) (bF:Binds K fd ["row","signs","counts","number"] []) (mF:mg "way_at" = some (.ref f)) (B:Bu K mg) (C_ways_by_cut:Cal P w K mg base "ways_by_cut" 1 ["signs","counts","left","right"] qM):∀ n,FnOk P w K mg base CX0 (n+2) f fd ["row","signs","counts","number"] (mI n):=by
  intro n
  induction n with
  | zero =>
    refine ⟨fun vs H Q E h=>?_,fun A outer s H args us vs Q E _ _ _ _ h=>?_⟩
    · obtain ⟨gs,pr,pc,wy,k,rfl,_⟩:=h;rfl
    · obtain ⟨gs,pr,pc,wy,k,_,_,_,_,_,_,h2,_⟩:=h;have:=wy.size_pos;lia
  | succ n ih =>
    have C_way_at:Cal P w K mg base "way_at" (n+2) ["row","signs","counts","number"] (mI n):=⟨f,fd,ih,bF,F.kp,mF⟩
    refine F.ok cg (fun vs H Q E h=>?_) (fun cdv A outer s H vs Q E hr h=>?_)
    · obtain ⟨gs,pr,pc,wy,k,rfl,_⟩:=h;rfl
    obtain ⟨gs,pr,pc,wy,k,rfl,hz,hr',hc,hk,hnk,hn,hwi,q⟩:=h;refine ⟨_,(@ag _ _ _ _ _ (@aD _ _ (4) _ _ _ _ (cg).nd rfl (Or.inl rfl) (@am _ _ _ _ _ _ _ _ _ aK rfl B.ilen aaL (@aa _ _ _ _ _ (pv 0) ac (by rfl)) (by decide) (by decide) (by rfl) (by rfl)) (by rfl) (by first|exact .inl rfl|exact .inr rfl|assumption)) (@ag _ _ _ _ _ (@bV _ _ _ _ _ _ _ _ (@aJ _ _ _ _ _ _ _ _ eU (pv 4) af (aX _)) (@ai _ _ _ (@az _ _ _ _ (@aY _ _ _ _ _ _ _ bc (pv 0) af (fun _ _=>rfl)))) a6) (@ag _ _ _ _ _ (@aD _ _ (5) _ _ _ _ (cg).nd rfl (Or.inl rfl) af (by rfl) (by first|exact .inl rfl|exact .inr rfl|assumption)) (@ag _ _ _ _ _ (@tK _ _ _ _ _ _ aaS (@aJ _ _ _ _ _ _ _ _ v9 (pv 3) (@al _ _ _ _ _ _ _ _ _ _ _ C_ways_by_cut hr (by lia) rfl (@aa _ _ _ _ _ (pv 1) (@aa _ _ _ _ _ (pv 2) (@aa _ _ _ _ _ (pv 5) (@aa _ _ _ _ _ (@aq _ _ _ _ _ _ _ _ bX (pv 4) (pv 5)) ac (by rfl)) (by rfl)) (by rfl)) (by rfl)) (by decide) (by rfl) (by rfl)) (aX _)) (@ag _ _ _ _ _ (@qf _ _ (3) _ _ _ _ _ _ (cg).nd rfl (Or.inl rfl) (@al _ _ _ _ _ _ _ _ _ _ _ C_ways_by_cut hr (by lia) rfl (@aa _ _ _ _ _ (pv 1) (@aa _ _ _ _ _ (pv 2) (@aa _ _ _ _ _ (pv 5) (@aa _ _ _ _ _ (@aq _ _ _ _ _ _ _ _ bX (pv 4) (pv 5)) ac (by rfl)) (by rfl)) (by rfl)) (by rfl)) (by decide) (by rfl) (by rfl)) xu (by first|exact .inl rfl|exact .inr rfl|assumption)) (@ai _ _ _ (@qf _ _ (5) _ _ _ _ _ _ (cg).nd rfl (Or.inl rfl) af uB (by first|exact .inl rfl|exact .inr rfl|assumption))))) (@ag _ _ _ _ _ (@fj _ _ _ _ _ _ (@am _ _ _ _ _ _ _ _ _ jA rfl B.idivmod PyProof.Rows.boot_divmod (@aa _ _ _ _ _ (pv 3) (@aa _ _ _ _ _ (@aY _ _ _ _ _ _ _ bc (pv 2) (@aq _ _ _ _ _ _ _ _ bX (pv 4) (pv 5)) (fun _ _=>rfl)) ac (by rfl)) (by rfl)) (by decide) (by decide) (by rfl) (by rfl)) (@eK _ _ _ _ _ _ rfl (@aQ _ _ _ _ _ (@ao _ _ (6) _ (cg).nd rfl (Or.inl rfl) (.inl rfl)) (@aQ _ _ _ _ _ (@ao _ _ (7) _ (cg).nd rfl (Or.inl rfl) (.inl rfl)) cu (by rfl)) (by rfl)) (by rfl) (by rfl)) (by rfl) (by rfl) (by rfl)) (@ag _ _ _ _ _ (@fj _ _ _ _ _ _ (@am _ _ _ _ _ _ _ _ _ jA rfl B.idivmod PyProof.Rows.boot_divmod (@aa _ _ _ _ _ (pv 6) (@aa _ _ _ _ _ (@aY _ _ _ _ _ _ _ bc (pv 2) (pv 5) (fun _ _=>rfl)) ac (by rfl)) (by rfl)) (by decide) (by decide) (by rfl) (by rfl)) (@eK _ _ _ _ _ _ rfl (@aQ _ _ _ _ _ (@ao _ _ (8) _ (cg).nd rfl (Or.inl rfl) (.inl rfl)) (@aQ _ _ _ _ _ (@ao _ _ (9) _ (cg).nd rfl (Or.inl rfl) (.inl rfl)) cu (by rfl)) (by rfl)) (by rfl) (by rfl)) (by rfl) (by rfl) (by rfl)) (@ag _ _ _ _ _ (@aD _ _ (10) _ _ _ _ (cg).nd rfl (Or.inl rfl) (@al _ _ _ _ _ _ _ _ _ _ _ C_way_at hr (by lia) rfl (@aa _ _ _ _ _ (@cZ _ _ _ _ _ _ _ _ _ _ dS (pv 0) dv (@du _ _ _ (pv 5))) (@aa _ _ _ _ _ (pv 1) (@aa _ _ _ _ _ (pv 2) (@aa _ _ _ _ _ (pv 9) ac (by rfl)) (by rfl)) (by rfl)) (by rfl)) (by decide) (by rfl) (by rfl)) (by rfl) (by first|exact .inl rfl|exact .inr rfl|assumption)) (@ag _ _ _ _ _ (@aD _ _ (11) _ _ _ _ (cg).nd rfl (Or.inl rfl) (@al _ _ _ _ _ _ _ _ _ _ _ C_way_at hr (by lia) rfl (@aa _ _ _ _ _ (@cZ _ _ _ _ _ _ _ _ _ _ dS (pv 0) (@du _ _ _ (pv 5)) dv) (@aa _ _ _ _ _ (pv 1) (@aa _ _ _ _ _ (pv 2) (@aa _ _ _ _ _ (pv 7) ac (by rfl)) (by rfl)) (by rfl)) (by rfl)) (by decide) (by rfl) (by rfl)) (by rfl) (by first|exact .inl rfl|exact .inr rfl|assumption)) (@ai _ _ _ (@az _ _ _ _ (@aB _ _ _ _ _ (@aa _ _ _ _ _ (@aY _ _ _ _ _ _ _ xt (pv 1) (pv 8) (fun _ _=>rfl)) (@aa _ _ _ _ _ (pv 10) (@aa _ _ _ _ _ (pv 11) ac (by rfl)) (by rfl)) (by rfl))))))))))))),?_⟩;have zl:(aC gs).length=gs.length:=jI gs;refine ⟨_,rfl,pr,_,rfl,.inl (SqL.of hr'),?_⟩;rw [aak,wy.nums_len];cases wy with
    | num a =>
      refine ⟨_,rfl,rfl,true,congrArg V.bl (decide_eq_true rfl),cD ?_⟩;exact ⟨_,rfl,pr,_,_,_,rfl,rfl,SqL.of hr',rfl,q _ _ (Same.refl _) rfl⟩
    | node g l r =>
    have l1:=l.size_pos;have r1:=r.size_pos;have hnk:l.size+r.size≤k+1:=hnk;have hn:l.size+r.size≤n+1:=hn;have h9:l.size+r.size≤9:=by lia
    obtain ⟨N,hN⟩:∃ N,N=l.size+r.size:=⟨_,rfl⟩
    show _;have eN:(Wy.node g l r).size=N:=by rw [hN];rfl
    rw [eN];refine ⟨_,rfl,rfl,false,congrArg V.bl (decide_eq_false (fun e=>by injection e with e;lia)),aV ?_⟩;have bd:=iP gs.length hz;obtain ⟨a0,a1⟩:=Wy.nr_bd hz l hwi.2.1 (by lia);obtain ⟨c0,c1⟩:=Wy.nr_bd hz r hwi.2.2 (by lia);obtain ⟨i1,ig⟩:=qw hwi.1;obtain ⟨x0,hx0⟩:∃ x0,x0=(((gs.idxOf g:Nat):Int) * cn gs.length l.size+l.nr gs) * cn gs.length r.size+r.nr gs:=⟨_,rfl⟩
    obtain ⟨e0,e1,e2,e3,e4,e5⟩:=ud (i:=((gs.idxOf g:Nat):Int)) (s:=gs.length) (by lia) (by lia) a0 a1 c0 c1;rw [← hx0] at e0 e1 e2 e3;have enr:(Wy.node g l r).nr gs=prs gs.length N (l.size - 1)+x0:=by rw [hN,hx0];rfl
    rw [enr];obtain ⟨p0,hp0⟩:∃ p0,p0=prs gs.length N (l.size - 1):=⟨_,rfl⟩
    rw [← hp0];refine ⟨fun mm σ H'=>∃ (j:Nat) (x:Int),σ=[some (.ref pr),some (.str (aC gs)),some (.ref pc),some (.int x),some (.int (N:Nat)),some (.int (1+(j:Int))),none,none,none,none,none,none]∧H=H'∧x=p0+x0 - prs gs.length N j∧j≤l.size - 1∧mm=l.size - j,?_,?_⟩
    · exact ⟨_,0,p0+x0,rfl,rfl,by show _=p0+x0 - 0;lia,aaO _,rfl⟩
    rintro mm σ H' ⟨j,x,rfl,rfl,hx,jm,rfl⟩;have e3':(1+(j:Int))=((1+j:Nat):Int):=by lia
    have e2':((N:Nat):Int) - (1+(j:Int))=((N - (1+j):Nat):Int):=by lia
    have at1:atI ((cl gs.length k).map V.int) (1+(j:Int))=some (.int (cn gs.length (1+j))):=by rw [e3'];exact mx hk (by lia)
    have at2:atI ((cl gs.length k).map V.int) (((N:Nat):Int) - (1+(j:Int)))=some (.int (cn gs.length (N - (1+j)))):=by rw [e2'];exact mx hk (by lia)
    have b1:=bd (1+j) (by lia);have b2:=bd (N - (1+j)) (by lia);refine ⟨_,rfl,_,rfl,_,rfl,_,rfl,_,rfl,_,rfl,_,_,rfl,rfl,aC gs,pc,_,_,_,_,_,rfl,by lia,hc,at1,at2,b2.1,b2.2,_,_,rfl,rfl,?_⟩;rw [zl];have hst:prs gs.length N (j+1)=prs gs.length N j+(gs.length:Int) * cn gs.length (1+j) * cn gs.length (N - (1+j)):=rfl;by_cases c:j < l.size - 1
    · have hm:=iD hz (n:=N) (by lia) (i:=j+1) (j:=l.size - 1) (by lia) (by lia);rw [← hp0,hst] at hm;have cge:x ≥ (gs.length:Int) * cn gs.length (1+j) * cn gs.length (N - (1+j)):=by lia
      refine ⟨true,congrArg V.bl (decide_eq_true cge),cD ⟨fun σ' H'=>∃ m',m' < l.size - j∧∃ (j:Nat) (x:Int),σ'=[some (.ref pr),some (.str (aC gs)),some (.ref pc),some (.int x),some (.int (N:Nat)),some (.int (1+(j:Int))),none,none,none,none,none,none]∧H=H'∧x=p0+x0 - prs gs.length N j∧j≤l.size - 1∧m'=l.size - j,fun _ _ h=>h,?_⟩⟩;refine ⟨_,rfl,_,rfl,_,rfl,_,rfl,_,rfl,_,rfl,_,_,rfl,rfl,aC gs,pc,_,_,_,_,_,rfl,by lia,hc,at1,at2,b2.1,b2.2,_,_,rfl,rfl,?_⟩;rw [zl];refine ⟨_,rfl,_,_,rfl,rfl,l.size - (j+1),by lia,j+1,x - (gs.length:Int) * cn gs.length (1+j) * cn gs.length (N - (1+j)),?_,rfl,by rw [hst];lia,by lia,rfl⟩;have e5:(1+(j:Int))+1=1+((j+1:Nat):Int):=by lia
      show [_,_,_,_,_,some (V.int ((1+(j:Int))+1)),_,_,_,_,_,_]=_;rw [e5]
    have ej:j=l.size - 1:=by lia
    have ex:x=x0:=by rw [hx,ej,← hp0];lia
    have eA:1+j=l.size:=by lia
    have eC:N - (1+j)=r.size:=by lia
    rw [eC] at at2 b2 ⊢;rw [eA] at at1 b1 ⊢;have cl':¬ (x ≥ (gs.length:Int) * cn gs.length l.size * cn gs.length r.size):=by rw [ex];lia
    refine ⟨false,congrArg V.bl (decide_eq_false cl'),aV ?_⟩;clear cl' hx;subst ex;have A0:0 < cn gs.length l.size:=by lia
    have C0:0 < cn gs.length r.size:=by lia
    have eL:l.nums=(l.nums++r.nums).take l.size:=by rw [← l.nums_len,List.take_left]
    have eR:r.nums=(l.nums++r.nums).drop l.size:=by rw [← l.nums_len,List.drop_left]
    refine ⟨_,rfl,_,rfl,_,rfl,_,rfl,_,_,rfl,rfl,pc,_,_,_,rfl,rfl,SqL.of hc,at2,x,cn gs.length r.size,rfl,⟨C0,by lia⟩,fun t1 n1=>?_⟩;rw [e2,e3];have g1:=Same.new n1 (.tup [.int (((gs.idxOf g:Nat):Int) * cn gs.length l.size+l.nr gs),.int (r.nr gs)]);refine ⟨t1,_,rfl,SqT.of ae,rfl,_,_,rfl,_,_,rfl,rfl,?_⟩;refine ⟨_,rfl,_,rfl,_,rfl,pc,_,_,_,rfl,rfl,SqL.of (g1 _ _ hc),at1,((gs.idxOf g:Nat):Int) * cn gs.length l.size+l.nr gs,cn gs.length l.size,rfl,⟨A0,by lia⟩,fun t2 n2=>?_⟩;rw [e4,e5];have g2:=g1.trans (Same.new n2 (.tup [.int ((gs.idxOf g:Nat):Int),.int (l.nr gs)]));refine ⟨t2,_,rfl,SqT.of ae,rfl,_,_,rfl,_,_,rfl,rfl,?_⟩;have ln:(l.nums++r.nums).length=l.size+r.size:=by rw [aal,l.nums_len,r.nums_len]
    have hr2:H pr=some (.lst ((l.nums++r.nums).map V.int)):=hr';refine ⟨_,rfl,_,rfl,_,rfl,pr,_,rfl,SqL.of (g2 _ _ hr2),fun s1 m1=>?_⟩;rw [e3',eA,fF _ l.size (by rw [aak];lia),← aco,← eL];have g3:=g2.trans (Same.new m1 (.lst (l.nums.map V.int)));refine ⟨_,rfl,_,rfl,_,rfl,gs,s1,pc,l,k,rfl,hz,ae,g3 _ _ hc,hk,by lia,by lia,hwi.2.1,fun lv H4 g4 hlv=>?_⟩;have G4:=g3.trans g4;refine ⟨_,rfl,_,rfl,_,rfl,pr,_,rfl,SqL.of (G4 _ _ hr2),fun s2 m2=>?_⟩;rw [d_ _ l.size (by rw [aak];lia),← acn,← eR];have s5:=Same.new m2 (.lst (r.nums.map V.int));have g5:=G4.trans s5;refine ⟨_,rfl,_,rfl,_,rfl,gs,s2,pc,r,k,rfl,hz,ae,g5 _ _ hc,hk,by lia,by lia,hwi.2.2,fun rv H6 g6 hrv=>?_⟩;have G6:=g5.trans g6;have hat:atI (aC gs).cps.toList ((gs.idxOf g:Nat):Int)=some g.code:=iR (by rw [dj,aaX,ig];rfl);refine ⟨_,rfl,_,rfl,aC gs,_,g.code,rfl,rfl,bj (by lia),hat,_,rfl,_,rfl,(by show 3≤sizeLine;decide),fun t7 n7=>?_⟩;have s7:=Same.new n7 (.tup [.str ⟨#[g.code]⟩,lv,rv]);refine q _ _ (G6.trans s7) ⟨t7,lv,rv,rfl,?_,hlv.mono (Tups.of ((s5.trans g6).trans s7)),hrv.mono (Tups.of s7)⟩;rw [ae,gv]
end
open PySem L2
inductive Tr where
  | lf
  | nd (l r:Tr)
def Tr.size:Tr→Nat
  | .lf=>1
  | .nd l r=>l.size+r.size
theorem Tr.size_pos:∀ t:Tr,1≤t.size
  | .lf=>aae _
  | .nd l r=>by have:=l.size_pos;show 1≤l.size+r.size;lia
def Tr.all:Tr→Int→List (Int × Int)
  | .lf,b=>[(b,b)]
  | .nd l r,b=>(b,b+((l.size+r.size:Nat):Int) - 1) :: (l.all b++r.all (b+(l.size:Int)))
theorem Tr.top (t:Tr) (b:Int):(b,b+(t.size:Int) - 1)∈t.all b:=by
  cases t with
  | lf=>show (b,b+1 - 1)∈[(b,b)];rw [Int.add_sub_cancel];simp
  | nd l r=>exact aav
def hX (o h:Int × Int):Prop:=(o.1 < h.1∧h.1≤o.2∧o.2 < h.2)∨(h.1 < o.1∧o.1≤h.2∧h.2 < o.2)
instance (o h:Int × Int):Decidable (hX o h):=by unfold hX;infer_instance
def AV (L:List (Int × Int)) (b:Int) (n:Nat):Prop:=∃ t:Tr,t.size=n∧∀ q∈t.all b,q∉L
theorem xC (L:List (Int × Int)) (b:Int):AV L b 1↔(b,b)∉L:=by
  constructor
  · rintro ⟨t,h1,h2⟩;cases t with
    | lf=>exact h2 _ (by simp [Tr.all])
    | nd l r=>have:=l.size_pos;have:=r.size_pos;have : l.size+r.size=1:=h1;lia
  · intro h;exact ⟨.lf,rfl,fun q hq=>by simp [Tr.all] at hq;rw [hq];exact h⟩
theorem xD (L:List (Int × Int)) (b:Int) (n:Nat) (hn:2≤n):AV L b n↔(b,b+(n:Int) - 1)∉L∧∃ k:Nat,1≤k∧k < n∧AV L b k∧AV L (b+(k:Int)) (n - k):=by
  constructor
  · rintro ⟨t,h1,h2⟩;cases t with
    | lf=>have : 1=n:=h1;lia
    | nd l r =>
      have pl:=l.size_pos;have pr:=r.size_pos;have h1:l.size+r.size=n:=h1;refine ⟨?_,l.size,by lia,by lia,⟨l,rfl,fun q hq=>h2 q (aai _ (aaG _ hq))⟩,⟨r,by lia,fun q hq=>h2 q (aai _ (aab _ hq))⟩⟩;have:=h2 (b,b+((l.size+r.size:Nat):Int) - 1) aav;rw [h1] at this;exact this
  · rintro ⟨h0,k,k1,k2,⟨l,e1,a1⟩,⟨r,e2,a2⟩⟩;refine ⟨.nd l r,by show l.size+r.size=n;lia,fun q hq=>?_⟩;rcases aao.mp hq with e|hq
    · rw [e,e1,e2,show k+(n - k)=n by lia];exact h0
    · rcases aap.mp hq with hq|hq
      · exact a1 q hq
      · rw [e1] at hq;exact a2 q hq
def lob (hs bs:List (Int × Int)) (q:Int × Int):Bool:=decide (q∈bs) || hs.any fun h=>decide (hX q h)
def lo (n:Nat) (hs bs:List (Int × Int)):List (Int × Int):=(sfl n n).filter (lob hs bs)
def Wy.tr:Wy→Tr
  | .num _=>.lf
  | .node _ l r=>.nd l.tr r.tr
theorem Wy.tr_size:∀ w:Wy,w.tr.size=w.size
  | .num _=>rfl
  | .node g l r=>by show l.tr.size+r.tr.size=l.size+r.size;rw [l.tr_size,r.tr_size]
theorem jrow_at {c L R:Int} {j:Jt}:∀ {gs:List Sg} {st:Int},j∈fD c L R gs st↔∃ (i:Nat) (g:Sg),gs[i]?=some g∧j=(c,g,st+(i:Int) * (L * R),R)
  | [],st=>by simp [fD]
  | g :: gs,st=>by
    show j∈(c,g,st,R) :: fD c L R gs (st+L * R)↔_;have ar:∀ i:Nat,st+L * R+(i:Int) * (L * R)=st+((i+1:Nat):Int) * (L * R):=fun i=>by
      rw [Int.natCast_add,abI];simp only [Int.natCast_one,acb];lia
    rw [aao,jrow_at];constructor
    · rintro (rfl|⟨i,g',h,rfl⟩)
      · exact ⟨0,g,rfl,by simp⟩
      · exact ⟨i+1,g',by simpa using h,by rw [ar]⟩
    · rintro ⟨i,g',h,rfl⟩;cases i with
      | zero =>
        have e:g=g':=by simpa using h
        subst e;exact .inl (by simp)
      | succ i=>exact .inr ⟨i,g',by simpa using h,by rw [ar]⟩
def hW (q:Int × Int) (m:Nat):List Int:=(aaQ m).map fun (k:Nat)=>q.1+(k:Int)
theorem qD (q:Int × Int) (m:Nat):hW q (m+1)=hW q m++[q.1+(m:Int)]:=by
  unfold hW;rw [List.range_succ,aaK];rfl
theorem nA {gs:List Sg} {q:Int × Int} {n:Nat} (hn:(q.2 - q.1+1).toNat=n) (hq:q.1≤q.2):∀ m,m≤n - 1→jst gs q (hW q m)=prs gs.length n m∧∀ j,j∈gg gs q (hW q m) 0↔∃ k:Nat,k < m∧j∈fD (q.1+(k:Int)) (cn gs.length (1+k)) (cn gs.length (n - (1+k))) gs (prs gs.length n k)
  | 0,_=>⟨rfl,fun j=>by simp [hW,gg]⟩
  | m+1,h=>by
    obtain ⟨i1,i2⟩:=nA hn hq m (by lia);have e1:Lw gs.length q (q.1+(m:Int))=cn gs.length (1+m):=by
      unfold Lw;rw [show (q.1+(m:Int) - q.1+1).toNat=1+m by lia]
    have e2:Rw gs.length q (q.1+(m:Int))=cn gs.length (n - (1+m)):=by
      unfold Rw;rw [show (q.2 - (q.1+(m:Int))).toNat=n - (1+m) by lia]
    rw [qD];constructor
    · have : jst gs q (hW q m++[q.1+(m:Int)])=jst gs q (hW q m)+(gs.length:Int) * (Lw gs.length q (q.1+(m:Int)) * Rw gs.length q (q.1+(m:Int))):=by
        simp [jst,aaK,List.sum_append]
      rw [this,i1,e1,e2,← acm];rfl
    · intro j;rw [jn,List.mem_append,i2,i1,e1,e2,Int.zero_add];constructor
      · rintro (⟨k,hk,h⟩|h)
        · exact ⟨k,by lia,h⟩
        · exact ⟨m,by lia,h⟩
      · rintro ⟨k,hk,hj⟩;by_cases c:k=m
        · rw [c] at hj;exact .inr hj
        · exact .inl ⟨k,by lia,hj⟩
theorem rp {ns:List Int} {gs:List Sg} {L:Int × Int→List (Int × Int)} {q:Int × Int} {n:Nat} (hn:(q.2 - q.1+1).toNat=n) (hq:q.1 < q.2) {x:Int × Int}:x∈fnd ns gs L q↔∃ k:Nat,k < n - 1∧∃ (i:Nat) (g:Sg),gs[i]?=some g∧∃ a∈L (q.1,q.1+(k:Int)),∃ b∈L (q.1+(k:Int)+1,q.2),
    x=(g.op a.1 b.1,prs gs.length n k+(i:Int) * (cn gs.length (1+k) * cn gs.length (n - (1+k)))+a.2 * cn gs.length (n - (1+k))+b.2):=by
  have ec:bf q=hW q (n - 1):=by
    unfold bf hW;rw [show (q.2 - q.1).toNat=n - 1 by lia]
  unfold fnd;rw [if_neg (by lia),ec];unfold hV jp2 jp1;simp only [ack,List.mem_map];constructor
  · rintro ⟨j,hj,a,ha,b,hb,rfl⟩;obtain ⟨k,hk,hj⟩:=((nA hn (by lia) (n - 1) (aae _)).2 j).mp hj;obtain ⟨i,g,hg,rfl⟩:=jrow_at.mp hj;exact ⟨k,hk,i,g,hg,a,ha,b,hb,rfl⟩
  · rintro ⟨k,hk,i,g,hg,a,ha,b,hb,rfl⟩;exact ⟨_,((nA hn (by lia) (n - 1) (aae _)).2 _).mpr ⟨k,hk,jrow_at.mpr ⟨i,g,hg,rfl⟩⟩,a,ha,b,hb,rfl⟩
theorem pB (f:Nat→Int):∀ n k,k≤n→f (a5 (fun i=>[f i]) n)≤f k
  | 0,k,h=>by
    obtain rfl:k=0:=by lia
    exact aaC _
  | n+1,k,h=>by
    have ih:=pB f n;have e:a5 (fun i=>[f i]) (n+1)=if HT.lexLt [f (n+1)] [f (a5 (fun i=>[f i]) n)]=true then n+1 else a5 (fun i=>[f i]) n:=rfl
    rw [e,ye];generalize a5 (fun i=>[f i]) n=b at ih ⊢;by_cases c:decide (f (n+1) < f b)=true
    · rw [if_pos c];have c:=of_decide_eq_true c;by_cases hk:k=n+1
      · rw [hk];exact aaC _
      · have:=ih k (by lia);lia
    · rw [if_neg c];have c:¬ f (n+1) < f b:=fun z=>c (decide_eq_true z);by_cases hk:k=n+1
      · rw [hk];lia
      · exact ih k (by lia)
theorem jt {ps:List (Int × Int)} (h:ps≠[]):∃ f a b,j8 ps=[f,a,b]∧(∀ x∈j8 ps,x∈ps)∧∀ x∈ps,f.2≤x.2:=by
  have l:0 < ps.length:=List.length_pos_iff.mpr h;refine ⟨_,_,_,rfl,gO h,fun x hx=>?_⟩;obtain ⟨k,hk,e⟩:=aby hx;have ek:ps.getD k (0,0)=x:=by rw [aay,aad hk,e];rfl
  have e1:a5 (c_ sK ps) (ps.length - 1)=a5 (fun i=>[(ps.getD i (0,0)).2]) (ps.length - 1):=jB _ fun i hi=>sJ sK (by lia);rw [e1,← ek];exact pB (fun i=>(ps.getD i (0,0)).2) (ps.length - 1) k (by lia)
def Kpt (ns:List Int) (gs:List Sg) (lo:List (Int × Int)) (q:Int × Int) (w:Wy):Prop:=w.nums=slice ns q∧w.within gs∧∀ p∈w.tr.all q.1,p∉lo
theorem fC {ns:List Int} {gs:List Sg} {lo:List (Int × Int)} {q:Int × Int} {w:Wy} (h0:0≤q.1) (h1:q.1≤q.2) (h2:q.2 < ns.length) (h:Kpt ns gs lo q w):w.size=(q.2 - q.1+1).toNat:=by
  rw [← l5 h0 h1 h2,← h.1,w.nums_len]
theorem uy {ns:List Int} {gs:List Sg} {lo:List (Int × Int)} {q:Int × Int} {g:Sg} {l r:Wy} (h0:0≤q.1) (h1:q.1≤q.2) (h2:q.2 < ns.length) (h:Kpt ns gs lo q (.node g l r)) :
    q∉lo∧g∈gs∧∃ k:Nat,k+1=l.size∧q.1+(k:Int) < q.2∧Kpt ns gs lo (q.1,q.1+(k:Int)) l∧Kpt ns gs lo (q.1+(k:Int)+1,q.2) r:=by
  have hs:=fC h0 h1 h2 h;have hs:l.size+r.size=(q.2 - q.1+1).toNat:=hs;have pl:=l.size_pos;have pr:=r.size_pos;obtain ⟨e,hw,hl⟩:=h;have e:l.nums++r.nums=slice ns q:=e;obtain ⟨k,hk⟩:∃ k:Nat,k+1=l.size:=⟨l.size - 1,by lia⟩
  have hc:q.1+(k:Int) < q.2:=by lia
  have hsp:=l7 (ns:=ns) (q:=q) (c:=q.1+(k:Int)) h0 (by lia) hc;rw [← e] at hsp;obtain ⟨e1,e2⟩:=List.append_inj hsp (by rw [l5 (q:=(q.1,q.1+(k:Int))) h0 (by simp only;lia) (by simp only;lia),l.nums_len];simp only;lia);have top:(q.1,q.1+((l.tr.size+r.tr.size:Nat):Int) - 1)=q:=by
    rw [l.tr_size,r.tr_size];obtain ⟨a,b⟩:=q;simp only at *;congr 1;lia
  refine ⟨?_,hw.1,k,hk,hc,⟨e1.symm,hw.2.1,fun p hp=>hl p ?_⟩,⟨e2.symm,hw.2.2,fun p hp=>hl p ?_⟩⟩
  · have:=hl _ (aav (a:=(q.1,q.1+((l.tr.size+r.tr.size:Nat):Int) - 1)) (l:=l.tr.all q.1++r.tr.all (q.1+(l.tr.size:Int))))
    rwa [top] at this
  · exact aai _ (aaG _ hp)
  · refine aai _ (aab _ ?_);rw [l.tr_size,← hk];have : q.1+(k:Int)+1=q.1+((k+1:Nat):Int):=by lia
    rw [← this];exact hp
theorem uz {ns:List Int} {gs:List Sg} {lo:List (Int × Int)} {q:Int × Int} {g:Sg} {l r:Wy} {k:Nat} (h0:0≤q.1) (h2:q.2 < ns.length) (hc:q.1+(k:Int) < q.2) (hq:q∉lo) (hg:g∈gs) (hl:Kpt ns gs lo (q.1,q.1+(k:Int)) l) (hr:Kpt ns gs lo (q.1+(k:Int)+1,q.2) r):Kpt ns gs lo q (.node g l r)∧l.size=k+1∧l.size+r.size=(q.2 - q.1+1).toNat:=by
  have sl:=fC (q:=(q.1,q.1+(k:Int))) h0 (by simp only;lia) (by simp only;lia) hl;have sr:=fC (q:=(q.1+(k:Int)+1,q.2)) (by simp only;lia) (by simp only;lia) h2 hr;simp only at sl sr;have top:(q.1,q.1+((l.tr.size+r.tr.size:Nat):Int) - 1)=q:=by
    rw [l.tr_size,r.tr_size];obtain ⟨a,b⟩:=q;simp only at *;congr 1;lia
  refine ⟨⟨?_,⟨hg,hl.2.1,hr.2.1⟩,fun p hp=>?_⟩,by lia,by lia⟩
  · show l.nums++r.nums=_;rw [hl.1,hr.1,l7 (ns:=ns) (q:=q) (c:=q.1+(k:Int)) h0 (by lia) hc]
  · rcases aao.mp hp with e|hp
    · rw [e,top];exact hq
    · rcases aap.mp hp with hp|hp
      · exact hl.2.2 p hp
      · rw [l.tr_size,show q.1+(l.size:Int)=q.1+(k:Int)+1 by lia] at hp;exact hr.2.2 p hp
theorem eY {ns:List Int} {gs:List Sg} {lo:List (Int × Int)} {L:Int × Int→List (Int × Int)} (hs:gs.length≤3) (nd:gs.Nodup) (h9:ns.length≤9) (hL:∀ q:Int × Int,0≤q.1→q.1≤q.2→q.2 < ns.length→lW ns gs lo L q):∀ (m:Nat) (q:Int × Int),0≤q.1→q.1≤q.2→q.2 < ns.length→(q.2 - q.1).toNat=m →
    (∀ x∈L q,∃ w,Kpt ns gs lo q w∧x=(w.wv,w.nr gs))∧∀ w,Kpt ns gs lo q w→∃ f dz,L q=f :: dz∧f.2≤w.nr gs:=by
  intro m
  induction m using Nat.strongRecOn with
  | _ m ih =>
    intro q h0 h1 h2 hm;have he:=hL q h0 h1 h2;unfold lW at he;obtain ⟨n,hn⟩:∃ n,(q.2 - q.1+1).toNat=n:=⟨_,rfl⟩
    by_cases e:q.1=q.2
    · have ef:fnd ns gs L q=[(ns.getD q.1.toNat 0,0)]:=by unfold fnd;rw [if_pos e]
      have es:=rQ h0 e h2;constructor
      · intro x hx;by_cases c:q∈lo
        · rw [he,if_neg (fun z=>z.2 c)] at hx;cases hx
        · rw [he,if_pos ⟨by rw [ef];simp,c⟩] at hx;have:=gO (by rw [ef];simp) x hx;rw [ef] at this;rw [aam.mp this];refine ⟨.num (ns.getD q.1.toNat 0),⟨es.symm,trivial,fun p hp=>?_⟩,rfl⟩;have : p=(q.1,q.1):=by simpa [Wy.tr,Tr.all] using hp
          rw [this];have : (q.1,q.1)=q:=by
            obtain ⟨a,b⟩:=q;simp only at *;rw [e]
          rw [this];exact c
      · intro w hw;have hz:=fC h0 h1 h2 hw;have c:q∉lo:=by
          have:=hw.2.2 _ (w.tr.top q.1);rw [w.tr_size,hz] at this;have eq:(q.1,q.1+(((q.2 - q.1+1).toNat:Nat):Int) - 1)=q:=by
            obtain ⟨a,b⟩:=q;simp only at *;congr 1;lia
          rwa [eq] at this
        obtain ⟨f,a,b,hp,hin,hmin⟩:=jt (ps:=fnd ns gs L q) (by rw [ef];simp);refine ⟨f,[a,b],by rw [he,if_pos ⟨by rw [ef];simp,c⟩,hp],?_⟩;have hf:=hin f (by rw [hp];simp);rw [ef] at hf;rw [aam.mp hf];exact (w.nr_bd hs hw.2.1 (by lia)).1
    · have hlt:q.1 < q.2:=by lia
      have sub1:∀ k:Nat,k < n - 1→_:=fun k hk=>ih k (by lia) (q.1,q.1+(k:Int)) h0 (by simp only;lia) (by simp only;lia) (by simp only;lia);have sub2:∀ k:Nat,k < n - 1→_:=fun k hk=>ih (q.2 - (q.1+(k:Int)+1)).toNat (by lia) (q.1+(k:Int)+1,q.2) (by simp only;lia) (by simp only;lia) h2 rfl;constructor
      · intro x hx;by_cases c:fnd ns gs L q≠[]∧q∉lo
        · rw [he,if_pos c] at hx;have hxm:=gO c.1 x hx;obtain ⟨k,hk,i,g,hg,a,ha,b,hb,rfl⟩:=(rp hn hlt).mp hxm;obtain ⟨wl,kl,rfl⟩:=(sub1 k hk).1 a ha;obtain ⟨wr,kr,rfl⟩:=(sub2 k hk).1 b hb;obtain ⟨kj,zl,zs⟩:=uz h0 h2 (by lia) c.2 (aax hg) kl kr;refine ⟨.node g wl wr,kj,?_⟩;have ei:gs.idxOf g=i:=by
            have h1:=(aan.mp hg)
            obtain ⟨hi,hgi⟩:=h1;rw [← hgi];exact List.Nodup.idxOf_getElem nd i hi
          have zr:wr.size=n - (1+k):=by lia
          show (_,_)=((Wy.node g wl wr).wv,prs gs.length (wl.size+wr.size) (wl.size - 1)+((((gs.idxOf g:Nat):Int) * cn gs.length wl.size+wl.nr gs) * cn gs.length wr.size+wr.nr gs))
          rw [ei,zs,hn,zl,zr,show k+1 - 1=k by lia,show k+1=1+k by lia];congr 1;show _+_+wl.nr gs * _+wr.nr gs=_;rw [abI,acm];lia
        · rw [he,if_neg c] at hx;cases hx
      · intro w hw;cases w with
        | num i =>
          have:=fC h0 h1 h2 hw;have : 1=(q.2 - q.1+1).toNat:=this;lia
        | node g l r =>
          obtain ⟨c,hg,k,hk,hc,kl,kr⟩:=uy h0 h1 h2 hw;have hkn:k < n - 1:=by lia
          obtain ⟨fl,rl,el,ll⟩:=(sub1 k hkn).2 l kl;obtain ⟨fr,rr,er,lr⟩:=(sub2 k hkn).2 r kr;obtain ⟨i1,ig⟩:=qw hg;have zs:=fC h0 h1 h2 hw;have zs:l.size+r.size=(q.2 - q.1+1).toNat:=zs;have zr:r.size=n - (1+k):=by lia
          have hx:=(rp (ns:=ns) (gs:=gs) (L:=L) hn hlt).mpr ⟨k,hkn,gs.idxOf g,g,ig,fl,by rw [el];simp,fr,by rw [er];simp,rfl⟩;have hne:fnd ns gs L q≠[]:=List.ne_nil_of_mem hx;obtain ⟨f,a,b,hp,hin,hmin⟩:=jt hne;refine ⟨f,[a,b],by rw [he,if_pos ⟨hne,c⟩,hp],?_⟩;refine Int.le_trans (hmin _ hx) ?_;show prs gs.length n k+((gs.idxOf g:Nat):Int) * (cn gs.length (1+k) * cn gs.length (n - (1+k)))+fl.2 * cn gs.length (n - (1+k))+fr.2≤prs gs.length (l.size+r.size) (l.size - 1)+((((gs.idxOf g:Nat):Int) * cn gs.length l.size+l.nr gs) * cn gs.length r.size+r.nr gs);rw [zs,hn,← hk,zr,show k+1 - 1=k by lia,show k+1=1+k by lia,abI,acm];have c0:=(iP gs.length hs (n - (1+k)) (by lia)).1;have:=aa2 ll c0;lia
open PySem L2
def Bd (n:Nat):Int:=10 ^ (4 * n)
theorem lB (n:Nat):0 < Bd n:=by unfold Bd;exact Int.pow_pos (by decide)
theorem vd (a b:Nat):Bd a * Bd b=Bd (a+b):=by
  unfold Bd;rw [← Int.pow_add];congr 1;lia
theorem ve {a b:Nat} (h:a≤b):Bd a≤Bd b:=by
  obtain ⟨c,rfl⟩:=Nat.exists_eq_add_of_le h;rw [← vd];have:=lB a;have h2:1≤Bd c:=lB c
  calc Bd a=Bd a * 1:=(Int.mul_one _).symm
    _≤Bd a * Bd c:=Int.mul_le_mul_of_nonneg_left h2 (abX this)
theorem qI {n:Nat} (h:n≤10) {x:Int} (h0:0≤x) (h1:x≤Bd n):x.natAbs < 2 ^ 4000:=by
  have a:=ve h;have b:Bd 10 < 2 ^ 4000:=by decide +kernel
  have c:((x.natAbs:Nat):Int)=x:=by lia
  have d:((2 ^ 4000:Nat):Int)=2 ^ 4000:=Int.natCast_pow 2 4000;have e:((x.natAbs:Nat):Int) < ((2 ^ 4000:Nat):Int):=by rw [c,d];lia
  exact Int.ofNat_lt.mp e
structure Ck (L:List (Int × Int)) (p:Int × Int) (v:Int):Prop where
  nn:0≤v
  le:v * 100≤Bd (p.2 - p.1+1).toNat
  iff:0 < v↔AV L p.1 (p.2 - p.1+1).toNat
theorem pJ:∀ l:List Int,(∀ x∈l,0≤x)→0≤l.sum
  | [],_=>by simp
  | a :: r,h=>by
    have:=pJ r fun x hx=>h x (aai _ hx);have:=h a aav;rw [abJ];lia
theorem jr:∀ l:List Int,(∀ x∈l,0≤x)→(0 < l.sum↔∃ x∈l,0 < x)
  | [],_=>by simp
  | a :: r,h=>by
    have ih:=jr r fun x hx=>h x (aai _ hx);have h1:=pJ r fun x hx=>h x (aai _ hx);have h2:=h a aav;rw [abJ];constructor
    · intro z;by_cases c:0 < a
      · exact ⟨a,aav,c⟩
      · obtain ⟨x,hx,hx2⟩:=ih.mp (by lia);exact ⟨x,aai _ hx,hx2⟩
    · rintro ⟨x,hx,hx2⟩;rcases aao.mp hx with e|hx
      · subst e;lia
      · have:=ih.mpr ⟨x,hx,hx2⟩;lia
theorem sZ (B:Int):∀ l:List Int,(∀ x∈l,x≤B)→l.sum≤(l.length:Int) * B
  | [],_=>by simp
  | a :: r,h=>by
    have ih:=sZ B r fun x hx=>h x (aai _ hx);have:=h a aav;rw [abJ,aaF];have e:((r.length+1:Nat):Int) * B=(r.length:Int) * B+B:=by rw [Int.natCast_succ,abI,acb]
    rw [e];lia
theorem gH {a b:Int} (ha:0≤a) (hb:0≤b):0 < a * b↔0 < a∧0 < b:=by
  constructor
  · intro h;refine ⟨?_,?_⟩
    · rcases Int.lt_or_eq_of_le ha with h1|h1
      · exact h1
      · rw [← h1] at h;simp at h
    · rcases Int.lt_or_eq_of_le hb with h1|h1
      · exact h1
      · rw [← h1] at h;simp at h
  · intro ⟨h1,h2⟩;exact Int.mul_pos h1 h2
theorem Ck.join {L:List (Int × Int)} {p:Int × Int} {xs:List Int} {s:Int} (h1:0≤p.1) (h2:p.1 < p.2) (h3:p.2 < 9) (hL:p∉L) (hs:1≤s∧s≤3) (hx:Paired (fun c x=>∃ a b,x=a * b∧Ck L (p.1,c) a∧Ck L (c+1,p.2) b) (bf p) xs) :
    (xs.sum).natAbs < 2 ^ 4000∧Ck L p (s * xs.sum):=by
  have hlen:xs.length≤8:=by have:=hx.length;rw [← this];simp [bf];lia
  have hall:∀ x∈xs,0≤x∧x * 10000≤Bd (p.2 - p.1+1).toNat:=fun x hm=>by
    obtain ⟨j,hj,e⟩:=aby hm;have hxj:xs[j]?=some x:=by rw [aad hj,e]
    obtain ⟨c,hc,a,b,rfl,ha,hb⟩:=Paired.at hx hxj;have hcm:c∈bf p:=aax hc;unfold bf at hcm;obtain ⟨k,hk,rfl⟩:=abr.mp hcm;have hk:=aaV.mp hk;refine ⟨abk ha.nn hb.nn,?_⟩;have e1:=ha.le;have e2:=hb.le;simp only at e1 e2;have e3:Bd (p.1+(k:Int) - p.1+1).toNat * Bd (p.2 - (p.1+(k:Int)+1)+1).toNat=Bd (p.2 - p.1+1).toNat:=by
      rw [vd];congr 1;lia
    rw [← e3];have z1:0≤a * 100:=abk ha.nn (by decide);have z2:0≤b * 100:=abk hb.nn (by decide)
    calc a * b * 10000=(a * 100) * (b * 100):=by rw [acm,acm];congr 1;lia
      _≤Bd (p.1+(k:Int) - p.1+1).toNat * (b * 100):=aa2 e1 z2
      _≤_:=Int.mul_le_mul_of_nonneg_left e2 (abX (lB _))
  have nn:=pJ xs fun x hm=>(hall x hm).1;have hB:=lB (p.2 - p.1+1).toNat;have sle:xs.sum * 10000≤8 * Bd (p.2 - p.1+1).toNat:=by
    have hle:=sZ (Bd (p.2 - p.1+1).toNat) (xs.map (· * 10000)) fun y hy=>by
      obtain ⟨x,hx,rfl⟩:=abr.mp hy;exact (hall x hx).2
    have e:(xs.map (· * 10000)).sum=xs.sum * 10000:=by
      clear hle nn hall hx hlen
      induction xs with
      | nil=>rfl
      | cons a r ih=>rw [aaH,abJ,abJ,ih,abI]
    rw [e,aak] at hle;refine Int.le_trans hle (aa2 (by lia) (abX hB))
  have sB:xs.sum≤Bd (p.2 - p.1+1).toNat:=by lia
  refine ⟨qI (n:=(p.2 - p.1+1).toNat) (by lia) nn sB,abk (by lia) nn,?_,?_⟩
  · have : s * xs.sum≤3 * xs.sum:=aa2 hs.2 nn;lia
  · rw [gH (by lia) nn];have hn:2≤(p.2 - p.1+1).toNat:=by lia
    rw [xD L p.1 _ hn,jr xs fun x hm=>(hall x hm).1];have ep:(p.1,p.1+((p.2 - p.1+1).toNat:Int) - 1)=p:=by
      obtain ⟨a,b⟩:=p;simp only at *;congr 1;lia
    rw [ep];constructor
    · rintro ⟨_,x,hm,hx0⟩;refine ⟨hL,?_⟩;obtain ⟨j,hj,e⟩:=aby hm;have hxj:xs[j]?=some x:=by rw [aad hj,e]
      obtain ⟨c,hc,a,b,rfl,ha,hb⟩:=Paired.at hx hxj;have hcm:c∈bf p:=aax hc;unfold bf at hcm;obtain ⟨k,hk,rfl⟩:=abr.mp hcm;have hk:=aaV.mp hk;obtain ⟨ha0,hb0⟩:=(gH ha.nn hb.nn).mp hx0;have A1:=ha.iff.mp ha0;have A2:=hb.iff.mp hb0;simp only at A1 A2;refine ⟨k+1,by lia,by lia,?_,?_⟩
      · rw [show (p.1+(k:Int) - p.1+1).toNat=k+1 by lia] at A1;exact A1
      · rw [show p.1+(k:Int)+1=p.1+((k+1:Nat):Int) by lia,show (p.2 - (p.1+((k+1:Nat):Int))+1).toNat=(p.2 - p.1+1).toNat - (k+1) by lia] at A2;exact A2
    · rintro ⟨_,k,k1,k2,A1,A2⟩;refine ⟨by lia,?_⟩;have hc:(bf p)[k - 1]?=some (p.1+((k - 1:Nat):Int)):=by
        unfold bf;rw [aaX,List.getElem?_range (by lia)];rfl
      have hj:k - 1 < xs.length:=by
        have:=hx.length;rw [← this];simp [bf];lia
      obtain ⟨c,hc',a,b,e,ha,hb⟩:=Paired.at hx (aad hj);rw [hc] at hc';cases hc';refine ⟨xs[k - 1],abz hj,?_⟩;rw [e,gH ha.nn hb.nn];refine ⟨ha.iff.mpr ?_,hb.iff.mpr ?_⟩
      · simp only;rw [show (p.1+((k - 1:Nat):Int) - p.1+1).toNat=k by lia];exact A1
      · simp only;rw [show p.1+((k - 1:Nat):Int)+1=p.1+(k:Int) by lia,show (p.2 - (p.1+(k:Int))+1).toNat=(p.2 - p.1+1).toNat - k by lia];exact A2
theorem Ck.out {L:List (Int × Int)} {p:Int × Int} (h2:p.1≤p.2) (hL:p∈L):Ck L p 0:=by
  refine ⟨aaC _,by have:=lB (p.2 - p.1+1).toNat;lia,⟨fun h=>absurd h (by decide),fun h=>?_⟩⟩
  exfalso
  obtain ⟨t,h1,h2⟩:=h;have:=t.top p.1;rw [h1] at this;have ep:(p.1,p.1+((p.2 - p.1+1).toNat:Int) - 1)=p:=by
    obtain ⟨a,b⟩:=p;simp only at *;congr 1;lia
  rw [ep] at this;exact h2 p this hL
theorem Ck.one {L:List (Int × Int)} {p:Int × Int} (h2:p.1=p.2) (hL:p∉L):Ck L p 1:=by
  have e:(p.2 - p.1+1).toNat=1:=by lia
  refine ⟨by decide,by rw [e];decide,⟨fun _=>?_,fun _=>by decide⟩⟩;rw [e,xC];have : (p.1,p.1)=p:=by
    obtain ⟨a,b⟩:=p;simp only at *;rw [h2]
  rw [this];exact hL
def k_ (s:Nat) (L:List (Int × Int)):Nat→Int × Int→Int
  | 0,_=>0
  | m+1,q=>if q∈L then 0 else if q.1=q.2 then 1 else (s:Int) * ((bf q).map fun c=>k_ s L m (q.1,c) * k_ s L m (c+1,q.2)).sum
theorem gT (s:Nat) (L:List (Int × Int)):∀ (m m':Nat) (q:Int × Int),q.1≤q.2→(q.2 - q.1+1).toNat≤m→(q.2 - q.1+1).toNat≤m'→k_ s L m q=k_ s L m' q
  | 0,m',q,h,h1,h2=>by lia
  | m+1,0,q,h,h1,h2=>by lia
  | m+1,m'+1,q,h,h1,h2=>by
    unfold k_;by_cases c:q∈L
    · rw [if_pos c,if_pos c]
    rw [if_neg c,if_neg c];by_cases e:q.1=q.2
    · rw [if_pos e,if_pos e]
    rw [if_neg e,if_neg e];congr 2;refine List.map_congr_left fun c hc=>?_;have hc:=rJ hc;rw [gT s L m m' (q.1,c) (by simp only;lia) (by simp only;lia) (by simp only;lia),gT s L m m' (c+1,q.2) (by simp only;lia) (by simp only;lia) (by simp only;lia)]
def cnt (s:Nat) (L:List (Int × Int)) (q:Int × Int):Int:=k_ s L 10 q
theorem vT {s:Nat} {L:List (Int × Int)} {q:Int × Int} (h:q∈L):cnt s L q=0:=by
  unfold cnt k_;rw [if_pos h]
theorem vU {s:Nat} {L:List (Int × Int)} {q:Int × Int} (h:q∉L) (e:q.1=q.2):cnt s L q=1:=by
  unfold cnt k_;rw [if_neg h,if_pos e]
theorem vV {s:Nat} {L:List (Int × Int)} {q:Int × Int} (h:q∉L) (e:q.1 < q.2) (h9:q.2 - q.1 < 9):cnt s L q=(s:Int) * ((bf q).map fun c=>cnt s L (q.1,c) * cnt s L (c+1,q.2)).sum:=by
  have : cnt s L q=(s:Int) * ((bf q).map fun c=>k_ s L 9 (q.1,c) * k_ s L 9 (c+1,q.2)).sum:=by
    unfold cnt;rw [k_,if_neg h,if_neg (by lia)]
  rw [this];congr 2;refine List.map_congr_left fun c hc=>?_;have hc:=rJ hc;unfold cnt;rw [gT s L 9 10 (q.1,c) (by simp only;lia) (by simp only;lia) (by simp only;lia),gT s L 9 10 (c+1,q.2) (by simp only;lia) (by simp only;lia) (by simp only;lia)]
def CkE (s:Nat) (L:List (Int × Int)) (p:Int × Int) (v:Int):Prop:=Ck L p v∧v=cnt s L p
def CsE (s:Nat) (L:List (Int × Int)) (kvs:List (List Key × V)) (ps:List (Int × Int)):Prop:=∀ p∈ps,∃ v,dR kvs (ky p)=some (.int v)∧CkE s L p v
theorem CsE.put {s:Nat} {L:List (Int × Int)} {kvs:List (List Key × V)} {ps:List (Int × Int)} {p:Int × Int} {v:Int} (h:CsE s L kvs ps) (c:CkE s L p v):CsE s L (eW kvs (ky p) (.int v)) (ps++[p]):=fun q hq=>by
  rw [jO];by_cases e:ky q=ky p
  · rw [if_pos e];have:=qr e;subst this;exact ⟨v,rfl,c⟩
  · rw [if_neg e];rcases aap.mp hq with hq|hq
    · exact h q hq
    · exact absurd (by rw [aam.mp hq]) e
theorem nM {s:Nat} {L:List (Int × Int)} {p:Int × Int}:∀ {cs xs:List Int},Paired (fun c x=>∃ a b,x=a * b∧CkE s L (p.1,c) a∧CkE s L (c+1,p.2) b) cs xs→Paired (fun c x=>∃ a b,x=a * b∧Ck L (p.1,c) a∧Ck L (c+1,p.2) b) cs xs∧xs=cs.map fun c=>cnt s L (p.1,c) * cnt s L (c+1,p.2)
  | _,_,.nil=>⟨.nil,rfl⟩
  | _,_,.cons r t=>by
    obtain ⟨a,b,rfl,c1,c2⟩:=r;obtain ⟨i1,i2⟩:=nM t;exact ⟨.cons ⟨a,b,rfl,c1.1,c2.1⟩ i1,by rw [aaH,← i2,c1.2,c2.2]⟩
section
variable {P:Program} {w:World} {K:aaa} {mg:Str→Option Value} {base:Heap} {f:Addr} {fd:FuncData}
def mP:Sp:=fun vs H Q _=>∃ p q x y,vs=[x,y]∧PairIn H p x∧PairIn H q y∧Q (.bl (decide (hX p q))) H
abbrev im:Stmt:=top 50
theorem on:FnScope ["one","other"] ["one","other"] (aj im):=⟨rfl,rfl,rfl,by decide +kernel,rfl,by decide +kernel,by decide +kernel⟩
theorem oO (F:Fun K "do_cross" "do_cross" im f fd):FnOk P w K mg base CX0 1 f fd ["one","other"] mP:=by
  refine F.ok on (fun vs H Q E h=>?_) (fun cdv A outer s H vs Q E hr h=>?_)
  · obtain ⟨p,q,x,y,rfl,_⟩:=h;rfl
  obtain ⟨p,q,x,y,rfl,⟨a,rfl,ha⟩,⟨b,rfl,hb⟩,qq⟩:=h;refine ⟨_,(@ai _ _ _ (@az _ _ _ _ (@x_ _ _ _ _ _ _ _ (@jc _ _ _ _ _ _ _ _ _ _ _ _ _ _ _ _ j_ kc j_ (@aY _ _ _ _ _ _ _ bv (pv 0) af (fun _ _=>rfl)) (@aY _ _ _ _ _ _ _ bv (pv 1) af (fun _ _=>rfl)) (@aY _ _ _ _ _ _ _ bv (pv 0) af (fun _ _=>rfl)) (@aY _ _ _ _ _ _ _ bv (pv 1) af (fun _ _=>rfl)) (by with_unfolding_all rfl)) (@jb _ _ _ _ _ (@jc _ _ _ _ _ _ _ _ _ _ _ _ _ _ _ _ j_ kc j_ (@aY _ _ _ _ _ _ _ bv (pv 1) af (fun _ _=>rfl)) (@aY _ _ _ _ _ _ _ bv (pv 0) af (fun _ _=>rfl)) (@aY _ _ _ _ _ _ _ bv (pv 1) af (fun _ _=>rfl)) (@aY _ _ _ _ _ _ _ bv (pv 0) af (fun _ _=>rfl)) (by with_unfolding_all rfl)))))),?_⟩;have c1:∀ k:Bool,decide (hX p q)=k→Q (.bl k) H:=fun k h=>by rw [← h];exact qq
  refine yw (A:=¬ (p.1 < q.1∧q.1≤p.2∧p.2 < q.2)→_) ?second fun second=>⟨_,rfl,a,_,_,_,rfl,rfl,SqT.of ha,rfl,_,rfl,b,_,_,_,rfl,rfl,SqT.of hb,rfl,_,_,rfl,rfl,_,rfl,dQ (fun h1=>⟨_,rfl,a,_,_,_,rfl,rfl,SqT.of ha,rfl,_,_,rfl,rfl,_,rfl,dQ (fun h2=>⟨_,rfl,b,_,_,_,rfl,rfl,SqT.of hb,rfl,_,_,rfl,rfl,_,rfl,dQ (fun h3=>?_) (fun h3=>second fun z=>h3 (decide_eq_true z.2.2))⟩) (fun h2=>⟨_,rfl,aV (second fun z=>h2 (decide_eq_true z.2.1))⟩)⟩) (fun h1=>⟨_,rfl,aV (second fun z=>h1 (decide_eq_true z.1))⟩)⟩
  case second =>
    intro hn;refine ⟨_,rfl,b,_,_,_,rfl,rfl,SqT.of hb,rfl,_,rfl,a,_,_,_,rfl,rfl,SqT.of ha,rfl,_,_,rfl,rfl,_,rfl,dQ (fun h1=>⟨_,rfl,b,_,_,_,rfl,rfl,SqT.of hb,rfl,_,_,rfl,rfl,_,rfl,dQ (fun h2=>⟨_,rfl,a,_,_,_,rfl,rfl,SqT.of ha,rfl,_,_,rfl,rfl,?_⟩) (fun h2=>c1 _ (decide_eq_false fun z=>z.elim hn fun z=>h2 (decide_eq_true z.2.1)))⟩) (fun h1=>c1 _ (decide_eq_false fun z=>z.elim hn fun z=>h1 (decide_eq_true z.1)))⟩;have h1:q.1 < p.1:=of_decide_eq_true h1;have h2:p.1≤q.2:=of_decide_eq_true h2;refine c1 _ ?_;show decide (hX p q)=decide (q.2 < p.2);by_cases z:q.2 < p.2
    · rw [decide_eq_true z];exact decide_eq_true (.inr ⟨h1,h2,z⟩)
    · rw [decide_eq_false z];exact decide_eq_false fun y=>y.elim hn fun y=>z y.2.2
  exact c1 _ (decide_eq_true (.inl ⟨of_decide_eq_true h1,of_decide_eq_true h2,of_decide_eq_true h3⟩))
def rP:Sp:=fun vs H Q _=>∃ (n:Nat) (hs bs:List (Int × Int)) (v:V),vs=[.int n,v]∧n≤9∧HdIn H hs bs v∧hs.length≤100∧∀ a us H',Same H H'→H a=none→H' a=some (.lst us)→PairsIn H' (lo n hs bs) us→Q (.ref a) H'
abbrev dJ:Stmt:=top 49
theorem dq:FnScope ["many","holds","held","barred"] ["many","holds"] (aj dJ):=⟨rfl,rfl,rfl,by decide +kernel,rfl,by decide +kernel,by decide +kernel⟩
theorem oG (F:Fun K "list_left_out" "list_left_out" dJ f fd) (B:Bu K mg) (C_shorter_first:Cal P w K mg base "shorter_first" 1 ["many"] rO) (C_do_cross:Cal P w K mg base "do_cross" 1 ["one","other"] mP):FnOk P w K mg base CX0 2 f fd ["many","holds"] rP:=by
  refine F.ok dq (fun vs H Q E h=>?_) (fun cdv A outer s H vs Q E hr h=>?_)
  · obtain ⟨n,hs,bs,v,rfl,_⟩:=h;rfl
  obtain ⟨n,hs,bs,v,rfl,h9,⟨a,x,y,rfl,ha,⟨ah,uh,rfl,eah,ph⟩,⟨ab,ub,rfl,eab,pb⟩⟩,hl,q⟩:=h;refine ⟨_,(@ag _ _ _ _ _ (@fj _ _ _ _ _ _ (pv 1) (@eK _ _ _ _ _ _ rfl (@aQ _ _ _ _ _ (@ao _ _ (2) _ (dq).nd rfl (Or.inr rfl) (.inl rfl)) (@aQ _ _ _ _ _ (@ao _ _ (3) _ (dq).nd rfl (Or.inr rfl) (.inl rfl)) cu (by rfl)) (by rfl)) (by rfl) (by rfl)) (by rfl) (by rfl) (by rfl)) (@ai _ _ _ (@az _ _ _ _ (@wZ _ ("stretch") _ _ _ _ _ _ _ (["stretch","barred","held"]) ([none,some 3,some 2]) _ _ _ _ rfl (@bu _ _ _ _ (@al _ _ _ _ _ _ _ _ _ _ _ C_shorter_first hr (by lia) rfl (@aa _ _ _ _ _ (pv 0) ac (by rfl)) (by decide) (by rfl) (by rfl))) rfl ⟨rfl,⟨rfl,trivial⟩⟩ ⟨⟨rfl,Or.inl rfl,Or.inl rfl⟩,⟨⟨rfl,Or.inl rfl,Or.inl rfl⟩,trivial⟩⟩ (fun _ _ _ _=>⟨(@ao _ _ (0) _ (show aaP (["stretch","barred","held"]:List Str) by decide +kernel) rfl (Or.inr rfl) (by first|exact .inl rfl|exact .inr rfl|assumption)),(@eJ _ _ _ (@PW.pt _ _ _ (@g_ _ _ _ _ _ _ _ (@aJ _ _ _ _ _ _ _ _ (@tW _ _ rfl hr.units) (pv 0) (pv 1) (by with_unfolding_all rfl)) (@gE _ _ _ _ (@fV _ _ _ (@am _ _ _ _ _ _ _ _ _ (@sT _ _ rfl rfl) rfl B.iany PyProof.Rows.boot_any (@aa _ _ _ _ _ (@fA _ _ _ _ _ _ _ _ (["other","stretch"]) ([none,some 0]) _ _ _ _ rfl (@tP _ _ _ _ _ rfl (pv 2)) rfl ⟨rfl,trivial⟩ ⟨⟨rfl,Or.inl rfl,Or.inl rfl⟩,trivial⟩ (fun _ _ _ _=>⟨(@ao _ _ (0) _ (show aaP (["other","stretch"]:List Str) by decide +kernel) rfl (Or.inl rfl) (.inr rfl)),bZ,(@al _ _ _ _ _ _ _ _ _ _ _ C_do_cross hr (by lia) rfl (@aa _ _ _ _ _ (pv 1) (@aa _ _ _ _ _ (pv 0) ac (by rfl)) (by rfl)) (by decide) (by rfl) (by rfl))⟩) (by rfl) (by rfl) (by rfl) (by rfl) (by intro _;rfl)) ac (by rfl)) (by decide) (by decide) (by rfl) (by rfl)) (by intro _;rfl)))))),(pv 0)⟩) (by intro _ _;rfl) (by intro _;rfl) (by rfl) (by rfl) (by rfl) (by rfl) (by intro _;rfl))))),?_⟩;refine ⟨_,rfl,a,_,rfl,SqT.of ha,rfl,_,_,rfl,_,_,rfl,rfl,?_⟩;refine ⟨_,rfl,n,rfl,h9,fun pl us H1 s1 _ el hus=>?_⟩;refine ⟨pl,rfl,⟨_,SqL.of el⟩,?_⟩;have lus:=hus.length;have l81:=jJ n n;have l81':n * n≤9 * 9:=abB h9 h9;have lh:=ph.length;refine eV (Trn.list (xs:=us)) (fun i ys H'=>Same H1 H'∧PairsIn H' (((sfl n n).take i).filter (lob hs bs)) ys) ⟨Same.refl _,.nil⟩ (fun i ys H' hi z=>⟨SqL.of (z.1 _ _ el),aU (by have:=z.2.length;have h2:=List.length_filter_le (lob hs bs) ((sfl n n).take i);rw [aaz] at h2;lia)⟩) (fun i x ys H0 H' hi hx z Nx nx=>?_) (fun ys H' z p5 n5=>?_)
  · obtain ⟨rfl,hx⟩:=hx;obtain ⟨S,hp⟩:=z;obtain ⟨r,hri,hrr0⟩:=cF hus hx;have hrr:=PairIn.mono (Tups.of S) hrr0;have SS:=s1.trans S;have etake:((sfl n n).take (i+1)).filter (lob hs bs)=((sfl n n).take i).filter (lob hs bs)++(if lob hs bs r=true then [r] else []):=by
      rw [aaR,hri,List.filter_append];by_cases c:lob hs bs r=true
      · rw [if_pos c];simp [c]
      · rw [if_neg c];simp [c]
    refine ⟨_,rfl,_,rfl,r,ab,_,_,hrr,rfl,SqL.of (SS _ _ eab),PairsIn.mono (Tups.of SS) pb,_,rfl,dQ (fun c=>?_) (fun c=>?_)⟩
    · have c:r∈bs:=of_decide_eq_true c;have hb:lob hs bs r=true:=by unfold lob;rw [decide_eq_true c];rfl
      refine ⟨_,rfl,nx _ _ ⟨S,?_⟩⟩;rw [etake,if_pos hb];exact PairsIn.snoc hp hrr
    · have c:r∉bs:=fun z=>c (decide_eq_true z);refine ⟨_,rfl,ah,rfl,⟨_,SqL.of (SS _ _ eah)⟩,?_⟩;refine eV (Trn.list (xs:=uh)) (fun j zs H2=>H2=H'∧zs=((hs.take j).map fun h=>decide (hX r h)).map V.bl) ⟨rfl,rfl⟩ (fun j zs H2 hj z=>by rw [z.1,z.2];exact ⟨SqL.of (SS _ _ eah),aU (by simp;lia)⟩) (fun j y zs H0 H2 hj hy z Ny ny=>?_) (fun zs H2 z p6 n6=>?_)
      · obtain ⟨rfl,hy⟩:=hy;obtain ⟨rfl,rfl⟩:=z;obtain ⟨o,ho1,ho2⟩:=cF (PairsIn.mono (Tups.of SS) ph) hy;refine ⟨_,rfl,_,rfl,r,o,_,_,rfl,hrr,ho2,ny _ _ ⟨rfl,?_⟩⟩;rw [aaR,ho1,aaK,aaK];rfl
      obtain ⟨rfl,rfl⟩:=z;rw [← lh,aa5];have s6:=Same.new n6 (.lst ((hs.map fun h=>decide (hX r h)).map V.bl));refine ⟨p6,_,rfl,SqL.of ae,?_⟩;have eb:(hs.map fun h=>decide (hX r h)).any id=lob hs bs r:=by
        unfold lob;rw [decide_eq_false c,List.any_map,Bool.false_or];rfl
      rw [eb];generalize upd H2 p6 (.lst ((hs.map fun h=>decide (hX r h)).map V.bl))=H3 at s6 ⊢;refine ⟨_,rfl,?_⟩;cases hb:lob hs bs r with
      | true =>
        refine cD ⟨_,rfl,nx _ _ ⟨S.trans s6,?_⟩⟩;rw [etake,if_pos hb];exact PairsIn.snoc (PairsIn.mono (Tups.of s6) hp) (PairIn.mono (Tups.of s6) hrr)
      | false =>
        refine aV (nx _ _ ⟨S.trans s6,?_⟩);rw [etake,if_neg (by rw [hb];decide),abM];exact PairsIn.mono (Tups.of s6) hp
  · obtain ⟨S,hp⟩:=z;rw [← lus,aa5] at hp;have s5:=Same.new n5 (.lst ys);exact q p5 ys _ ((s1.trans S).trans s5) ((s1.trans S).free n5) ae (PairsIn.mono (Tups.of s5) hp)
end
section
variable {P:Program} {w:World} {K:aaa} {mg:Str→Option Value} {base:Heap} {f:Addr} {fd:FuncData}
def tz:Sp:=fun vs H Q _=>∃ (n:Nat) (gs:List Sg) (l:Addr) (L:List (Int × Int)) (us:List V),vs=[.int n,.str (aC gs),.ref l]∧1≤n∧n≤9∧1≤gs.length∧gs.length≤3∧H l=some (.lst us)∧PairsIn H L us ∧
  ∀ H',Same H H'→Q (.int (cnt gs.length L (0,(n:Int) - 1))) H'
abbrev fR:Stmt:=top 51
theorem ff:FnScope ["many","signs","left_out","counts","stretch"] ["many","signs","left_out"] (aj fR):=⟨rfl,rfl,rfl,by decide +kernel,rfl,by decide +kernel,by decide +kernel⟩
theorem lR (F:Fun K "count_kept" "count_kept" fR f fd) (B:Bu K mg) (C_shorter_first:Cal P w K mg base "shorter_first" 1 ["many"] rO) (C_cuts_of:Cal P w K mg base "cuts_of" 1 ["stretch"] mO):FnOk P w K mg base CX0 2 f fd ["many","signs","left_out"] tz:=by
  refine F.ok ff (fun vs H Q E h=>?_) (fun cdv A outer s H vs Q E hr h=>?_)
  · obtain ⟨n,gs,l,L,us,rfl,_⟩:=h;rfl
  obtain ⟨n,gs,l,L,us,rfl,h1,h9,g1,g3,el,hL,q⟩:=h;refine ⟨_,(@ag _ _ _ _ _ (@aD _ _ (3) _ _ _ _ (ff).nd rfl (Or.inr rfl) oy (by rfl) (by first|exact .inl rfl|exact .inr rfl|assumption)) (@ag _ _ _ _ _ (@dg _ _ _ _ _ _ _ _ aaS rfl (@bu _ _ _ _ (@al _ _ _ _ _ _ _ _ _ _ _ C_shorter_first hr (by lia) rfl (@aa _ _ _ _ _ (pv 0) ac (by rfl)) (by decide) (by rfl) (by rfl))) (@ao _ _ (4) _ (ff).nd rfl (Or.inl rfl) (.inl rfl)) (@ai _ _ _ (@bV _ _ _ _ _ _ _ _ (@aJ _ _ _ _ _ _ _ _ (@tW _ _ rfl hr.units) (pv 4) (pv 2) (by with_unfolding_all rfl)) (@ai _ _ _ (@jK _ _ _ _ _ _ _ _ _ (u1 hr.units) (pv 3) (pv 4) af rfl)) (@ai _ _ _ (@bV _ _ _ _ _ _ _ _ (@aJ _ _ _ _ _ _ _ _ eU (@aY _ _ _ _ _ _ _ bv (pv 4) af (fun _ _=>rfl)) (@aY _ _ _ _ _ _ _ bv (pv 4) af (fun _ _=>rfl)) (aX _)) (@ai _ _ _ (@jK _ _ _ _ _ _ _ _ _ (u1 hr.units) (pv 3) (pv 4) af rfl)) (@ai _ _ _ (@jK _ _ _ _ _ _ _ _ _ (u1 hr.units) (pv 3) (pv 4) (@aq _ _ _ _ _ _ _ _ iH (@am _ _ _ _ _ _ _ _ _ iQ rfl B.ilen aaL (@aa _ _ _ _ _ (pv 1) ac (by rfl)) (by decide) (by decide) (by rfl) (by rfl)) (@am _ _ _ _ _ _ _ _ _ (@pA _ rfl) rfl B.isum PyProof.Rows.boot_sum (@aa _ _ _ _ _ (@fA _ _ _ _ _ _ _ _ (["before","behind","counts"]) ([none,none,some 3]) _ _ _ _ rfl (@bu _ _ _ _ (@al _ _ _ _ _ _ _ _ _ _ _ C_cuts_of hr (by lia) rfl (@aa _ _ _ _ _ (pv 4) ac (by rfl)) (by decide) (by rfl) (by rfl))) rfl ⟨rfl,trivial⟩ ⟨⟨rfl,Or.inl rfl,Or.inl rfl⟩,trivial⟩ (fun _ _ _ _=>⟨(@iG _ _ _ _ _ _ (2) rfl rfl (@aQ _ _ _ _ _ (@ao _ _ (0) _ (show aaP (["before","behind","counts"]:List Str) by decide +kernel) rfl (Or.inl rfl) (.inr rfl)) (@aQ _ _ _ _ _ (@ao _ _ (1) _ (show aaP (["before","behind","counts"]:List Str) by decide +kernel) rfl (Or.inl rfl) (.inr rfl)) cu (by rfl)) (by rfl)) (by rfl) (by rfl)),bZ,(@aq _ _ _ _ _ _ _ _ iH (@gQ _ _ _ _ _ _ (u1 hr.units) (pv 2) (pv 0) (fun _ _=>rfl)) (@gQ _ _ _ _ _ _ (u1 hr.units) (pv 2) (pv 1) (fun _ _=>rfl)))⟩) (by rfl) (by rfl) (by rfl) (by rfl) (by intro _;rfl)) ac (by rfl)) (by decide) (by decide) (by rfl) (by rfl))) rfl)))))) (by intro _;rfl)) (@ai _ _ _ (@az _ _ _ _ (@gQ _ _ _ _ _ _ (u1 hr.units) (pv 3) (@aB _ _ _ _ _ (@aa _ _ _ _ _ af (@aa _ _ _ _ _ (@aq _ _ _ _ _ _ _ _ bX (pv 0) af) ac (by rfl)) (by rfl))) (fun _ _=>rfl)))))),?_⟩;refine fun pd nd=>?_;have sd:=Same.new nd (.dT []);have ed:upd H pd (.dT []) pd=some (.dT []):=ae;generalize upd H pd (.dT [])=H0 at sd ed ⊢;refine ⟨_,rfl,n,rfl,h9,fun pl ss H1 s1 npl epl hss=>?_⟩;have lss:=hss.length;have l81:=jJ n n;have l81':n * n≤9 * 9:=abB h9 h9;have hgl:=jS gs;have npd:pl≠pd:=fun e=>by rw [e,ed] at npl;cases npl
  have gd:∀ p∈sfl n n,0≤p.1∧p.1≤p.2∧p.2 < n:=fun p hp=>by
    unfold sfl sfR at hp;rw [ack] at hp;obtain ⟨m,hm,hp⟩:=hp;rw [List.mem_map] at hp;obtain ⟨f,hf,rfl⟩:=hp;rw [List.mem_range] at hf;simp only;lia
  refine ⟨pl,rfl,⟨_,SqL.of epl⟩,kT (xs:=ss) (fun i σ H'=>∃ c kvs,σ=[some (.int n),some (.str (aC gs)),some (.ref l),some (.ref pd),c]∧H' pd=some (.dT kvs)∧kvs.length≤i∧CsE gs.length L kvs ((sfl n n).take i)∧But pd H1 H') ⟨_,[],rfl,s1 _ _ ed,aae _,fun p hp=>by simp at hp,But.refl⟩ ?_ ?_ ?_⟩
  · rintro i σ H' _ ⟨_,_,rfl,_,_,_,bb⟩;exact SqL.of (bb _ _ npd epl)
  · rintro i x σ H' hx ⟨c,kvs,rfl,ek,lk,hk,bb⟩;obtain ⟨p,hpi,hpx⟩:=cF hss hx;have hpm:=gd p (aax hpi);have ilt:i < ss.length:=(aan.mp hx).1;have TB:Tups H1 H':=fun b xs hb=>bb b _ (fun e=>by rw [e,s1 _ _ ed] at hb;cases hb) hb;have hpx':=PairIn.mono TB hpx;have T0:Tups H H':=(Tups.of (sd.trans s1)).trans TB;have nld:l≠pd:=ak el nd;have el':H' l=some (.lst us):=bb _ _ nld ((sd.trans s1) _ _ el);have etake:(sfl n n).take (i+1)=(sfl n n).take i++[p]:=by rw [aaR,hpi];rfl
    have fin:∀ (v:Int) (H2:Hp),CkE gs.length L p v→But pd H' H2→H2 pd=some (.dT kvs)→∃ H3,DPut H2 pd x (.int v) H3∧∃ c' kvs',[some (V.int n),some (.str (aC gs)),some (.ref l),some (.ref pd),some x]=[some (.int n),some (.str (aC gs)),some (.ref l),some (.ref pd),c']∧H3 pd=some (.dT kvs')∧kvs'.length≤i+1∧CsE gs.length L kvs' ((sfl n n).take (i+1))∧But pd H1 H3:=fun v H2 ck b2 e2=>by
      have T2:Tups H' H2:=fun b xs hb=>b2 b _ (fun e=>by rw [e,ek] at hb;cases hb) hb;obtain ⟨b,rfl,hb⟩:=PairIn.key (PairIn.mono T2 hpx');refine ⟨_,DPut.t (k:=ky p) e2 hb (aU (by lia)),_,_,rfl,ae,?_,?_,?_⟩
      · have:=e_ kvs (ky p) (.int v);lia
      · rw [etake];exact hk.put ck
      · exact (bb.trans b2).trans But.put
    refine ⟨_,rfl,_,rfl,p,l,us,L,hpx',rfl,SqL.of el',PairsIn.mono T0 hL,_,rfl,dQ (fun cm=>?_) (fun cm=>?_)⟩
    · have cm:p∈L:=of_decide_eq_true cm;obtain ⟨H3,d3,w3⟩:=fin 0 H' ⟨Ck.out hpm.2.1 cm,(vT cm).symm⟩ But.refl ek;exact ⟨_,rfl,_,rfl,pd,H3,rfl,d3,w3⟩
    · have cm:p∉L:=fun z=>cm (decide_eq_true z);obtain ⟨a,rfl,ha⟩:=hpx';refine ⟨_,rfl,a,_,_,_,rfl,rfl,SqT.of ha,rfl,_,rfl,a,_,_,_,rfl,rfl,SqT.of ha,rfl,rfl,_,rfl,dQ (fun ce=>?_) (fun ce=>?_)⟩
      · have ce:V.int p.1=V.int p.2:=of_decide_eq_true ce;injection ce with ce
        obtain ⟨H3,d3,w3⟩:=fin 1 H' ⟨Ck.one ce cm,(vU cm ce).symm⟩ But.refl ek;exact ⟨_,rfl,_,rfl,pd,H3,rfl,d3,w3⟩
      · have ce:p.1≠p.2:=fun z=>ce (by rw [z];exact decide_eq_true rfl);refine ⟨_,rfl,_,rfl,bj (by lia),?_⟩;refine ⟨_,rfl,p,_,rfl,⟨a,rfl,ha⟩,hpm.1,hpm.2.1,by lia,fun pc cs H2 s2 npc epc hcs=>?_⟩;have ek2:=s2 _ _ ek;refine ⟨pc,rfl,⟨_,SqL.of epc⟩,?_⟩;have lcs:=hcs.length;have lcu:(bf p).length≤9:=by simp [bf];lia
        refine eV (Trn.list (xs:=cs)) (fun j ys H3=>H3=H2∧∃ xs:List Int,ys=xs.map V.int∧Paired (fun c x=>∃ a b,x=a * b∧CkE gs.length L (p.1,c) a∧CkE gs.length L (c+1,p.2) b) ((bf p).take j) xs) ⟨rfl,[],rfl,.nil⟩ (fun j ys H3 hj z=>by obtain ⟨rfl,xs,rfl,hx⟩:=z;exact ⟨SqL.of epc,aU (by have:=hx.length;rw [aak,← this,aaz];lia)⟩) (fun j y ys H0' H3 hj hy z Nx nx=>?_) (fun ys H3 z p5 n5=>?_)
        · obtain ⟨rfl,hy⟩:=hy;obtain ⟨rfl,xs,rfl,hxs⟩:=z;obtain ⟨c,hc,b,y1,y2,rfl,hb,hy1,hy2⟩:=Paired.at hcs hy;have hcm:c∈bf p:=aax hc;unfold bf at hcm;obtain ⟨k,hk',rfl⟩:=abr.mp hcm;have hk':=aaV.mp hk';have m1:=fJ (q:=(p.1,p.1+(k:Int))) h9 hpi (by simp only;lia) (by simp only;lia);have m2:=fJ (q:=(p.1+(k:Int)+1,p.2)) h9 hpi (by simp only;lia) (by simp only;lia);obtain ⟨v1,hv1,c1⟩:=hk _ m1;obtain ⟨v2,hv2,c2⟩:=hk _ m2;obtain ⟨b1,rfl,hb1⟩:=PairIn.key hy1;obtain ⟨b2,rfl,hb2⟩:=PairIn.key hy2;refine ⟨b,_,rfl,SqT.of hb,rfl,_,_,rfl,_,_,rfl,rfl,?_⟩;refine ⟨_,rfl,_,rfl,pd,.int v1,rfl,by rw [← hv1];exact DGet.t (k:=ky (p.1,p.1+(k:Int))) ek2 hb1,_,rfl,_,rfl,pd,.int v2,rfl,by rw [← hv2];exact DGet.t (k:=ky (p.1+(k:Int)+1,p.2)) ek2 hb2,_,_,rfl,rfl,⟨?_,?_⟩,nx _ _ ⟨rfl,xs++[v1 * v2],by rw [aaK];rfl,?_⟩⟩
          · exact qI (n:=10) (aae _) c1.1.nn (by have:=c1.1.le;have:=c1.1.nn;have:=ve (a:=((p.1,p.1+(k:Int)).2 - (p.1,p.1+(k:Int)).1+1).toNat) (b:=10) (by simp only;lia);lia)
          · exact qI (n:=10) (aae _) c2.1.nn (by have:=c2.1.le;have:=c2.1.nn;have:=ve (a:=((p.1+(k:Int)+1,p.2).2 - (p.1+(k:Int)+1,p.2).1+1).toNat) (b:=10) (by simp only;lia);lia)
          · rw [aaR,hc];exact Paired.snoc hxs ⟨v1,v2,rfl,c1,c2⟩
        · obtain ⟨rfl,xs,rfl,hxs⟩:=z;rw [← lcs,aa5] at hxs;have hj:=Ck.join (s:=(gs.length:Int)) hpm.1 (by lia) (by lia) cm ⟨by lia,by lia⟩ (nM hxs).1;have s5:=Same.new n5 (.lst (xs.map V.int));refine ⟨p5,_,rfl,SqL.of ae,_,_,rfl,rfl,⟨?_,hj.1⟩,?_⟩
          · rw [hgl];have : ((gs.length:Nat):Int).natAbs=gs.length:=by lia
            rw [this];exact abA g3 (by decide +kernel)
          obtain ⟨H4,d4,w4⟩:=fin _ _ ⟨hj.2,by rw [vV cm (by lia) (by lia),← (nM hxs).2]⟩ ((But.of s2).trans (But.of s5)) (s5 _ _ ek2);rw [hgl];exact ⟨_,rfl,_,rfl,pd,H4,rfl,d4,w4⟩
  · rintro σ H' ⟨c,kvs,rfl,ek,lk,hk,bb⟩;rw [← lss,aa5] at hk;have hm:=mS n 0 (n - 1) (by lia) (by lia);obtain ⟨v,hv,ck⟩:=hk _ hm;refine ⟨_,rfl,_,rfl,_,_,rfl,rfl,(by show 2≤sizeLine;decide),fun t ht=>?_⟩;have st:=Same.new ht (.tup [.int 0,.int ((n:Int) - 1)]);have ek2:=st _ _ ek;have ey:(((0:Nat):Int),((n - 1:Nat):Int))=(0,(n:Int) - 1):=by congr 1;lia
    rw [ey] at hv ck;refine ⟨pd,.int v,rfl,by rw [← hv];exact DGet.t (k:=ky (0,(n:Int) - 1)) ek2 ae,?_⟩;rw [ck.2];refine q _ ?_
    · have S1:Same H (upd H' t (.tup [.int 0,.int ((n:Int) - 1)])):=fun b o hb=>st _ _ (bb b o (ak hb nd) ((sd.trans s1) _ _ hb));exact S1
open PySem L2
theorem mW {H:Hp} {p0 p1 p2:Int × Int} {xs:List V} (h:PairsIn H [p0,p1,p2] xs):∃ x0 x1 x2,xs=[x0,x1,x2]∧PairIn H p0 x0∧PairIn H p1 x1∧PairIn H p2 x2:=by
  cases h with
  | cons a h =>
  cases h with
  | cons b h =>
  cases h with
  | cons c h =>
  cases h;exact ⟨_,_,_,rfl,a,b,c⟩
theorem LT.mono {T:Addr} {H H':Hp} (h:LT T H) (s:Same H H'):LT T H':=by
  obtain ⟨tp,h⟩:=h;exact ⟨tp,s _ _ h.tab,h.tri,fun pos' cv hc=>by obtain ⟨d,e1,e2⟩:=h.cds pos' cv hc;exact ⟨d,e1,s _ _ e2⟩⟩
theorem LT.ne {T a:Addr} {H:Hp} {o:HO} (h:LT T H) (e:H a=some o) (n:∀ ps,o≠.tbl ps):a≠T:=fun z=>by
  obtain ⟨tp,h⟩:=h;rw [z,h.tab] at e;exact n _ (aa1 e).symm
theorem iX (ns:List Int) (h1:1≤ns.length):slice ns (0,(ns.length:Int) - 1)=ns:=by
  unfold slice;simp only;rw [show (0:Int).toNat=0 from rfl,List.drop_zero,show ((ns.length:Int) - 1 - 0+1).toNat=ns.length by lia,aa5]
def y8 (H:Hp) (r:Addr) (ns:List Int) (gs:List Sg):Prop:=H r=some (.lst (ns.map V.int))∧1≤ns.length∧ns.length≤9∧1≤gs.length∧gs.length≤3∧dm gs∧Small ns
theorem cN:∀ gs:List Sg,gs.length≤3→dm gs→gs.Nodup
  | [],_,_=>List.nodup_nil
  | [a],_,_=>by simp
  | [a,b],_,h=>by
    cases a <;> cases b <;> first|decide|exact absurd h (by unfold dm;decide +kernel)
  | [a,b,c],_,h=>by
    cases a <;> cases b <;> cases c <;> first|decide|exact absurd h (by unfold dm;decide +kernel)
  | _ :: _ :: _ :: _ :: _,h,_=>by simp at h
theorem iF {ns:List Int} {gs:List Sg} {lo:List (Int × Int)} {L:Int × Int→List (Int × Int)} {q:Int × Int} (h:lW ns gs lo L q):L q=[]∨∃ a b c,L q=[a,b,c]:=by
  unfold lW at h;by_cases z:fnd ns gs L q≠[]∧q∉lo
  · rw [if_pos z] at h;exact .inr ⟨_,_,_,h⟩
  · rw [if_neg z] at h;exact .inl h
def cX (aR aS aH T:Addr):Sp:=fun vs H Q E=>∃ d v e u h x,vs=[v,u,x]∧Dat H d v∧Dat H e u∧Dat H h x∧Sm1 H d v∧LT T H∧Rf aR aS aH d e h H E∧(bt d=true→cE e=true→bW (iC d) h=true→∀ y H',But T H H'→LT T H'→Q y H')
def l4 (aR aS aH T:Addr):Sp:=fun vs H Q E=>∃ d v e u h x,vs=[v,u,x]∧Dat H d v∧Dat H e u∧Dat H h x∧Sm1 H d v∧LT T H∧Rf aR aS aH d e h H E∧(bt d=true→cE e=true→bW (iC d) h=true→∀ (r:Addr) (ns:List Int) (gs:List Sg) (lo:List (Int × Int)),y8 H r ns gs→v=.ref r→u=.str (aC gs) →
  ∀ t xs (L:Int × Int→List (Int × Int)) H',But T H H'→LT T H'→H' t=some (.tup xs)→PairsIn H' (L (0,(ns.length:Int) - 1)) xs→(∀ q:Int × Int,0≤q.1→q.1≤q.2→q.2 < ns.length→lW ns gs lo L q)→Q (.ref t) H')
abbrev dL:Stmt:=top 40
theorem i4:FnScope ["row","signs","holds"] ["row","signs","holds"] (aj dL):=⟨rfl,rfl,rfl,by decide +kernel,rfl,by decide +kernel,by decide +kernel⟩
theorem iJ {T aR aS aH:Addr} (F:Fun K "how_many_held" "how_many_held" dL f fd) (B:Bu K mg) (C_need_holds:db P w K mg base "need_holds" 5 ["row","signs","thing"] (cR aR aS aH)) (C_count_kept:Cal P w K mg base "count_kept" 2 ["many","signs","left_out"] tz) (C_list_left_out:Cal P w K mg base "list_left_out" 2 ["many","holds"] rP):FnOk P w K mg base (CX1 P w) 6 f fd ["row","signs","holds"] (cX aR aS aH T):=by
  refine Fun.ok1 F i4 (fun vs H Q E h=>?_) (fun cdv A outer s H vs Q E hr h=>?_)
  · obtain ⟨d,v,e,u,h,x,rfl,_⟩:=h;rfl
  obtain ⟨d,v,e,u,h,x,rfl,hd,he,hh,hsm,hT,rf,q0⟩:=h;refine ⟨_,(@ag _ _ _ _ _ (@cT _ _ _ _ (@b_ _ _ _ _ _ _ _ _ _ _ _ _ C_need_holds dE hr (by lia) rfl (@aa _ _ _ _ _ (pv 0) (@aa _ _ _ _ _ (pv 1) (@aa _ _ _ _ _ (pv 2) ac (by rfl)) (by rfl)) (by rfl)) (by decide) (by rfl) (by rfl)) (by rfl)) (PSs.nox (ai (az (al C_count_kept hr (by lia) rfl (aa (am aK rfl B.ilen aaL (aa (pv 0) ac)) (aa (pv 1) (aa (al C_list_left_out hr (by lia) rfl (aa (am aK rfl B.ilen aaL (aa (pv 0) ac)) (aa (pv 2) ac))) ac)))))))),?_⟩;refine ⟨_,rfl,_,rfl,_,rfl,d,v,e,u,h,x,rfl,hd,he,hh,rf,fun c c2 c3 H1 s1=>?_⟩;obtain ⟨a,ns,rfl,ea,h1,h9,el⟩:=i_ c hd;obtain ⟨gs,rfl,sp,g1,g3⟩:=mR c2 he;obtain ⟨hs,bs,hv,ghs,gbs⟩:=rh c3 hh;rw [← el] at ghs gbs;have hl:(ns.map V.int).length=ns.length:=aak _;have nd:=cN gs g3 sp;refine ⟨_,rfl,a,_,rfl,.inl (SqL.of (s1 _ _ ea)),_,rfl,_,rfl,a,_,rfl,.inl (SqL.of (s1 _ _ ea)),?_⟩;rw [hl];refine ⟨_,rfl,ns.length,hs,bs,x,rfl,h9,hv.mono s1,by have:=ghs.1;lia,fun l us H2 s2 nl el hL=>?_⟩;exact ⟨ns.length,gs,l,_,us,rfl,h1,h9,g1,g3,el,hL,fun H3 s3=>q0 c c2 c3 _ _ (But.of ((s1.trans s2).trans s3)) (hT.mono ((s1.trans s2).trans s3))⟩
abbrev fL:Stmt:=top 52
theorem lH:FnScope ["row","signs","holds"] ["row","signs","holds"] (aj fL):=⟨rfl,rfl,rfl,by decide +kernel,rfl,by decide +kernel,by decide +kernel⟩
theorem kh {T aR aS aH:Addr} (F:Fun K "picks_held" "picks_held" fL f fd) (B:Bu K mg) (C_need_holds:db P w K mg base "need_holds" 5 ["row","signs","thing"] (cR aR aS aH)) (C_list_left_out:Cal P w K mg base "list_left_out" 2 ["many","holds"] rP) (C_picks_by_stretch:Cal P w K mg base "picks_by_stretch" 5 ["row","signs","left_out"] (tu (K:=K) T)):FnOk P w K mg base (CX1 P w) 6 f fd ["row","signs","holds"] (l4 aR aS aH T):=by
  refine Fun.ok1 F lH (fun vs H Q E h=>?_) (fun cdv A outer s H vs Q E hr h=>?_)
  · obtain ⟨d,v,e,u,h,x,rfl,_⟩:=h;rfl
  obtain ⟨d,v,e,u,h,x,rfl,hd,he,hh,hsm,hT,rf,q0⟩:=h;refine ⟨_,(@ag _ _ _ _ _ (@cT _ _ _ _ (@b_ _ _ _ _ _ _ _ _ _ _ _ _ C_need_holds dE hr (by lia) rfl (@aa _ _ _ _ _ (pv 0) (@aa _ _ _ _ _ (pv 1) (@aa _ _ _ _ _ (pv 2) ac (by rfl)) (by rfl)) (by rfl)) (by decide) (by rfl) (by rfl)) (by rfl)) (PSs.nox (ai (az (gQ (u1 hr.units) (al C_picks_by_stretch hr (by lia) rfl (aa (pv 0) (aa (pv 1) (aa (al C_list_left_out hr (by lia) rfl (aa (am aK rfl B.ilen aaL (aa (pv 0) ac)) (aa (pv 2) ac))) ac)))) (aB (aa af (aa (aq bX (am aK rfl B.ilen aaL (aa (pv 0) ac)) af) ac))) (fun _ _=>rfl)))))),?_⟩;refine ⟨_,rfl,_,rfl,_,rfl,d,v,e,u,h,x,rfl,hd,he,hh,rf,fun c c2 c3 H1 s1=>?_⟩;obtain ⟨a,ns,rfl,ea,h1,h9,el⟩:=i_ c hd;obtain ⟨gs,rfl,sp,g1,g3⟩:=mR c2 he;obtain ⟨hs,bs,hv,ghs,gbs⟩:=rh c3 hh;rw [← el] at ghs gbs;have hl:(ns.map V.int).length=ns.length:=aak _;have nd:=cN gs g3 sp;have sm:=hsm c a ns rfl ea;refine ⟨_,rfl,_,rfl,_,rfl,a,_,rfl,.inl (SqL.of (s1 _ _ ea)),?_⟩;rw [hl];refine ⟨_,rfl,ns.length,hs,bs,x,rfl,h9,hv.mono s1,by have:=ghs.1;lia,fun l us H2 s2 nl el hL=>?_⟩;have S2:=s1.trans s2;have hT2:LT T H2:=by obtain ⟨tp,h⟩:=hT;exact ⟨tp,S2 _ _ h.tab,h.tri,fun pos' cv hc=>by obtain ⟨d,e1,e2⟩:=h.cds pos' cv hc;exact ⟨d,e1,S2 _ _ e2⟩⟩
  refine ⟨a,ns,gs,l,us,_,rfl,S2 _ _ ea,h1,h9,g1,g3,sm,.inl el,hL,hT2,fun pk kvs L H3 b3 hT3 nk ek hks hq=>?_⟩;have naT:a≠T:=fun e=>by obtain ⟨tp,h⟩:=hT;rw [e,h.tab] at ea;cases ea
  refine ⟨_,rfl,a,_,rfl,.inl (SqL.of (b3 _ _ naT (S2 _ _ ea))),_,_,rfl,rfl,?_⟩;rw [hl];refine ⟨(by show 2≤sizeLine;decide),fun k1 nk1=>?_⟩;have sk:=Same.new nk1 (.tup [.int 0,.int ((ns.length:Int) - 1)]);have inS:∀ q:Int × Int,0≤q.1→q.1≤q.2→q.2 < ns.length→q∈sfl ns.length ns.length:=fun q h0 h1 h2=>by
    have:=mS ns.length q.1.toNat q.2.toNat (by lia) (by lia)
    rwa [show ((q.1.toNat:Nat):Int)=q.1 by lia,show ((q.2.toNat:Nat):Int)=q.2 by lia] at this
  obtain ⟨⟨t,xs,v1,v2,v3⟩,_⟩:=hq (0,(ns.length:Int) - 1) (inS _ (aaC _) (by simp only;lia) (by simp only;lia));refine ⟨pk,.ref t,rfl,by rw [← v1];exact DGet.t (k:=ky (0,(ns.length:Int) - 1)) (sk _ _ ek) ae,?_⟩;refine q0 c c2 c3 a ns gs _ ⟨ea,h1,h9,g1,g3,sp,sm⟩ rfl rfl t xs L _ ((But.of S2).trans (b3.trans (But.of sk))) ?_ (sk _ _ v2) (PairsIn.mono (Tups.of sk) v3) fun q h0 h1 h2=>(hq q (inS q h0 h1 h2)).2;obtain ⟨tp,h⟩:=hT3;exact ⟨tp,sk _ _ h.tab,h.tri,fun pos' cv hc=>by obtain ⟨d,e1,e2⟩:=h.cds pos' cv hc;exact ⟨d,e1,sk _ _ e2⟩⟩
def gu:Sp:=fun vs H Q _=>∃ (a t:Addr) (gs:List Sg) (wy:Wy) (x:V),vs=[.ref a,.str (aC gs),.ref t]∧H a=some (.lst (wy.nums.map V.int))∧wy.size≤9∧gs.length≤3∧wy.within gs∧H t=some (.tup [x,.int (wy.nr gs)])∧∀ v H',Same H H'→WyIn H' wy v→Q v H'
abbrev fK:Stmt:=top 53
theorem lG:FnScope ["row","signs","pick"] ["row","signs","pick"] (aj fK):=⟨rfl,rfl,rfl,by decide +kernel,rfl,by decide +kernel,by decide +kernel⟩
theorem lN (F:Fun K "way_picked" "way_picked" fK f fd) (B:Bu K mg) (C_way_at:Cal P w K mg base "way_at" 11 ["row","signs","counts","number"] (mI 9)) (C_counts_up_to:Cal P w K mg base "counts_up_to" 2 ["signs","many"] qO):FnOk P w K mg base CX0 12 f fd ["row","signs","pick"] gu:=by
  refine F.ok lG (fun vs H Q E h=>?_) (fun cdv A outer s H vs Q E hr h=>?_)
  · obtain ⟨a,t,gs,wy,x,rfl,_⟩:=h;rfl
  obtain ⟨a,t,gs,wy,x,rfl,ea,h9,g3,hw,et,q⟩:=h;refine ⟨_,(@ai _ _ _ (@az _ _ _ _ (@al _ _ _ _ _ _ _ _ _ _ _ C_way_at hr (by lia) rfl (@aa _ _ _ _ _ (pv 0) (@aa _ _ _ _ _ (pv 1) (@aa _ _ _ _ _ (@al _ _ _ _ _ _ _ _ _ _ _ C_counts_up_to hr (by lia) rfl (@aa _ _ _ _ _ (pv 1) (@aa _ _ _ _ _ (@am _ _ _ _ _ _ _ _ _ aK rfl B.ilen aaL (@aa _ _ _ _ _ (pv 0) ac (by rfl)) (by decide) (by decide) (by rfl) (by rfl)) ac (by rfl)) (by rfl)) (by decide) (by rfl) (by rfl)) (@aa _ _ _ _ _ (@aY _ _ _ _ _ _ _ bv (pv 2) af (fun _ _=>rfl)) ac (by rfl)) (by rfl)) (by rfl)) (by rfl)) (by decide) (by rfl) (by rfl)))),?_⟩;have zl:(aC gs).length=gs.length:=jI gs;have z1:=wy.size_pos;refine ⟨_,rfl,_,rfl,_,rfl,_,rfl,a,_,rfl,.inl (SqL.of ea),?_⟩;rw [aak,wy.nums_len];refine ⟨aC gs,(wy.size:Nat),rfl,by lia,by lia,by lia,fun pc H1 s1 npc epc=>?_⟩;rw [zl] at epc;refine ⟨_,rfl,t,_,_,_,rfl,rfl,SqT.of (s1 _ _ et),rfl,?_⟩;exact ⟨gs,a,pc,wy,_,rfl,g3,s1 _ _ ea,epc,by lia,by lia,by lia,hw,fun v H2 s2 hv=>q v _ (s1.trans s2) hv⟩
abbrev fQ:Stmt:=top 41
theorem g8:FnScope ["row","signs","holds","picks"] ["row","signs","holds"] (aj fQ):=⟨rfl,rfl,rfl,by decide +kernel,rfl,by decide +kernel,by decide +kernel⟩
theorem kw {T aR aS aH:Addr} (F:Fun K "first_held" "first_held" fQ f fd) (B:Bu K mg) (C_picks_held:db P w K mg base "picks_held" 6 ["row","signs","holds"] (l4 aR aS aH T)) (C_way_picked:Cal P w K mg base "way_picked" 12 ["row","signs","pick"] gu):FnOk P w K mg base (CX1 P w) 13 f fd ["row","signs","holds"] (cX aR aS aH T):=by
  refine Fun.ok1 F g8 (fun vs H Q E h=>?_) (fun cdv A outer s H vs Q E hr h=>?_)
  · obtain ⟨d,v,e,u,h,x,rfl,_⟩:=h;rfl
  obtain ⟨d,v,e,u,h,x,rfl,hd,he,hh,hsm,hT,rf,q0⟩:=h;refine ⟨_,(@ag _ _ _ _ _ (@aD _ _ (3) _ _ _ _ (g8).nd rfl (Or.inl rfl) (@b_ _ _ _ _ _ _ _ _ _ _ _ _ C_picks_held dE hr (by lia) rfl (@aa _ _ _ _ _ (pv 0) (@aa _ _ _ _ _ (pv 1) (@aa _ _ _ _ _ (pv 2) ac (by rfl)) (by rfl)) (by rfl)) (by decide) (by rfl) (by rfl)) (by rfl) (by first|exact .inl rfl|exact .inr rfl|assumption)) (PSs.nox (ai (az (eM (eI (pv 3) (fun _=>rfl)) (al C_way_picked hr (by lia) rfl (aa (pv 0) (aa (pv 1) (aa (aY bv (pv 3) af (fun _ _=>rfl)) ac)))) cw))))),?_⟩;refine ⟨_,rfl,_,rfl,_,rfl,d,v,e,u,h,x,rfl,hd,he,hh,hsm,hT,rf,fun c c2 c3 a ns gs lo hR ev eu t xs L H1 b1 hT1 et hx hL=>?_⟩;subst ev;subst eu;have q:=q0 c c2 c3;obtain ⟨ea,h1,h9,g1,g3,sp,sm⟩:=hR;have nd:=cN gs g3 sp;have naT:a≠T:=hT.ne ea (fun _ z=>nomatch z);obtain ⟨f1,_⟩:=eY (ns:=ns) (gs:=gs) (lo:=lo) g3 nd h9 hL _ (0,(ns.length:Int) - 1) (aaC _) (by simp only;lia) (by simp only;lia) rfl;rcases iF (hL (0,(ns.length:Int) - 1) (aaC _) (by simp only;lia) (by simp only;lia)) with hl|⟨pf,pa,pb,hl⟩
  · rw [hl] at hx;cases hx;exact ⟨_,rfl,false,.inr (.inl ⟨[],SqT.of et,rfl⟩),aV (q _ _ b1 hT1)⟩
  · rw [hl] at hx f1;obtain ⟨x0,x1,x2,rfl,⟨t0,rfl,e0⟩,⟨t1,rfl,e1⟩,⟨t2,rfl,e2⟩⟩:=mW hx;obtain ⟨wb,k0,ew⟩:=f1 pf (by simp);have en:wb.nums=ns:=by rw [k0.1,iX ns h1]
    have ez:wb.size=ns.length:=by rw [← wb.nums_len,en]
    rw [ew] at e0;refine ⟨_,rfl,true,.inr (.inl ⟨_,SqT.of et,rfl⟩),cD ⟨_,rfl,_,rfl,_,rfl,t,_,_,_,rfl,rfl,SqT.of et,rfl,a,t0,gs,wb,_,rfl,by rw [en];exact b1 _ _ naT ea,by lia,g3,k0.2.1,e0,fun x H2 s2 hx2=>?_⟩⟩;exact q x H2 (b1.trans (But.of s2)) (hT1.mono s2)
abbrev dM:Stmt:=top 43
theorem fu:FnScope ["row","signs","holds","picks"] ["row","signs","holds"] (aj dM):=⟨rfl,rfl,rfl,by decide +kernel,rfl,by decide +kernel,by decide +kernel⟩
theorem iK {T aR aS aH:Addr} (F:Fun K "greatest_held" "greatest_held" dM f fd) (B:Bu K mg) (C_picks_held:db P w K mg base "picks_held" 6 ["row","signs","holds"] (l4 aR aS aH T)) (C_way_picked:Cal P w K mg base "way_picked" 12 ["row","signs","pick"] gu):FnOk P w K mg base (CX1 P w) 13 f fd ["row","signs","holds"] (cX aR aS aH T):=by
  refine Fun.ok1 F fu (fun vs H Q E h=>?_) (fun cdv A outer s H vs Q E hr h=>?_)
  · obtain ⟨d,v,e,u,h,x,rfl,_⟩:=h;rfl
  obtain ⟨d,v,e,u,h,x,rfl,hd,he,hh,hsm,hT,rf,q0⟩:=h;refine ⟨_,(@ag _ _ _ _ _ (@aD _ _ (3) _ _ _ _ (fu).nd rfl (Or.inl rfl) (@b_ _ _ _ _ _ _ _ _ _ _ _ _ C_picks_held dE hr (by lia) rfl (@aa _ _ _ _ _ (pv 0) (@aa _ _ _ _ _ (pv 1) (@aa _ _ _ _ _ (pv 2) ac (by rfl)) (by rfl)) (by rfl)) (by decide) (by rfl) (by rfl)) (by rfl) (by first|exact .inl rfl|exact .inr rfl|assumption)) (PSs.nox (ai (az (eM (eI (pv 3) (fun _=>rfl)) (al C_way_picked hr (by lia) rfl (aa (pv 0) (aa (pv 1) (aa (aY bv (pv 3) af (fun _ _=>rfl)) ac)))) cw))))),?_⟩;refine ⟨_,rfl,_,rfl,_,rfl,d,v,e,u,h,x,rfl,hd,he,hh,hsm,hT,rf,fun c c2 c3 a ns gs lo hR ev eu t xs L H1 b1 hT1 et hx hL=>?_⟩;subst ev;subst eu;have q:=q0 c c2 c3;obtain ⟨ea,h1,h9,g1,g3,sp,sm⟩:=hR;have nd:=cN gs g3 sp;have naT:a≠T:=hT.ne ea (fun _ z=>nomatch z);obtain ⟨f1,_⟩:=eY (ns:=ns) (gs:=gs) (lo:=lo) g3 nd h9 hL _ (0,(ns.length:Int) - 1) (aaC _) (by simp only;lia) (by simp only;lia) rfl;rcases iF (hL (0,(ns.length:Int) - 1) (aaC _) (by simp only;lia) (by simp only;lia)) with hl|⟨pf,pa,pb,hl⟩
  · rw [hl] at hx;cases hx;exact ⟨_,rfl,false,.inr (.inl ⟨[],SqT.of et,rfl⟩),aV (q _ _ b1 hT1)⟩
  · rw [hl] at hx f1;obtain ⟨x0,x1,x2,rfl,⟨t0,rfl,e0⟩,⟨t1,rfl,e1⟩,⟨t2,rfl,e2⟩⟩:=mW hx;obtain ⟨wb,k0,ew⟩:=f1 pb (by simp);have en:wb.nums=ns:=by rw [k0.1,iX ns h1]
    have ez:wb.size=ns.length:=by rw [← wb.nums_len,en]
    rw [ew] at e2;refine ⟨_,rfl,true,.inr (.inl ⟨_,SqT.of et,rfl⟩),cD ⟨_,rfl,_,rfl,_,rfl,t,_,_,_,rfl,rfl,SqT.of et,rfl,a,t2,gs,wb,_,rfl,by rw [en];exact b1 _ _ naT ea,by lia,g3,k0.2.1,e2,fun x H2 s2 hx2=>?_⟩⟩;exact q x H2 (b1.trans (But.of s2)) (hT1.mono s2)
abbrev fO:Stmt:=top 44
theorem gZ:FnScope ["row","signs","holds","picks"] ["row","signs","holds"] (aj fO):=⟨rfl,rfl,rfl,by decide +kernel,rfl,by decide +kernel,by decide +kernel⟩
theorem ku {T aR aS aH:Addr} (F:Fun K "least_held" "least_held" fO f fd) (B:Bu K mg) (C_picks_held:db P w K mg base "picks_held" 6 ["row","signs","holds"] (l4 aR aS aH T)) (C_way_picked:Cal P w K mg base "way_picked" 12 ["row","signs","pick"] gu):FnOk P w K mg base (CX1 P w) 13 f fd ["row","signs","holds"] (cX aR aS aH T):=by
  refine Fun.ok1 F gZ (fun vs H Q E h=>?_) (fun cdv A outer s H vs Q E hr h=>?_)
  · obtain ⟨d,v,e,u,h,x,rfl,_⟩:=h;rfl
  obtain ⟨d,v,e,u,h,x,rfl,hd,he,hh,hsm,hT,rf,q0⟩:=h;refine ⟨_,(@ag _ _ _ _ _ (@aD _ _ (3) _ _ _ _ (gZ).nd rfl (Or.inl rfl) (@b_ _ _ _ _ _ _ _ _ _ _ _ _ C_picks_held dE hr (by lia) rfl (@aa _ _ _ _ _ (pv 0) (@aa _ _ _ _ _ (pv 1) (@aa _ _ _ _ _ (pv 2) ac (by rfl)) (by rfl)) (by rfl)) (by decide) (by rfl) (by rfl)) (by rfl) (by first|exact .inl rfl|exact .inr rfl|assumption)) (PSs.nox (ai (az (eM (eI (pv 3) (fun _=>rfl)) (al C_way_picked hr (by lia) rfl (aa (pv 0) (aa (pv 1) (aa (aY bv (pv 3) af (fun _ _=>rfl)) ac)))) cw))))),?_⟩;refine ⟨_,rfl,_,rfl,_,rfl,d,v,e,u,h,x,rfl,hd,he,hh,hsm,hT,rf,fun c c2 c3 a ns gs lo hR ev eu t xs L H1 b1 hT1 et hx hL=>?_⟩;subst ev;subst eu;have q:=q0 c c2 c3;obtain ⟨ea,h1,h9,g1,g3,sp,sm⟩:=hR;have nd:=cN gs g3 sp;have naT:a≠T:=hT.ne ea (fun _ z=>nomatch z);obtain ⟨f1,_⟩:=eY (ns:=ns) (gs:=gs) (lo:=lo) g3 nd h9 hL _ (0,(ns.length:Int) - 1) (aaC _) (by simp only;lia) (by simp only;lia) rfl;rcases iF (hL (0,(ns.length:Int) - 1) (aaC _) (by simp only;lia) (by simp only;lia)) with hl|⟨pf,pa,pb,hl⟩
  · rw [hl] at hx;cases hx;exact ⟨_,rfl,false,.inr (.inl ⟨[],SqT.of et,rfl⟩),aV (q _ _ b1 hT1)⟩
  · rw [hl] at hx f1;obtain ⟨x0,x1,x2,rfl,⟨t0,rfl,e0⟩,⟨t1,rfl,e1⟩,⟨t2,rfl,e2⟩⟩:=mW hx;obtain ⟨wb,k0,ew⟩:=f1 pa (by simp);have en:wb.nums=ns:=by rw [k0.1,iX ns h1]
    have ez:wb.size=ns.length:=by rw [← wb.nums_len,en]
    rw [ew] at e1;refine ⟨_,rfl,true,.inr (.inl ⟨_,SqT.of et,rfl⟩),cD ⟨_,rfl,_,rfl,_,rfl,t,_,_,_,rfl,rfl,SqT.of et,rfl,a,t1,gs,wb,_,rfl,by rw [en];exact b1 _ _ naT ea,by lia,g3,k0.2.1,e1,fun x H2 s2 hx2=>?_⟩⟩;exact q x H2 (b1.trans (But.of s2)) (hT1.mono s2)
abbrev fi:Stmt:=top 42
theorem gw:FnScope ["row","signs","holds","picks"] ["row","signs","holds"] (aj fi):=⟨rfl,rfl,rfl,by decide +kernel,rfl,by decide +kernel,by decide +kernel⟩
theorem jG {T aR aS aH:Addr} (F:Fun K "bounds_held" "bounds_held" fi f fd) (B:Bu K mg) (C_picks_held:db P w K mg base "picks_held" 6 ["row","signs","holds"] (l4 aR aS aH T)):FnOk P w K mg base (CX1 P w) 7 f fd ["row","signs","holds"] (cX aR aS aH T):=by
  refine Fun.ok1 F gw (fun vs H Q E h=>?_) (fun cdv A outer s H vs Q E hr h=>?_)
  · obtain ⟨d,v,e,u,h,x,rfl,_⟩:=h;rfl
  obtain ⟨d,v,e,u,h,x,rfl,hd,he,hh,hsm,hT,rf,q0⟩:=h;refine ⟨_,(@ag _ _ _ _ _ (@aD _ _ (3) _ _ _ _ (gw).nd rfl (Or.inl rfl) (@b_ _ _ _ _ _ _ _ _ _ _ _ _ C_picks_held dE hr (by lia) rfl (@aa _ _ _ _ _ (pv 0) (@aa _ _ _ _ _ (pv 1) (@aa _ _ _ _ _ (pv 2) ac (by rfl)) (by rfl)) (by rfl)) (by decide) (by rfl) (by rfl)) (by rfl) (by first|exact .inl rfl|exact .inr rfl|assumption)) (PSs.nox (ai (az (eM (eI (pv 3) (fun _=>rfl)) (aB (aa (aY bv (aY bv (pv 3) af (fun _ _=>rfl)) af (fun _ _=>rfl)) (aa (aY bv (aY bv (pv 3) af (fun _ _=>rfl)) af (fun _ _=>rfl)) ac))) cw))))),?_⟩;refine ⟨_,rfl,_,rfl,_,rfl,d,v,e,u,h,x,rfl,hd,he,hh,hsm,hT,rf,fun c c2 c3 a ns gs lo hR ev eu t xs L H1 b1 hT1 et hx hL=>?_⟩;subst ev;subst eu;have q:=q0 c c2 c3;obtain ⟨ea,h1,h9,g1,g3,sp,sm⟩:=hR;have nd:=cN gs g3 sp;have naT:a≠T:=hT.ne ea (fun _ z=>nomatch z);obtain ⟨f1,_⟩:=eY (ns:=ns) (gs:=gs) (lo:=lo) g3 nd h9 hL _ (0,(ns.length:Int) - 1) (aaC _) (by simp only;lia) (by simp only;lia) rfl;rcases iF (hL (0,(ns.length:Int) - 1) (aaC _) (by simp only;lia) (by simp only;lia)) with hl|⟨pf,pa,pb,hl⟩
  · rw [hl] at hx;cases hx;exact ⟨_,rfl,false,.inr (.inl ⟨[],SqT.of et,rfl⟩),aV (q _ _ b1 hT1)⟩
  · rw [hl] at hx f1;obtain ⟨x0,x1,x2,rfl,⟨t0,rfl,e0⟩,⟨t1,rfl,e1⟩,⟨t2,rfl,e2⟩⟩:=mW hx;refine ⟨_,rfl,true,.inr (.inl ⟨_,SqT.of et,rfl⟩),cD ⟨_,rfl,t,_,_,_,rfl,rfl,SqT.of et,rfl,t1,_,_,_,rfl,rfl,SqT.of e1,rfl,?_⟩⟩;refine ⟨_,rfl,t,_,_,_,rfl,rfl,SqT.of et,rfl,t2,_,_,_,rfl,rfl,SqT.of e2,rfl,(by show 2≤sizeLine;decide),fun p np=>?_⟩;have s2:=Same.new np (.tup [.int pa.1,.int pb.1]);exact q _ _ (b1.trans (But.of s2)) (hT1.mono s2)
end
open PySem L2
theorem tF:∀ n,n≤9→xJ (sfl n n):=by unfold xJ;decide +kernel
theorem wP:∀ n,n≤9→(sfl n n).length≤45:=by decide +kernel
section
variable {P:Program} {w:World} {K:aaa} {mg:Str→Option Value} {base:Heap} {f:Addr} {fd:FuncData}
def mJ:Sp:=fun vs H Q _=>∃ (n:Nat) (gs:List Sg) (hs bs:List (Int × Int)) (v:V),vs=[.int n,.str (aC gs),v]∧1≤n∧n≤9∧1≤gs.length∧gs.length≤3∧HdIn H hs bs v∧Gs n hs∧Gs n bs ∧
  ∀ a us L H',Same H H'→H a=none→H' a=some (.lst us)→PairsIn H' L us→L.length≤45→(∀ p∈L,Gp n p)→Q (.ref a) H'
abbrev fh:Stmt:=top 48
theorem eh:FnScope ["many","signs","holds","held","barred"] ["many","signs","holds"] (aj fh):=⟨rfl,rfl,rfl,by decide +kernel,rfl,by decide +kernel,by decide +kernel⟩
theorem kn (F:Fun K "list_may_be" "list_may_be" fh f fd) (B:Bu K mg) (C_shorter_first:Cal P w K mg base "shorter_first" 1 ["many"] rO) (C_list_left_out:Cal P w K mg base "list_left_out" 2 ["many","holds"] rP) (C_count_kept:Cal P w K mg base "count_kept" 2 ["many","signs","left_out"] tz):FnOk P w K mg base CX0 3 f fd ["many","signs","holds"] mJ:=by
  refine F.ok eh (fun vs H Q E h=>?_) (fun cdv A outer s H vs Q E hr h=>?_)
  · obtain ⟨n,gs,hs,bs,v,rfl,_⟩:=h;rfl
  obtain ⟨n,gs,hs,bs,v,rfl,h1,h9,g1,g3,⟨a,x,y,rfl,ha,⟨ah,uh,rfl,eah,ph⟩,⟨ab,ub,rfl,eab,pb⟩⟩,gh,gb,q⟩:=h;refine ⟨_,(@ag _ _ _ _ _ (@fj _ _ _ _ _ _ (pv 2) (@eK _ _ _ _ _ _ rfl (@aQ _ _ _ _ _ (@ao _ _ (3) _ (eh).nd rfl (Or.inr rfl) (.inl rfl)) (@aQ _ _ _ _ _ (@ao _ _ (4) _ (eh).nd rfl (Or.inr rfl) (.inl rfl)) cu (by rfl)) (by rfl)) (by rfl) (by rfl)) (by rfl) (by rfl) (by rfl)) (@ai _ _ _ (@az _ _ _ _ (@fA _ _ _ _ _ _ _ _ (["first","last","many","signs","barred","held"]) ([none,none,some 0,some 1,some 4,some 3]) _ _ _ _ rfl (@bu _ _ _ _ (@am _ _ _ _ _ _ _ _ _ (@nN _ rfl) rfl B.isorted PyProof.Rows.boot_sorted (@aa _ _ _ _ _ (@al _ _ _ _ _ _ _ _ _ _ _ C_shorter_first hr (by lia) rfl (@aa _ _ _ _ _ (pv 0) ac (by rfl)) (by decide) (by rfl) (by rfl)) ac (by rfl)) (by decide) (by decide) (by rfl) (by rfl))) rfl ⟨rfl,⟨rfl,⟨rfl,⟨rfl,trivial⟩⟩⟩⟩ ⟨⟨rfl,Or.inl rfl,Or.inl rfl⟩,⟨⟨rfl,Or.inl rfl,Or.inl rfl⟩,⟨⟨rfl,Or.inl rfl,Or.inl rfl⟩,⟨⟨rfl,Or.inl rfl,Or.inl rfl⟩,trivial⟩⟩⟩⟩ (fun _ _ _ _=>⟨(@iG _ _ _ _ _ _ (2) rfl rfl (@aQ _ _ _ _ _ (@ao _ _ (0) _ (show aaP (["first","last","many","signs","barred","held"]:List Str) by decide +kernel) rfl (Or.inl rfl) (.inr rfl)) (@aQ _ _ _ _ _ (@ao _ _ (1) _ (show aaP (["first","last","many","signs","barred","held"]:List Str) by decide +kernel) rfl (Or.inl rfl) (.inr rfl)) cu (by rfl)) (by rfl)) (by rfl) (by rfl)),(@eJ _ _ _ (@PW.pt _ _ _ (@qe _ _ _ _ _ _ _ (@aJ _ _ _ _ _ _ _ _ j_ (pv 0) (pv 1) (aX _)) (@mV _ _ _ _ (@rV _ _ _ _ rfl (@al _ _ _ _ _ _ _ _ _ _ _ C_count_kept hr (by lia) rfl (@aa _ _ _ _ _ (pv 2) (@aa _ _ _ _ _ (pv 3) (@aa _ _ _ _ _ (@al _ _ _ _ _ _ _ _ _ _ _ C_list_left_out hr (by lia) rfl (@aa _ _ _ _ _ (pv 2) (@aa _ _ _ _ _ (@aB _ _ _ _ _ (@aa _ _ _ _ _ (@aq _ _ _ _ _ _ _ _ bT (pv 5) (@au _ _ _ _ (@aa _ _ _ _ _ (@aB _ _ _ _ _ (@aa _ _ _ _ _ (pv 0) (@aa _ _ _ _ _ (pv 1) ac (by rfl)) (by rfl))) ac (by rfl)))) (@aa _ _ _ _ _ (pv 4) ac (by rfl)) (by rfl))) ac (by rfl)) (by rfl)) (by decide) (by rfl) (by rfl)) ac (by rfl)) (by rfl)) (by rfl)) (by decide) (by rfl) (by rfl)) (fun _=>rfl)))))),(@aB _ _ _ _ _ (@aa _ _ _ _ _ (pv 0) (@aa _ _ _ _ _ (pv 1) ac (by rfl)) (by rfl)))⟩) (by rfl) (by rfl) (by rfl) (by rfl) (by intro _;rfl))))),?_⟩;refine ⟨_,rfl,a,_,rfl,SqT.of ha,rfl,_,_,rfl,_,_,rfl,rfl,?_⟩;refine ⟨_,rfl,n,rfl,h9,fun pl ss H1 s1 npl epl hss=>?_⟩;have lss:=hss.length;have lsf:=wP n h9;refine ⟨pl,ss,sfl n n,rfl,epl,hss,by lia,tF n h9,fun pq qs vs' nq hperm hrise hqs=>?_⟩;have la:qs.length≤45:=by rw [hperm.length_eq];exact lsf
  have sq:=Same.new nq (.lst vs');have eq:upd H1 pq (.lst vs') pq=some (.lst vs'):=ae;have hqs2:=PairsIn.mono (Tups.of sq) hqs;have S2:=s1.trans sq;generalize upd H1 pq (.lst vs')=H2 at sq eq hqs2 S2 ⊢;have lq:=hqs.length;have lh:=ph.length;have lb:=pb.length;have c1:=gh.1;have c2:=gb.1;refine ⟨pq,rfl,⟨_,SqL.of eq⟩,?_⟩;refine eV (Trn.list (xs:=vs')) (fun i ys H'=>Same H2 H'∧∃ L',PairsIn H' L' ys∧L'.length≤i∧∀ p∈L',Gp n p) ⟨Same.refl _,[],.nil,aae _,fun p hp=>by cases hp⟩ (fun i ys H' hi z=>⟨SqL.of (z.1 _ _ eq),aU (by obtain ⟨_,L',z1,z2,_⟩:=z;have:=z1.length;lia)⟩) (fun i z ys H0 H' hi hz zz Nx nx=>?_) (fun ys H' zz p5 n5=>?_)
  · obtain ⟨rfl,hz⟩:=hz;obtain ⟨S,L',hp,hL',gL'⟩:=zz;obtain ⟨r,hri,b,rfl,hb⟩:=cF (PairsIn.mono (Tups.of S) hqs2) hz;have rg:=iA n r (hperm.mem_iff.mp (aax hri));have SS:=S2.trans S;refine ⟨b,_,rfl,SqT.of hb,rfl,_,_,rfl,_,_,rfl,rfl,?_⟩;refine ⟨_,rfl,_,rfl,_,_,rfl,rfl,_,rfl,dQ (fun c=>?_) (fun c=>?_)⟩
    · have c:r.1 < r.2:=of_decide_eq_true c;have gr:Gp n r:=⟨rg.1,c,rg.2.2⟩
      have t2:(2:Nat)≤sizeLine:=by decide
      refine ⟨_,rfl,_,rfl,_,rfl,_,rfl,_,rfl,_,rfl,t2,fun t ht=>⟨(by show 1≤sizeLine;decide),fun u hu=>?_⟩⟩;have st:=Same.new ht (.tup [.int r.1,.int r.2]);have su:=Same.new hu (.lst [.ref t]);have S3:=SS.trans (st.trans su);refine ⟨ah,u,_,_,rfl,rfl,S3 _ _ eah,ae,bj (by show _+1≤1000;lia),fun v1 hv1=>?_⟩;have sv:=Same.new hv1 (.lst (uh++[.ref t]));refine ⟨_,rfl,t2,fun w1 hw1=>?_⟩;have sw:=Same.new hw1 (.tup [.ref v1,.ref ab]);have S4:=(st.trans su).trans (sv.trans sw);have S5:=SS.trans S4;refine ⟨n,hs++[r],bs,_,rfl,h9,⟨w1,_,_,rfl,ae,⟨v1,_,rfl,sw _ _ ae,PairsIn.snoc (PairsIn.mono (Tups.of S5) ph) ⟨t,rfl,sw _ _ (sv _ _ (su _ _ ae))⟩⟩,⟨ab,ub,rfl,S5 _ _ eab,PairsIn.mono (Tups.of S5) pb⟩⟩,by simp;lia,fun pa lus H6 s6 npa epa hlo=>?_⟩;refine ⟨n,gs,pa,lo n (hs++[r]) bs,lus,rfl,h1,h9,g1,g3,epa,hlo,fun H7 s7=>?_⟩;have S7:=(S4.trans s6).trans s7;refine ⟨_,rfl,dQ (fun _=>?_) (fun _=>nx _ _ ⟨S.trans S7,L',PairsIn.mono (Tups.of S7) hp,by lia,gL'⟩)⟩;refine ⟨_,rfl,_,rfl,t2,fun o ho=>nx _ _ ⟨(S.trans S7).trans (Same.new ho _),L'++[r],?_,by rw [aal,aa8];lia,fun p hp=>?_⟩⟩
      · exact PairsIn.snoc (PairsIn.mono (Tups.of (S7.trans (Same.new ho _))) hp) ⟨o,rfl,ae⟩
      · rcases aap.mp hp with hp|hp
        · exact gL' p hp
        · rw [aam.mp hp];exact gr
    · exact aV (nx _ _ ⟨S,L',hp,by lia,gL'⟩)
  · obtain ⟨S,L',hp,hL',gL'⟩:=zz;have s5:=Same.new n5 (.lst ys);exact q p5 ys L' _ ((S2.trans S).trans s5) ((S2.trans S).free n5) ae (PairsIn.mono (Tups.of s5) hp) (by lia) gL'
abbrev eB:Stmt:=top 45
theorem jD:FnScope ["row","signs","holds"] ["row","signs","holds"] (aj eB):=⟨rfl,rfl,rfl,by decide +kernel,rfl,by decide +kernel,by decide +kernel⟩
theorem jg {T aR aS aH:Addr} (F:Fun K "may_be_parts" "may_be_parts" eB f fd) (B:Bu K mg) (C_need_holds:db P w K mg base "need_holds" 5 ["row","signs","thing"] (cR aR aS aH)) (C_list_may_be:Cal P w K mg base "list_may_be" 3 ["many","signs","holds"] mJ):FnOk P w K mg base (CX1 P w) 6 f fd ["row","signs","holds"] (cX aR aS aH T):=by
  refine Fun.ok1 F jD (fun vs H Q E h=>?_) (fun cdv A outer s H vs Q E hr h=>?_)
  · obtain ⟨d,v,e,u,h,x,rfl,_⟩:=h;rfl
  obtain ⟨d,v,e,u,h,x,rfl,hd,he,hh,hsm,hT,rf,q0⟩:=h;refine ⟨_,(@ag _ _ _ _ _ (@cT _ _ _ _ (@b_ _ _ _ _ _ _ _ _ _ _ _ _ C_need_holds dE hr (by lia) rfl (@aa _ _ _ _ _ (pv 0) (@aa _ _ _ _ _ (pv 1) (@aa _ _ _ _ _ (pv 2) ac (by rfl)) (by rfl)) (by rfl)) (by decide) (by rfl) (by rfl)) (by rfl)) (PSs.nox (ai (az (al C_list_may_be hr (by lia) rfl (aa (am aK rfl B.ilen aaL (aa (pv 0) ac)) (aa (pv 1) (aa (pv 2) ac)))))))),?_⟩;refine ⟨_,rfl,_,rfl,_,rfl,d,v,e,u,h,x,rfl,hd,he,hh,rf,fun c c2 c3 H1 s1=>?_⟩;obtain ⟨a,ns,rfl,ea,h1,h9,el⟩:=i_ c hd;obtain ⟨gs,rfl,sp,g1,g3⟩:=mR c2 he;obtain ⟨hs,bs,hv,ghs,gbs⟩:=rh c3 hh;rw [← el] at ghs gbs;have hl:(ns.map V.int).length=ns.length:=aak _;have nd:=cN gs g3 sp;refine ⟨_,rfl,a,_,rfl,.inl (SqL.of (s1 _ _ ea)),_,rfl,_,rfl,?_⟩;rw [hl];exact ⟨ns.length,gs,hs,bs,x,rfl,h1,h9,g1,g3,hv.mono s1,ghs,gbs,fun p us L H2 s2 np ep hp _ _=>q0 c c2 c3 _ H2 (But.of (s1.trans s2)) (hT.mono (s1.trans s2))⟩
abbrev dI:Stmt:=top 46
theorem cS:FnScope ["row","signs","holds","held","barred","many"] ["row","signs","holds"] (aj dI):=⟨rfl,rfl,rfl,by decide +kernel,rfl,by decide +kernel,by decide +kernel⟩
theorem iI {T aR aS aH:Addr} (F:Fun K "must_be_parts" "must_be_parts" dI f fd) (B:Bu K mg) (C_need_holds:db P w K mg base "need_holds" 5 ["row","signs","thing"] (cR aR aS aH)) (C_list_may_be:Cal P w K mg base "list_may_be" 3 ["many","signs","holds"] mJ) (C_list_left_out:Cal P w K mg base "list_left_out" 2 ["many","holds"] rP) (C_count_kept:Cal P w K mg base "count_kept" 2 ["many","signs","left_out"] tz):FnOk P w K mg base (CX1 P w) 6 f fd ["row","signs","holds"] (cX aR aS aH T):=by
  refine Fun.ok1 F cS (fun vs H Q E h=>?_) (fun cdv A outer s H vs Q E hr h=>?_)
  · obtain ⟨d,v,e,u,h,x,rfl,_⟩:=h;rfl
  obtain ⟨d,v,e,u,h,x,rfl,hd,he,hh,hsm,hT,rf,q0⟩:=h;refine ⟨_,(@ag _ _ _ _ _ (@cT _ _ _ _ (@b_ _ _ _ _ _ _ _ _ _ _ _ _ C_need_holds dE hr (by lia) rfl (@aa _ _ _ _ _ (pv 0) (@aa _ _ _ _ _ (pv 1) (@aa _ _ _ _ _ (pv 2) ac (by rfl)) (by rfl)) (by rfl)) (by decide) (by rfl) (by rfl)) (by rfl)) (PSs.nox (ag (fj (pv 2) (eK rfl (aQ (ao (i:=3) (hf:=.inl rfl) (cS).nd rfl (Or.inr rfl)) (aQ (ao (i:=4) (hf:=.inl rfl) (cS).nd rfl (Or.inr rfl)) cu)))) (ag (aD (i:=5) (cS).nd rfl (Or.inr rfl) (am aK rfl B.ilen aaL (aa (pv 0) ac))) (ai (az (fA (NY:=["stretch","many","signs","held","barred"]) (cap:=[none,some 5,some 1,some 3,some 4]) rfl (bu (al C_list_may_be hr (by lia) rfl (aa (pv 5) (aa (pv 1) (aa (pv 2) ac))))) rfl ⟨rfl,⟨rfl,⟨rfl,⟨rfl,trivial⟩⟩⟩⟩ ⟨⟨rfl,Or.inl rfl,Or.inl rfl⟩,⟨⟨rfl,Or.inl rfl,Or.inl rfl⟩,⟨⟨rfl,Or.inl rfl,Or.inl rfl⟩,⟨⟨rfl,Or.inl rfl,Or.inl rfl⟩,trivial⟩⟩⟩⟩ (fun _ _ _ _=>⟨(ao (i:=0) (hf:=.inr rfl) (show aaP (["stretch","many","signs","held","barred"]:List Str) by decide +kernel) rfl (Or.inl rfl)),(eJ (aJ eU (al C_count_kept hr (by lia) rfl (aa (pv 1) (aa (pv 2) (aa (al C_list_left_out hr (by lia) rfl (aa (pv 1) (aa (aB (aa (pv 3) (aa (aq bT (pv 4) (au (aa (pv 0) ac))) ac))) ac))) ac)))) af (aX _))),(pv 0)⟩)))))))),?_⟩;refine ⟨_,rfl,_,rfl,_,rfl,d,v,e,u,h,x,rfl,hd,he,hh,rf,fun c c2 c3 H1 s1=>?_⟩;obtain ⟨a,ns,rfl,ea,h1,h9,el⟩:=i_ c hd;obtain ⟨gs,rfl,sp,g1,g3⟩:=mR c2 he;obtain ⟨hs,bs,hv,ghs,gbs⟩:=rh c3 hh;rw [← el] at ghs gbs;have hl:(ns.map V.int).length=ns.length:=aak _;have nd:=cN gs g3 sp;have hd1:=hv.mono s1;have hd10:=hd1;obtain ⟨av,x,y,rfl,hav,⟨ah,uh,rfl,eah,ph⟩,⟨ab,ub,rfl,eab,pb⟩⟩:=hd1;refine ⟨_,rfl,av,_,rfl,SqT.of hav,rfl,_,_,rfl,_,_,rfl,rfl,?_⟩;refine ⟨_,rfl,a,_,rfl,.inl (SqL.of (s1 _ _ ea)),?_⟩;rw [hl];refine ⟨_,rfl,_,rfl,_,rfl,ns.length,gs,hs,bs,_,rfl,h1,h9,g1,g3,hd10,ghs,gbs,fun pm ms LL H2 s2 npm epm hpm lm45 gLL=>?_⟩;have S2:=s2;have lm:=hpm.length;have lb:=pb.length;have d2:=gbs.1;have d1:=ghs.1;refine ⟨pm,rfl,⟨_,SqL.of epm⟩,?_⟩;refine eV (Trn.list (xs:=ms)) (fun i ys H'=>Same H2 H'∧ys.length≤i) ⟨Same.refl _,aae _⟩ (fun i ys H' hi z=>⟨SqL.of (z.1 _ _ epm),aU (by have:=z.2;lia)⟩) (fun i z ys H0 H' hi hz zz Nx nx=>?_) (fun ys H' zz p5 n5=>?_)
  · obtain ⟨rfl,hz⟩:=hz;obtain ⟨S,hp⟩:=zz;obtain ⟨r,hri,hrr0⟩:=cF (PairsIn.mono (Tups.of S) hpm) hz;have hrr:=hrr0;obtain ⟨b,rfl,hb⟩:=hrr0;have SS:=s2.trans S;have t2:(2:Nat)≤sizeLine:=by decide
    refine ⟨_,rfl,_,rfl,_,rfl,_,rfl,_,rfl,_,rfl,(by show 1≤sizeLine;decide),fun u hu=>?_⟩;have su:=Same.new hu (.lst [.ref b]);refine ⟨ab,u,_,_,rfl,rfl,(SS.trans su) _ _ eab,ae,bj (by show _+1≤1000;lia),fun v1 hv1=>⟨t2,fun w1 hw1=>?_⟩⟩;have sv:=Same.new hv1 (.lst (ub++[.ref b]));have sw:=Same.new hw1 (.tup [.ref ah,.ref v1]);have S4:=su.trans (sv.trans sw);have S5:=SS.trans S4;refine ⟨ns.length,hs,bs++[r],_,rfl,h9,⟨w1,_,_,rfl,ae,⟨ah,uh,rfl,S5 _ _ eah,PairsIn.mono (Tups.of S5) ph⟩,⟨v1,_,rfl,sw _ _ ae,PairsIn.snoc (PairsIn.mono (Tups.of S5) pb) (PairIn.mono (Tups.of S4) hrr)⟩⟩,by lia,fun pa lus H6 s6 npa epa hlo=>?_⟩;refine ⟨ns.length,gs,pa,lo ns.length hs (bs++[r]),lus,rfl,h1,h9,g1,g3,epa,hlo,fun H7 s7=>?_⟩;have S7:=(S4.trans s6).trans s7;refine ⟨rfl,_,rfl,dQ (fun _=>⟨_,rfl,nx _ _ ⟨S.trans S7,by rw [aal,aa8];lia⟩⟩) (fun _=>nx _ _ ⟨S.trans S7,by lia⟩)⟩
  · obtain ⟨S,hp⟩:=zz;have s5:=(s1.trans (s2.trans S)).trans (Same.new n5 (.lst ys));exact q0 c c2 c3 _ _ (But.of s5) (hT.mono s5)
def tE (aR aS aH T:Addr):Sp:=fun vs H Q E=>∃ k d v e u h x,vs=[.int k,v,u,x]∧0≤k∧k≤6∧Dat H d v∧Dat H e u∧Dat H h x∧Sm1 H d v∧LT T H∧Rf aR aS aH d e h H E∧(bt d=true→cE e=true→bW (iC d) h=true→∀ y H',But T H H'→LT T H'→Q y H')
abbrev fU:Stmt:=top 64
theorem lM:FnScope ["way","row","signs","holds"] ["way","row","signs","holds"] (aj fU):=⟨rfl,rfl,rfl,by decide +kernel,rfl,by decide +kernel,by decide +kernel⟩
theorem t_ {T aR aS aH:Addr} (F:Fun K "_law_asked" "_law_asked" fU f fd) (C_how_many_held:db P w K mg base "how_many_held" 6 ["row","signs","holds"] (cX aR aS aH T)) (C_first_held:db P w K mg base "first_held" 13 ["row","signs","holds"] (cX aR aS aH T)) (C_bounds_held:db P w K mg base "bounds_held" 7 ["row","signs","holds"] (cX aR aS aH T)) (C_greatest_held:db P w K mg base "greatest_held" 13 ["row","signs","holds"] (cX aR aS aH T)) (C_least_held:db P w K mg base "least_held" 13 ["row","signs","holds"] (cX aR aS aH T)) (C_may_be_parts:db P w K mg base "may_be_parts" 6 ["row","signs","holds"] (cX aR aS aH T)) (C_must_be_parts:db P w K mg base "must_be_parts" 6 ["row","signs","holds"] (cX aR aS aH T)):FnOk P w K mg base (CX1 P w) 14 f fd ["way","row","signs","holds"] (tE aR aS aH T):=by
  refine Fun.ok1 F lM (fun vs H Q E h=>?_) (fun cdv A outer s H vs Q E hr h=>?_)
  · obtain ⟨k,d,v,e,u,h,x,rfl,_⟩:=h;rfl
  obtain ⟨k,d,v,e,u,h,x,rfl,k0,k6,hd,he,hh,hsm,hT,rf,q0⟩:=h;refine ⟨_,(@ag _ _ _ _ _ (@bV _ _ _ _ _ _ _ _ (@aJ _ _ _ _ _ _ _ _ eU (pv 0) af (aX _)) (@ai _ _ _ (@az _ _ _ _ (@b_ _ _ _ _ _ _ _ _ _ _ _ _ C_how_many_held dE hr (by lia) rfl (@aa _ _ _ _ _ (pv 1) (@aa _ _ _ _ _ (pv 2) (@aa _ _ _ _ _ (pv 3) ac (by rfl)) (by rfl)) (by rfl)) (by decide) (by rfl) (by rfl)))) a6) (@ag _ _ _ _ _ (@bV _ _ _ _ _ _ _ _ (@aJ _ _ _ _ _ _ _ _ eU (pv 0) af (aX _)) (@ai _ _ _ (@az _ _ _ _ (@b_ _ _ _ _ _ _ _ _ _ _ _ _ C_first_held dE hr (by lia) rfl (@aa _ _ _ _ _ (pv 1) (@aa _ _ _ _ _ (pv 2) (@aa _ _ _ _ _ (pv 3) ac (by rfl)) (by rfl)) (by rfl)) (by decide) (by rfl) (by rfl)))) a6) (@ag _ _ _ _ _ (@bV _ _ _ _ _ _ _ _ (@aJ _ _ _ _ _ _ _ _ eU (pv 0) af (aX _)) (@ai _ _ _ (@az _ _ _ _ (@b_ _ _ _ _ _ _ _ _ _ _ _ _ C_bounds_held dE hr (by lia) rfl (@aa _ _ _ _ _ (pv 1) (@aa _ _ _ _ _ (pv 2) (@aa _ _ _ _ _ (pv 3) ac (by rfl)) (by rfl)) (by rfl)) (by decide) (by rfl) (by rfl)))) a6) (@ag _ _ _ _ _ (@bV _ _ _ _ _ _ _ _ (@aJ _ _ _ _ _ _ _ _ eU (pv 0) af (aX _)) (@ai _ _ _ (@az _ _ _ _ (@b_ _ _ _ _ _ _ _ _ _ _ _ _ C_greatest_held dE hr (by lia) rfl (@aa _ _ _ _ _ (pv 1) (@aa _ _ _ _ _ (pv 2) (@aa _ _ _ _ _ (pv 3) ac (by rfl)) (by rfl)) (by rfl)) (by decide) (by rfl) (by rfl)))) a6) (@ag _ _ _ _ _ (@bV _ _ _ _ _ _ _ _ (@aJ _ _ _ _ _ _ _ _ eU (pv 0) af (aX _)) (@ai _ _ _ (@az _ _ _ _ (@b_ _ _ _ _ _ _ _ _ _ _ _ _ C_least_held dE hr (by lia) rfl (@aa _ _ _ _ _ (pv 1) (@aa _ _ _ _ _ (pv 2) (@aa _ _ _ _ _ (pv 3) ac (by rfl)) (by rfl)) (by rfl)) (by decide) (by rfl) (by rfl)))) a6) (@ag _ _ _ _ _ (@bV _ _ _ _ _ _ _ _ (@aJ _ _ _ _ _ _ _ _ eU (pv 0) af (aX _)) (@ai _ _ _ (@az _ _ _ _ (@b_ _ _ _ _ _ _ _ _ _ _ _ _ C_may_be_parts dE hr (by lia) rfl (@aa _ _ _ _ _ (pv 1) (@aa _ _ _ _ _ (pv 2) (@aa _ _ _ _ _ (pv 3) ac (by rfl)) (by rfl)) (by rfl)) (by decide) (by rfl) (by rfl)))) a6) (@ai _ _ _ (@az _ _ _ _ (@b_ _ _ _ _ _ _ _ _ _ _ _ _ C_must_be_parts dE hr (by lia) rfl (@aa _ _ _ _ _ (pv 1) (@aa _ _ _ _ _ (pv 2) (@aa _ _ _ _ _ (pv 3) ac (by rfl)) (by rfl)) (by rfl)) (by decide) (by rfl) (by rfl)))))))))),?_⟩;have cases7:k=0∨k=1∨k=2∨k=3∨k=4∨k=5∨k=6:=by lia
  rcases cases7 with rfl|rfl|rfl|rfl|rfl|rfl|rfl
  · exact ⟨_,rfl,rfl,true,rfl,cD ⟨_,rfl,_,rfl,_,rfl,d,v,e,u,h,x,rfl,hd,he,hh,hsm,hT,rf,q0⟩⟩
  · exact ⟨_,rfl,rfl,false,rfl,aV ⟨_,rfl,rfl,true,rfl,cD ⟨_,rfl,_,rfl,_,rfl,d,v,e,u,h,x,rfl,hd,he,hh,hsm,hT,rf,q0⟩⟩⟩
  · exact ⟨_,rfl,rfl,false,rfl,aV ⟨_,rfl,rfl,false,rfl,aV ⟨_,rfl,rfl,true,rfl,cD ⟨_,rfl,_,rfl,_,rfl,d,v,e,u,h,x,rfl,hd,he,hh,hsm,hT,rf,q0⟩⟩⟩⟩
  · exact ⟨_,rfl,rfl,false,rfl,aV ⟨_,rfl,rfl,false,rfl,aV ⟨_,rfl,rfl,false,rfl,aV ⟨_,rfl,rfl,true,rfl,cD ⟨_,rfl,_,rfl,_,rfl,d,v,e,u,h,x,rfl,hd,he,hh,hsm,hT,rf,q0⟩⟩⟩⟩⟩
  · exact ⟨_,rfl,rfl,false,rfl,aV ⟨_,rfl,rfl,false,rfl,aV ⟨_,rfl,rfl,false,rfl,aV ⟨_,rfl,rfl,false,rfl,aV ⟨_,rfl,rfl,true,rfl,cD ⟨_,rfl,_,rfl,_,rfl,d,v,e,u,h,x,rfl,hd,he,hh,hsm,hT,rf,q0⟩⟩⟩⟩⟩⟩
  · exact ⟨_,rfl,rfl,false,rfl,aV ⟨_,rfl,rfl,false,rfl,aV ⟨_,rfl,rfl,false,rfl,aV ⟨_,rfl,rfl,false,rfl,aV ⟨_,rfl,rfl,false,rfl,aV ⟨_,rfl,rfl,true,rfl,cD ⟨_,rfl,_,rfl,_,rfl,d,v,e,u,h,x,rfl,hd,he,hh,hsm,hT,rf,q0⟩⟩⟩⟩⟩⟩⟩
  · exact ⟨_,rfl,rfl,false,rfl,aV ⟨_,rfl,rfl,false,rfl,aV ⟨_,rfl,rfl,false,rfl,aV ⟨_,rfl,rfl,false,rfl,aV ⟨_,rfl,rfl,false,rfl,aV ⟨_,rfl,rfl,false,rfl,aV ⟨_,rfl,_,rfl,_,rfl,d,v,e,u,h,x,rfl,hd,he,hh,hsm,hT,rf,q0⟩⟩⟩⟩⟩⟩⟩
end
open PySem L2
structure Xk (mg:Str→Option Value) (aR aS aW aN aL aF aO aA aH aT aM:Addr):Prop where
  mNoRow:mg "NoRow" = some (.ref aR)
  mNoSigns:mg "NoSigns" = some (.ref aS)
  mNoWay:mg "NoWay" = some (.ref aW)
  mNoNumber:mg "NoNumber" = some (.ref aN)
  mNoPlace:mg "NoPlace" = some (.ref aL)
  mNoFit:mg "NoFit" = some (.ref aF)
  mNoForm:mg "NoForm" = some (.ref aO)
  mNoAsk:mg "NoAsk" = some (.ref aA)
  mNoHolds:mg "NoHolds" = some (.ref aH)
  mNoText:mg "NoText" = some (.ref aT)
  mTooMany:mg "TooMany" = some (.ref aM)
  iValueError:mg "ValueError" = none
structure Kx (K:aaa) (C:Addr):Prop where
  ex:ExC K C
  kv:aaJ K (.ref C) (.type "ValueError")=some true
structure Kg (K:aaa) (aR aS aW aN aL aF aO aA aH aT aM:Addr) (t:Value) (j:Nat):Prop where
  k0:aaJ K t (.ref aR)=some (decide (j=0))
  k1:aaJ K t (.ref aS)=some (decide (j=1))
  k2:aaJ K t (.ref aW)=some (decide (j=2))
  k3:aaJ K t (.ref aN)=some (decide (j=3))
  k4:aaJ K t (.ref aH)=some (decide (j=4))
  k5:aaJ K t (.ref aM)=some (decide (j=5))
  k6:aaJ K t (.ref aT)=some (decide (j=6))
  ko:PySem.W.kitAny K t [.ref aA,.ref aF,.ref aO,.ref aL]=some false
def qK:List V:=[.str "NoRow",.str "NoSigns",.str "NoWay",.str "NoNumber",.str "NoHolds",.str "TooMany",.str "NoText"]
def rL (j:Nat):List Bool:=[decide (j=0),decide (j=1),decide (j=2),decide (j=3),decide (j=4),decide (j=5),decide (j=6)]
theorem sW:∀ j,j < 7→(rL j).countP id=1:=by decide
theorem xL:∀ j,j < 7→(rL j)[j]?=some true∧∀ m,m < j→(rL j)[m]?=some false:=by decide
theorem wz {a b c d:Addr} {us:List Value} (r:Vals [.ref a,.ref b,.ref c,.ref d] us):us=[.ref a,.ref b,.ref c,.ref d]:=by
  cases r with
  | cons p r=>cases r with
    | cons p' r=>cases r with
      | cons p'' r=>cases r with
        | cons p3 r=>cases r;cases p;cases p';cases p'';cases p3;rfl
def tj (K:aaa) (aR aS aW aN aL aF aO aA aH aT aM:Addr):Sp:=fun vs H Q _=>∃ (x:V) (t:Value) (j:Nat) (nm:Str),vs=[x]∧CauT K H x t∧Kg K aR aS aW aN aL aF aO aA aH aT aM t j∧j < 7∧aaJ K t (.type "ValueError")=some true∧qK[j]?=some (.str nm)∧∀ H',Same H H'→Q (.str nm) H'
theorem iL {T:Addr} {H H':Hp} (s:Same H H'):Same (off T H) (off T H'):=fun c o h=>by
  unfold off at h ⊢;by_cases e:c=T
  · rw [if_pos e] at h;cases h
  · rw [if_neg e] at h ⊢;exact s _ _ h
theorem oP {T:Addr} {H H':Hp} (s:But T H H'):Same (off T H) (off T H'):=fun c o h=>by
  unfold off at h ⊢;by_cases e:c=T
  · rw [if_pos e] at h;cases h
  · rw [if_neg e] at h ⊢;exact s _ _ e h
theorem off_le {T:Addr} {H:Hp}:Same (off T H) H:=fun c o h=>by
  unfold off at h;by_cases e:c=T
  · rw [if_pos e] at h;cases h
  · rw [if_neg e] at h;exact h
def PrD (d:PyData):Prop:=d.showable=true∧d.depth≤50∧d.shown.length≤100000
theorem j5 {d:PyData} (h:OkD d) (hs:szD d≤900) (hd:d.depth≤50):PrD d:=by
  have:=tY d h;exact ⟨qW d h,hd,by lia⟩
theorem wV {i:Int} (h:i.natAbs < 10 ^ 40):PrD (.int i):=by
  refine ⟨?_,by simp [aaj],?_⟩
  · have z:(10:Nat) ^ 40 < 2 ^ 140:=by decide
    have : i.natAbs.log2 < 140:=by
      by_cases c:i.natAbs=0
      · rw [c];decide
      · exact (Nat.log2_lt c).mpr (by lia)
    simp only [abn];exact decide_eq_true (by lia)
  · have e:=int_text_length_le10 (a:=i) (k:=40) (by decide) h;show (Str.ofString (toString i)).length≤100000;rw [ofString_length];lia
theorem cc {H:Hp}:∀ ns:List Int,DatAll H (ns.map PyData.int) (ns.map V.int)
  | []=>by simp only [abh,DatAll]
  | i :: ns=>by
    simp only [aaH,DatAll];exact ⟨_,_,rfl,by simp only [Dat],cc ns⟩
theorem cq:∀ {ns:List Int},Small ns→OkAll (ns.map PyData.int)
  | [],_=>by simp only [abh,OkAll]
  | i :: ns,h=>by
    simp only [aaH,OkAll,OkD];have:=h i aav;have z:(10:Nat) ^ 13=10000000000000:=by decide
    exact ⟨by lia,cq fun j hj=>h j (aai _ hj)⟩
theorem cM:∀ ns:List Int,szAll (ns.map PyData.int)=ns.length
  | []=>rfl
  | i :: ns=>by simp only [aaH,szAll,szD,cM ns,aaF];lia
theorem cO:∀ ns:List Int,aag (ns.map PyData.int)=0
  | []=>rfl
  | i :: ns=>by simp only [aaH,aag,aaj,cO ns];rfl
theorem kz:∀ {a b:List PyData},OkAll a→OkAll b→OkAll (a++b)
  | [],_,_,h=>h
  | x :: a,b,h,k=>by
    simp only [abf,OkAll] at h ⊢;exact ⟨h.1,kz h.2 k⟩
theorem mH:∀ a b:List PyData,szAll (a++b)=szAll a+szAll b
  | [],b=>by simp [szAll]
  | x :: a,b=>by simp only [abf,szAll,mH a b];lia
theorem nF:∀ a b:List PyData,aag (a++b)=max (aag a) (aag b)
  | [],b=>by simp [aag]
  | x :: a,b=>by simp only [abf,aag,nF a b];lia
theorem Small.take {ns:List Int} (h:Small ns) (k:Nat):Small (ns.take k):=fun i hi=>h i (abD hi)
theorem Small.drop {ns:List Int} (h:Small ns) (k:Nat):Small (ns.drop k):=fun i hi=>h i (List.mem_of_mem_drop hi)
def Gq (p:PyData→Bool) (H:Hp) (u:V):Prop:=∃ d,Dat H d u∧PrD d∧p d=true
theorem Gq.mono {p:PyData→Bool} {H H':Hp} {u:V} (g:Same H H') (h:Gq p H u):Gq p H' u:=by obtain ⟨d,a,b⟩:=h;exact ⟨d,Dat.mono g d u a,b⟩
section
variable {p:PyData→Bool} {H:Hp}
theorem mr {d:PyData} {u:V} (hd:Dat H d u) (ok:OkD d) (hs:szD d≤900) (hp:d.depth≤50) (h:p d=true):Gq p H u:=⟨d,hd,j5 ok hs hp,h⟩
theorem qx (h:p .none=true):Gq p H .non:=mr (d:=.none) (by simp only [Dat]) (by simp only [OkD]) (by simp [szD]) (by simp [aaj]) h
theorem uE (b:Bool) (h:p (.bool b)=true):Gq p H (.bl b):=mr (d:=.bool b) (by simp only [Dat]) (by simp only [OkD]) (by simp [szD]) (by simp [aaj]) h
theorem qy (i:Int) (hi:i.natAbs < 10 ^ 40) (h:p (.int i)=true):Gq p H (.int i):=⟨.int i,by simp only [Dat],wV hi,h⟩
theorem cW (x:Str) (hx:(reprText x).length≤20) (h:p (.str x)=true):Gq p H (.str x):=mr (d:=.str x) (by simp only [Dat]) (by simp only [OkD];exact hx) (by simp [szD]) (by simp [aaj]) h
theorem dX {a:Addr} {xs:List V} {ds:List PyData} (e:H a=some (.lst xs)) (hd:DatAll H ds xs) (ok:OkAll ds) (sz:szAll ds≤800) (dp:aag ds≤40) (h:p (.list ds)=true):Gq p H (.ref a) :=
  mr (d:=.list ds) (by simp only [Dat];exact ⟨a,xs,rfl,e,hd⟩) (by simp only [OkD];exact ok) (by simp only [szD];lia) (by simp only [aaj];lia) h
theorem iu {a:Addr} {xs:List V} {ds:List PyData} (e:H a=some (.tup xs)) (hd:DatAll H ds xs) (ok:OkAll ds) (sz:szAll ds≤800) (dp:aag ds≤40) (h:p (.tuple ds)=true):Gq p H (.ref a) :=
  mr (d:=.tuple ds) (by simp only [Dat];exact ⟨a,xs,rfl,e,hd⟩) (by simp only [OkD];exact ok) (by simp only [szD];lia) (by simp only [aaj];lia) h
theorem nB {a:Addr} (e:H a=some (.dK [])) (h:p (.dict [])=true):Gq p H (.ref a):=mr (d:=.dict []) (by simp only [Dat,DatKv];exact ⟨a,_,rfl,e,rfl⟩) (by simp only [OkD]) (by simp [szD]) (by simp [aaj,PyData.depthKv]) h
theorem wo (k:Int):DatAll H [.int k] [.int k]:=by simp only [DatAll,Dat];exact ⟨_,_,rfl,rfl,rfl⟩
theorem wn (k:Str):DatAll H [.str k] [.str k]:=by simp only [DatAll,Dat];exact ⟨_,_,rfl,rfl,rfl⟩
theorem o8:DatAll H [] []:=by simp only [DatAll]
end
def yR (d:PyData):Bool:=!cE d
def tV (d:PyData):Bool:=!bt d
def cz (w z:Addr) (H:Hp):Hp:=off z (off w H)
theorem dw {w z b:Addr} {H:Hp} (h:b≠w) (h2:b≠z):cz w z H b=H b:=(a9 h2).trans (a9 h)
theorem dl {w z:Addr} {H H':Hp} (b:But w H H'):Same (cz w z H) (cz w z H'):=fun c o h=>by
  unfold cz off at h ⊢;by_cases c1:c=z
  · rw [if_pos c1] at h;cases h
  · rw [if_neg c1] at h ⊢;by_cases c2:c=w
    · rw [if_pos c2] at h;cases h
    · rw [if_neg c2] at h ⊢;exact b c o c2 h
theorem eX {H H':Hp} {z p:Addr} {oz:HO} (e:H z=some oz) (s:Same H H') (n:H' p=none):p≠z:=abC (ak (s _ _ e) n)
theorem pr3 {a b c:PyData} (h1:PrD a) (h2:PrD b) (h3:PrD c):(PyData.list [a,b,c]).showable=true∧(PyData.list [a,b,c]).depth≤60∧(PyData.list [a,b,c]).shown.length≤sizeLine:=by
  obtain ⟨a1,a2,a3⟩:=h1;obtain ⟨b1,b2,b3⟩:=h2;obtain ⟨c1,c2,c3⟩:=h3;refine ⟨?_,?_,?_⟩
  · simp only [abn,ab7,a1,b1,c1,Bool.and_self]
  · simp only [aaj,aag];lia
  · have z:=listText_len_le (abH [a,b,c]);simp only [PyData.shown];simp only [abH,aaH,abh,abJ,List.sum_nil,aaF,aa7] at z ⊢;exact aaT (show _≤700000 by lia) (by rw [sizeLine_eq];decide)
theorem neF {b:Bool} (h:b=true):¬ b=false:=fun z=>by rw [h] at z;cases z
def fw (d e h:PyData):Str:=if bt d=false then "NoRow" else if cE e=false then "NoSigns" else if bW (iC d) h=false then "NoHolds" else "told"
theorem oo {d e h:PyData} (c:bt d=false):fw d e h = "NoRow":=by unfold fw;rw [if_pos c]
theorem jU {d e h:PyData} (c:bt d=true) (c2:cE e=false):fw d e h = "NoSigns":=by unfold fw;rw [if_neg (neF c),if_pos c2]
theorem jV {d e h:PyData} (c:bt d=true) (c2:cE e=true) (c3:bW (iC d) h=false):fw d e h = "NoHolds":=by unfold fw;rw [if_neg (neF c),if_neg (neF c2),if_pos c3]
theorem i5 {d e h:PyData} (c:bt d=true) (c2:cE e=true) (c3:bW (iC d) h=true):fw d e h = "told":=by unfold fw;rw [if_neg (neF c),if_neg (neF c2),if_neg (neF c3)]
def pQ (T:Addr):Sp:=fun vs H Q _=>∃ k d v e u h x,vs=[.int k,v,u,x]∧0≤k∧k≤6∧Dat (off T H) d v∧Dat (off T H) e u∧Dat (off T H) h x∧PrD d∧PrD e∧PrD h∧Sm1 H d v∧LT T H∧∀ H',But T H H'→LT T H'→Q (.str (fw d e h)) H'
section
variable {P:Program} {w:World} {K:aaa} {mg:Str→Option Value} {base:Heap} {f:Addr} {fd:FuncData}
abbrev gz:Stmt:=top 59
theorem dU:FnScope ["caught","kinds","odd"] ["caught"] (aj gz):=⟨rfl,rfl,rfl,by decide +kernel,rfl,by decide +kernel,by decide +kernel⟩
theorem vB {aR aS aW aN aL aF aO aA aH aT aM:Addr} (F:Fun K "_law_word" "_law_word" gz f fd) (B:Bu K mg) (XK:Xk mg aR aS aW aN aL aF aO aA aH aT aM):FnOk P w K mg base CX0 1 f fd ["caught"] (tj K aR aS aW aN aL aF aO aA aH aT aM):=by
  refine F.ok dU (fun vs H Q E h=>?_) (fun cdv A outer s H vs Q E hr h=>?_)
  · obtain ⟨x,t,j,nm,rfl,_⟩:=h;rfl
  obtain ⟨x,t,j,nm,rfl,hx,kf,j7,kv,hn,q⟩:=h;refine ⟨_,(@ag _ _ _ _ _ (@aD _ _ (1) _ _ _ _ (dU).nd rfl (Or.inl rfl) (@au _ _ _ _ (@aa _ _ _ _ _ (@am _ _ _ _ _ _ _ _ _ cf rfl B.iisinstance aau (@aa _ _ _ _ _ (pv 0) (@aa _ _ _ _ _ (@cx _ _ (.ref aR) _ _ rfl XK.mNoRow rfl (by decide)) ac (by rfl)) (by rfl)) (by decide) (by decide) (by rfl) (by rfl)) (@aa _ _ _ _ _ (@am _ _ _ _ _ _ _ _ _ cf rfl B.iisinstance aau (@aa _ _ _ _ _ (pv 0) (@aa _ _ _ _ _ (@cx _ _ (.ref aS) _ _ rfl XK.mNoSigns rfl (by decide)) ac (by rfl)) (by rfl)) (by decide) (by decide) (by rfl) (by rfl)) (@aa _ _ _ _ _ (@am _ _ _ _ _ _ _ _ _ cf rfl B.iisinstance aau (@aa _ _ _ _ _ (pv 0) (@aa _ _ _ _ _ (@cx _ _ (.ref aW) _ _ rfl XK.mNoWay rfl (by decide)) ac (by rfl)) (by rfl)) (by decide) (by decide) (by rfl) (by rfl)) ac (by rfl)) (by rfl)) (by rfl))) (by rfl) (by first|exact .inl rfl|exact .inr rfl|assumption)) (@ag _ _ _ _ _ (@aD _ _ (1) _ _ _ _ (dU).nd rfl (Or.inl rfl) (@aq _ _ _ _ _ _ _ _ bT (pv 1) (@au _ _ _ _ (@aa _ _ _ _ _ (@am _ _ _ _ _ _ _ _ _ cf rfl B.iisinstance aau (@aa _ _ _ _ _ (pv 0) (@aa _ _ _ _ _ (@cx _ _ (.ref aN) _ _ rfl XK.mNoNumber rfl (by decide)) ac (by rfl)) (by rfl)) (by decide) (by decide) (by rfl) (by rfl)) (@aa _ _ _ _ _ (@am _ _ _ _ _ _ _ _ _ cf rfl B.iisinstance aau (@aa _ _ _ _ _ (pv 0) (@aa _ _ _ _ _ (@cx _ _ (.ref aH) _ _ rfl XK.mNoHolds rfl (by decide)) ac (by rfl)) (by rfl)) (by decide) (by decide) (by rfl) (by rfl)) (@aa _ _ _ _ _ (@am _ _ _ _ _ _ _ _ _ cf rfl B.iisinstance aau (@aa _ _ _ _ _ (pv 0) (@aa _ _ _ _ _ (@cx _ _ (.ref aM) _ _ rfl XK.mTooMany rfl (by decide)) ac (by rfl)) (by rfl)) (by decide) (by decide) (by rfl) (by rfl)) ac (by rfl)) (by rfl)) (by rfl)))) (by rfl) (by first|exact .inl rfl|exact .inr rfl|assumption)) (@ag _ _ _ _ _ (@cT _ _ _ _ (@ju _ _ _ _ _ _ _ _ _ _ _ _ aa3 abi abj dZ (pv 1) (@aa _ _ _ _ _ (@am _ _ _ _ _ _ _ _ _ cf rfl B.iisinstance aau (@aa _ _ _ _ _ (pv 0) (@aa _ _ _ _ _ (@cx _ _ (.ref aT) _ _ rfl XK.mNoText rfl (by decide)) ac (by rfl)) (by rfl)) (by decide) (by decide) (by rfl) (by rfl)) ac (by rfl)) (by rfl) (by rfl) (by rfl) (by rfl) (by rfl)) (by rfl)) (@ag _ _ _ _ _ (@aD _ _ (2) _ _ _ _ (dU).nd rfl (Or.inl rfl) (@am _ _ _ _ _ _ _ _ _ lV rfl B.iisinstance aau (@aa _ _ _ _ _ (pv 0) (@aa _ _ _ _ _ (@aB _ _ _ _ _ (@aa _ _ _ _ _ (@cx _ _ (.ref aA) _ _ rfl XK.mNoAsk rfl (by decide)) (@aa _ _ _ _ _ (@cx _ _ (.ref aF) _ _ rfl XK.mNoFit rfl (by decide)) (@aa _ _ _ _ _ (@cx _ _ (.ref aO) _ _ rfl XK.mNoForm rfl (by decide)) (@aa _ _ _ _ _ (@cx _ _ (.ref aL) _ _ rfl XK.mNoPlace rfl (by decide)) ac (by rfl)) (by rfl)) (by rfl)) (by rfl))) ac (by rfl)) (by rfl)) (by decide) (by decide) (by rfl) (by rfl)) (by rfl) (by first|exact .inl rfl|exact .inr rfl|assumption)) (@ag _ _ _ _ _ (@bV _ _ _ _ _ _ _ _ (@PW.pt _ _ _ (@g_ _ _ _ _ _ _ _ (@eI _ _ _ (pv 2) (fun _=>rfl)) (@g_ _ _ _ _ _ _ _ (@aJ _ _ _ _ _ _ _ _ jv (@ju _ _ _ _ _ _ _ _ _ _ _ _ aa3 PySem.F.slot_list_count PySem.F.type_list_count (@sh _ hr.units) (pv 1) (@aa _ _ _ _ _ bS ac (by rfl)) (by rfl) (by rfl) (by rfl) (by rfl) (by rfl)) af (aX _)) (@gE _ _ _ _ (@fW _ _ _ _ (@fV _ _ _ (@am _ _ _ _ _ _ _ _ _ cf rfl B.iisinstance aau (@aa _ _ _ _ _ (pv 0) (@aa _ _ _ _ _ (@eZ _ _ (.ty "ValueError") _ _ rfl XK.iValueError (by decide +kernel) rfl (by decide) (by decide)) ac (by rfl)) (by rfl)) (by decide) (by decide) (by rfl) (by rfl)) (by intro _;rfl))))))) (@ai _ _ _ (@az _ _ _ _ aG)) a6) (@ai _ _ _ (@az _ _ _ _ (@aY _ _ _ _ _ _ _ bc (@au _ _ _ _ (@aa _ _ _ _ _ aG (@aa _ _ _ _ _ aG (@aa _ _ _ _ _ aG (@aa _ _ _ _ _ aG (@aa _ _ _ _ _ aG (@aa _ _ _ _ _ aG (@aa _ _ _ _ _ aG ac (by rfl)) (by rfl)) (by rfl)) (by rfl)) (by rfl)) (by rfl)) (by rfl))) (@ju _ _ _ _ _ _ _ _ _ _ _ _ aa3 PySem.F.slot_list_index PySem.F.type_list_index (@sg _ hr.units) (pv 1) (@aa _ _ _ _ _ bS ac (by rfl)) (by rfl) (by rfl) (by rfl) (by rfl) (by rfl)) (fun _ _=>rfl))))))))),?_⟩;refine ⟨_,rfl,x,_,t,_,_,rfl,hx,fun _ z=>z,kf.k0,_,rfl,x,_,t,_,_,rfl,hx,fun _ z=>z,kf.k1,_,rfl,x,_,t,_,_,rfl,hx,fun _ z=>z,kf.k2,(by show 3≤sizeLine;decide),fun pk nk=>?_⟩;have g1:=Same.new nk (.lst [.bl (decide (j=0)),.bl (decide (j=1)),.bl (decide (j=2))]);have ek1:upd H pk (.lst [.bl (decide (j=0)),.bl (decide (j=1)),.bl (decide (j=2))]) pk=_:=ae;generalize upd H pk (.lst [.bl (decide (j=0)),.bl (decide (j=1)),.bl (decide (j=2))])=H1 at g1 ek1 ⊢;have hx1:=hx.mono g1;refine ⟨_,rfl,_,rfl,x,_,t,_,_,rfl,hx1,fun _ z=>z,kf.k3,_,rfl,x,_,t,_,_,rfl,hx1,fun _ z=>z,kf.k4,_,rfl,x,_,t,_,_,rfl,hx1,fun _ z=>z,kf.k5,(by show 3≤sizeLine;decide),fun pl nl=>?_⟩;have g2:=Same.new nl (.lst [.bl (decide (j=3)),.bl (decide (j=4)),.bl (decide (j=5))]);have ek2:upd H1 pl (.lst [.bl (decide (j=3)),.bl (decide (j=4)),.bl (decide (j=5))]) pl=_:=ae;have ek1':=g2 _ _ ek1;generalize upd H1 pl (.lst [.bl (decide (j=3)),.bl (decide (j=4)),.bl (decide (j=5))])=H2 at g2 ek2 ek1' ⊢;refine ⟨pk,pl,_,_,rfl,rfl,ek1',ek2,(by show 6≤sizeLine;decide),fun pm nm'=>?_⟩;have g3:=Same.new nm' (.lst ([.bl (decide (j=0)),.bl (decide (j=1)),.bl (decide (j=2))]++[.bl (decide (j=3)),.bl (decide (j=4)),.bl (decide (j=5))]));have ek:upd H2 pm (.lst ([.bl (decide (j=0)),.bl (decide (j=1)),.bl (decide (j=2))]++[.bl (decide (j=3)),.bl (decide (j=4)),.bl (decide (j=5))])) pm=some (.lst [.bl (decide (j=0)),.bl (decide (j=1)),.bl (decide (j=2)),.bl (decide (j=3)),.bl (decide (j=4)),.bl (decide (j=5))]):=ae;have G2:=g1.trans g2;have nm0:H pm=none:=G2.free nm';have G3:=G2.trans g3;generalize upd H2 pm (.lst ([.bl (decide (j=0)),.bl (decide (j=1)),.bl (decide (j=2))]++[.bl (decide (j=3)),.bl (decide (j=4)),.bl (decide (j=5))]))=H3 at g3 ek G3 ⊢;refine ⟨_,rfl,.inl ⟨rfl,_,SqL.of ek⟩,_,rfl,x,_,t,_,_,rfl,(hx.mono G3),fun _ z=>z,kf.k6,pm,_,_,rfl,rfl,ek,(by show 6 < sizeLine;decide),?_⟩;have G4:=G3.upd (o:=.lst ([.bl (decide (j=0)),.bl (decide (j=1)),.bl (decide (j=2)),.bl (decide (j=3)),.bl (decide (j=4)),.bl (decide (j=5))]++[.bl (decide (j=6))])) nm0;have ek4:upd H3 pm (.lst ([.bl (decide (j=0)),.bl (decide (j=1)),.bl (decide (j=2)),.bl (decide (j=3)),.bl (decide (j=4)),.bl (decide (j=5))]++[.bl (decide (j=6))])) pm=some (.lst ((rL j).map V.bl)):=ae;generalize upd H3 pm (.lst ([.bl (decide (j=0)),.bl (decide (j=1)),.bl (decide (j=2)),.bl (decide (j=3)),.bl (decide (j=4)),.bl (decide (j=5))]++[.bl (decide (j=6))]))=H4 at G4 ek4 ⊢;refine ⟨_,rfl,(by show 4≤sizeLine;decide),fun p1 n1=>⟨x,p1,_,t,_,false,rfl,(hx.mono G4).mono (Same.new n1 _),ae,fun _ r=>wz r,kf.ko,?_⟩⟩;have G5:=G4.trans (Same.new n1 (.tup [.ref aA,.ref aF,.ref aO,.ref aL]));have ek5:=(Same.new n1 (.tup [.ref aA,.ref aF,.ref aO,.ref aL])) _ _ ek4;generalize upd H4 p1 (.tup [.ref aA,.ref aF,.ref aO,.ref aL])=H5 at G5 ek5 ⊢;have hx5:=hx.mono G5;refine ⟨_,rfl,false,rfl,aV ?_⟩;refine ⟨_,rfl,.inl ⟨rfl,_,SqL.of ek5⟩,pm,rL j,rfl,rfl,SqL.of ek5,?_⟩;rw [sW j j7];refine ⟨rfl,_,rfl,yi rfl ?_⟩;refine ⟨_,rfl,x,_,t,_,_,rfl,hx5,fun _ z=>z,kv,true,rfl,aV ?_⟩;refine ⟨(by show 7≤sizeLine;decide),fun pn nn=>?_⟩;have g7:=Same.new nn (.lst qK);obtain ⟨k1,k2⟩:=xL j j7;refine ⟨_,rfl,.inl ⟨rfl,_,SqL.of (g7 _ _ ek5)⟩,pm,rL j,j,rfl,rfl,SqL.of (g7 _ _ ek5),k1,k2,(by show 7≤1000;decide),?_⟩;exact ⟨pn,_,_,_,rfl,rfl,SqL.of ae,iR hn,q _ (G5.trans g7)⟩
abbrev gB:Stmt:=top 65
theorem dk:FnScope ["way","row","signs","holds","caught","kept","e"] ["way","row","signs","holds"] (aj gB):=⟨rfl,rfl,rfl,by decide +kernel,rfl,by decide +kernel,by decide +kernel⟩
theorem vD {T aP aR aS aW aN aL aF aO aA aH aT aM:Addr} (F:Fun K "_law_said" "_law_said" gB f fd) (B:Bu K mg) (XC:Xc K mg aP aR aS aH) (E0:Kg K aR aS aW aN aL aF aO aA aH aT aM (.ref aR) 0) (E1:Kg K aR aS aW aN aL aF aO aA aH aT aM (.ref aS) 1) (E4:Kg K aR aS aW aN aL aF aO aA aH aT aM (.ref aH) 4) (X0:Kx K aR) (X1:Kx K aS) (X4:Kx K aH)
    (C__law_asked:db P w K mg base "_law_asked" 14 ["way","row","signs","holds"] (tE aR aS aH T)) (C__law_word:Cal P w K mg base "_law_word" 1 ["caught"] (tj K aR aS aW aN aL aF aO aA aH aT aM)):FnOk P w K mg base CX0 15 f fd ["way","row","signs","holds"] (pQ T):=by
  refine F.ok dk (fun vs H Q E h=>?_) (fun cdv A outer s H vs Q E hr h=>?_)
  · obtain ⟨k,d,v,e,u,h,x,rfl,_⟩:=h;rfl
  obtain ⟨k,d,v,e,u,h,x,rfl,k0,k4,hd,he,hh,pd,pe,ph,hsm,hT,q⟩:=h;refine ⟨_,(@ag _ _ _ _ _ (@aD _ _ (4) _ _ _ _ (dk).nd rfl (Or.inl rfl) cw (by rfl) (by first|exact .inl rfl|exact .inr rfl|assumption)) (@ag _ _ _ _ _ (@aD _ _ (5) _ _ _ _ (dk).nd rfl (Or.inl rfl) (@am _ _ _ _ _ _ _ _ _ (@gU _ hr.gd hr.units) rfl B.irepr abK (@aa _ _ _ _ _ (@au _ _ _ _ (@aa _ _ _ _ _ (pv 1) (@aa _ _ _ _ _ (pv 2) (@aa _ _ _ _ _ (pv 3) ac (by rfl)) (by rfl)) (by rfl))) ac (by rfl)) (by decide) (by decide) (by rfl) (by rfl)) (by rfl) (by first|exact .inl rfl|exact .inr rfl|assumption)) (@ag _ _ _ _ _ (@wS _ _ _ _ (6) _ _ _ _ _ _ _ _ rfl rfl rfl rfl XC.mPutError (dk).nd rfl rfl (fun _ _=>(ai (cT (vx C__law_asked rfl hr (by lia) rfl (aa (pv 0) (aa (pv 1) (aa (pv 2) (aa (pv 3) ac)))))))) (fun _=>(ai (aD (i:=4) (dk).nd rfl (Or.inl rfl) (pv 6)))) (by decide)) (@ag _ _ _ _ _ (@bV _ _ _ _ _ _ _ _ (@aJ _ _ _ _ _ _ _ _ jv (@am _ _ _ _ _ _ _ _ _ (@gU _ hr.gd hr.units) rfl B.irepr abK (@aa _ _ _ _ _ (@au _ _ _ _ (@aa _ _ _ _ _ (pv 1) (@aa _ _ _ _ _ (pv 2) (@aa _ _ _ _ _ (pv 3) ac (by rfl)) (by rfl)) (by rfl))) ac (by rfl)) (by decide) (by decide) (by rfl) (by rfl)) (pv 5) (aX _)) (@ai _ _ _ (@az _ _ _ _ aG)) a6) (@ai _ _ _ (@az _ _ _ _ (@eM _ _ _ _ _ _ _ _ (@aJ _ _ _ _ _ _ _ _ xc (pv 4) cw (aX _)) aG (@al _ _ _ _ _ _ _ _ _ _ _ C__law_word hr (by lia) rfl (@aa _ _ _ _ _ (pv 4) ac (by rfl)) (by decide) (by rfl) (by rfl))))))))),?_⟩;obtain ⟨s1,s2,s3⟩:=pr3 pd pe ph;have DL:∀ {H':Hp} {p:Addr},Same (off T H) (off T H')→H' p=some (.lst [v,u,x])→Dat H' (.list [d,e,h]) (.ref p):=fun {H' p} S' e'=>by
    have S'':=S'.trans off_le;simp only [Dat,DatAll];exact ⟨p,_,rfl,e',_,_,rfl,Dat.mono S'' _ _ hd,_,_,rfl,Dat.mono S'' _ _ he,_,_,rfl,Dat.mono S'' _ _ hh,rfl⟩
  obtain ⟨kt,hkt⟩:∃ kt,(PyData.list [d,e,h]).shown=kt:=⟨_,rfl⟩
  refine ⟨_,rfl,_,rfl,_,rfl,(by show 3≤sizeLine;decide),fun p1 n1=>⟨_,_,rfl,DL (iL (Same.new n1 _)) ae,s1,s2,s3,?_⟩⟩;rw [hkt];have g0:=Same.new n1 (.lst [v,u,x]);generalize upd H p1 (.lst [v,u,x])=H0 at g0 ⊢;have hT0:=hT.mono g0;have VV:=iL (T:=T) g0;have hd0:=Dat.mono (VV.trans off_le) _ _ hd;have he0:=Dat.mono (VV.trans off_le) _ _ he;have hh0:=Dat.mono (VV.trans off_le) _ _ hh;have sm0:Sm1 H0 d v:=fun c r ns ev en=>by
    obtain ⟨r',ns',e1,e2,_⟩:=i_ c (Dat.mono off_le _ _ hd);have e3:=g0 _ _ e2;rw [ev] at e1;injection e1 with e1
    subst e1;rw [e3] at en;injection en with en
    injection en with en
    exact hsm c r ns ev (by rw [e2,en])
  refine ⟨_,rfl,_,rfl,_,rfl,_,rfl,k,d,v,e,u,h,x,rfl,k0,k4,hd0,he0,hh0,sm0,hT0,⟨fun c H1 g1 C hC=>?_,fun c c2 H1 g1 C hC=>?_,fun c c2 c3 H1 g1 C hC=>?_⟩,fun c c2 c3 y H1 b1 hT1=>?_⟩
  · cases hC;refine ⟨XC.uNoRow,fun ea ne=>?_⟩;refine ⟨_,rfl,?_⟩;have ee:upd H1 ea (dr ea aR) ea=some (dr ea aR):=ae;have g2:=g1.trans (Same.new ne (dr ea aR));generalize upd H1 ea (dr ea aR)=H2 at g2 ee ⊢;have V2:=VV.trans (iL (T:=T) g2);refine ⟨_,rfl,_,rfl,_,rfl,(by show 3≤sizeLine;decide),fun p2 n2=>⟨_,_,rfl,DL (V2.trans (iL (Same.new n2 _))) ae,s1,s2,s3,?_⟩⟩;rw [hkt];have g3:=Same.new n2 (.lst [v,u,x]);refine ⟨_,rfl,rfl,_,rfl,dQ (fun zz=>absurd zz (by simp)) (fun _=>?_)⟩;have G:=(g0.trans g2).trans g3;refine ⟨_,rfl,rfl,_,rfl,gJ (fun z=>nomatch z) ?_⟩;exact ⟨_,rfl,.ref ea,.ref aR,0,"NoRow",rfl,.inr ⟨ea,aR,rfl,g3 _ _ ee,X0.ex,rfl⟩,E0,by decide,X0.kv,rfl,fun H5 g5=>by rw [← (show fw d e h=("NoRow":Str) from oo c)];exact q H5 (But.of (G.trans g5)) (hT.mono (G.trans g5))⟩
  · cases hC;refine ⟨XC.uNoSigns,fun ea ne=>?_⟩;refine ⟨_,rfl,?_⟩;have ee:upd H1 ea (dr ea aS) ea=some (dr ea aS):=ae;have g2:=g1.trans (Same.new ne (dr ea aS));generalize upd H1 ea (dr ea aS)=H2 at g2 ee ⊢;have V2:=VV.trans (iL (T:=T) g2);refine ⟨_,rfl,_,rfl,_,rfl,(by show 3≤sizeLine;decide),fun p2 n2=>⟨_,_,rfl,DL (V2.trans (iL (Same.new n2 _))) ae,s1,s2,s3,?_⟩⟩;rw [hkt];have g3:=Same.new n2 (.lst [v,u,x]);refine ⟨_,rfl,rfl,_,rfl,dQ (fun zz=>absurd zz (by simp)) (fun _=>?_)⟩;have G:=(g0.trans g2).trans g3;refine ⟨_,rfl,rfl,_,rfl,gJ (fun z=>nomatch z) ?_⟩;exact ⟨_,rfl,.ref ea,.ref aS,1,"NoSigns",rfl,.inr ⟨ea,aS,rfl,g3 _ _ ee,X1.ex,rfl⟩,E1,by decide,X1.kv,rfl,fun H5 g5=>by rw [← (show fw d e h=("NoSigns":Str) from jU c c2)];exact q H5 (But.of (G.trans g5)) (hT.mono (G.trans g5))⟩
  · cases hC;refine ⟨XC.uNoHolds,fun ea ne=>?_⟩;refine ⟨_,rfl,?_⟩;have ee:upd H1 ea (dr ea aH) ea=some (dr ea aH):=ae;have g2:=g1.trans (Same.new ne (dr ea aH));generalize upd H1 ea (dr ea aH)=H2 at g2 ee ⊢;have V2:=VV.trans (iL (T:=T) g2);refine ⟨_,rfl,_,rfl,_,rfl,(by show 3≤sizeLine;decide),fun p2 n2=>⟨_,_,rfl,DL (V2.trans (iL (Same.new n2 _))) ae,s1,s2,s3,?_⟩⟩;rw [hkt];have g3:=Same.new n2 (.lst [v,u,x]);refine ⟨_,rfl,rfl,_,rfl,dQ (fun zz=>absurd zz (by simp)) (fun _=>?_)⟩;have G:=(g0.trans g2).trans g3;refine ⟨_,rfl,rfl,_,rfl,gJ (fun z=>nomatch z) ?_⟩;exact ⟨_,rfl,.ref ea,.ref aH,4,"NoHolds",rfl,.inr ⟨ea,aH,rfl,g3 _ _ ee,X4.ex,rfl⟩,E4,by decide,X4.kv,rfl,fun H5 g5=>by rw [← (show fw d e h=("NoHolds":Str) from jV c c2 c3)];exact q H5 (But.of (G.trans g5)) (hT.mono (G.trans g5))⟩
  · have V2:=VV.trans (oP b1);refine ⟨_,rfl,_,rfl,_,rfl,(by show 3≤sizeLine;decide),fun p2 n2=>⟨_,_,rfl,DL (V2.trans (iL (Same.new n2 _))) ae,s1,s2,s3,?_⟩⟩;rw [hkt];have g3:=Same.new n2 (.lst [v,u,x]);refine ⟨_,rfl,rfl,_,rfl,dQ (fun zz=>absurd zz (by simp)) (fun _=>?_)⟩;refine ⟨_,rfl,rfl,_,rfl,jz rfl ?_⟩;rw [← (show fw d e h=("told":Str) from i5 c c2 c3)];exact q _ ((But.of g0).trans (b1.trans (But.of g3))) (hT1.mono g3)
end
open PySem L2
theorem vn {A B:List PyData} {d:PyData} (h:bH d=false):tV (.list (A++[d]++B))=true:=by
  show (!(decide (1≤(A++[d]++B).length) && decide ((A++[d]++B).length≤9) && (A++[d]++B).all bH))=true;have : (A++[d]++B).all bH=false:=by
    rw [List.all_append,List.all_append];simp [h]
  rw [this];simp
def GsB (H:Hp) (u:V):Prop:=∃ d,Dat H d u∧OkD d∧szD d≤10∧d.depth≤3∧bH d=false
theorem LT.old {T:Addr} {H:Hp} (h:LT T H):∃ oT,H T=some oT:=by obtain ⟨tp,h⟩:=h;exact ⟨_,h.tab⟩
def pU (T:Addr):Sp:=fun vs H Q _=>∃ oT,vs=[]∧H T=some oT∧∀ p xs H',Same H H'→H p=none→H' p=some (.lst xs)→xs.length≤100→(∀ x∈xs,Gq yR (off T H') x)→Q (.ref p) H'
def pV (T:Addr):Sp:=fun vs H Q _=>∃ wl r ns M oT,vs=[.ref wl,.ref r]∧Wel H wl M∧M < 999990000∧H T=some oT∧T≠wl∧H r=some (.lst (ns.map V.int))∧r≠wl∧r≠T∧1≤ns.length∧ns.length≤9∧Small ns∧∀ p xs H',But wl H H'→H p=none→H' p=some (.lst xs)→xs.length≤100→(∀ x∈xs,Gq tV (off T H') x)→Q (.ref p) H'
theorem xh {H:Hp} {p:Addr} (n:H p=none) (o:HO):upd H p o p=some o:=ae
theorem x9:PrD (.dict [(.int 1,.int 2)]):=by unfold PrD;decide +kernel
theorem vJ {ds:List PyData} (h:ds.length=10):tV (.list ds)=true:=by
  show (!(decide (1≤ds.length) && decide (ds.length≤9) && ds.all bH))=true;rw [h];rfl
section
variable {P:Program} {w:World} {K:aaa} {mg:Str→Option Value} {base:Heap} {f:Addr} {fd:FuncData}
abbrev dN:Stmt:=top 61
theorem fv:FnScope ["some"] [] (aj dN):=⟨rfl,rfl,rfl,by decide +kernel,rfl,by decide +kernel,by decide +kernel⟩
theorem oD {T:Addr} (F:Fun K "_law_no_signs" "_law_no_signs" dN f fd):FnOk P w K mg base CX0 1 f fd [] (pU T):=by
  refine F.ok fv (fun vs H Q E h=>?_) (fun cdv A outer s H vs Q E hr h=>?_)
  · obtain ⟨oT,rfl,_⟩:=h;rfl
  obtain ⟨oT,rfl,eT,q⟩:=h;refine ⟨_,(@ag _ _ _ _ _ (@aD _ _ (0) _ _ _ _ (fv).nd rfl (Or.inl rfl) (@au _ _ _ _ (@aa _ _ _ _ _ cw (@aa _ _ _ _ _ af (@aa _ _ _ _ _ bS (@aa _ _ _ _ _ aG (@aa _ _ _ _ _ aG (@aa _ _ _ _ _ aG (@aa _ _ _ _ _ aG (@aa _ _ _ _ _ aG (@aa _ _ _ _ _ aG (@aa _ _ _ _ _ aG (@aa _ _ _ _ _ aG (@aa _ _ _ _ _ aG (@aa _ _ _ _ _ (@au _ _ _ _ (@aa _ _ _ _ _ aG ac (by rfl))) (@aa _ _ _ _ _ (@aB _ _ _ _ _ (@aa _ _ _ _ _ aG ac (by rfl))) (@aa _ _ _ _ _ (@au _ _ _ _ ac) (@aa _ _ _ _ _ dD ac (by rfl)) (by rfl)) (by rfl)) (by rfl)) (by rfl)) (by rfl)) (by rfl)) (by rfl)) (by rfl)) (by rfl)) (by rfl)) (by rfl)) (by rfl)) (by rfl)) (by rfl)) (by rfl))) (by rfl) (by first|exact .inl rfl|exact .inr rfl|assumption)) (@ai _ _ _ (@az _ _ _ _ (@aq _ _ _ _ _ _ _ _ bT (pv 0) (@au _ _ _ _ (@aa _ _ _ _ _ aG (@aa _ _ _ _ _ aG (@aa _ _ _ _ _ aG ac (by rfl)) (by rfl)) (by rfl))))))),?_⟩;refine ⟨(by show 1≤sizeLine;decide),fun p1 n1=>⟨(by show 1≤sizeLine;decide),fun p2 n2=>⟨(by show 0≤sizeLine;decide),fun p3 n3=>fun p4 n4=>⟨(by show 16≤sizeLine;decide),fun p5 n5=>?_⟩⟩⟩⟩;have k1:=Same.new n1 (.lst [.str "+"]);have k2:=Same.new n2 (.tup [.str "+"]);have k3:=Same.new n3 (.lst []);have k4:=Same.new n4 (.dK []);have k5:=Same.new n5 (.lst [.non,.int 0,.bl true,.str "",.str "-+",.str "*+",.str "++",.str "+-*+",.str "/",.str "+ ",.str "+/",.str "a",.ref p1,.ref p2,.ref p3,.ref p4]);have K2:=k1.trans k2;have K3:=K2.trans k3;have K4:=K3.trans k4;have K5:=K4.trans k5;refine ⟨_,rfl,(by show 3≤sizeLine;decide),fun p6 n6=>⟨p5,p6,_,_,rfl,rfl,(Same.new n6 _) _ _ ae,ae,(by show 19≤sizeLine;decide),fun p7 n7=>?_⟩⟩;have k6:=Same.new n6 (.lst [.str "*-",.str "+*-",.str "+ -"]);have k7:=Same.new n7 (.lst ([.non,.int 0,.bl true,.str "",.str "-+",.str "*+",.str "++",.str "+-*+",.str "/",.str "+ ",.str "+/",.str "a",.ref p1,.ref p2,.ref p3,.ref p4]++[.str "*-",.str "+*-",.str "+ -"]));have K6:=K5.trans k6;have K7:=K6.trans k7;have f1:=(a9 (eX eT (Same.refl _) n1)).trans (k7 _ _ (k6 _ _ (k5 _ _ (k4 _ _ (k3 _ _ (k2 _ _ (ae (a:=p1))))))));have f2:=(a9 (eX eT k1 n2)).trans (k7 _ _ (k6 _ _ (k5 _ _ (k4 _ _ (k3 _ _ (ae (a:=p2)))))));have f3:=(a9 (eX eT K2 n3)).trans (k7 _ _ (k6 _ _ (k5 _ _ (k4 _ _ (ae (a:=p3))))));have f4:=(a9 (eX eT K3 n4)).trans (k7 _ _ (k6 _ _ (k5 _ _ (ae (a:=p4)))));refine q p7 _ _ K7 (K6.free n7) ae (by show 19≤100;decide) (fun x hm=>?_);simp only [abf,abP,aao,aaM,or_false] at hm;rcases hm with rfl|rfl|rfl|rfl|rfl|rfl|rfl|rfl|rfl|rfl|rfl|rfl|rfl|rfl|rfl|rfl|rfl|rfl|rfl
  · exact qx rfl
  · exact qy _ (by decide) rfl
  · exact uE _ rfl
  · exact cW _ (by decide +kernel) (by decide +kernel)
  · exact cW _ (by decide +kernel) (by decide +kernel)
  · exact cW _ (by decide +kernel) (by decide +kernel)
  · exact cW _ (by decide +kernel) (by decide +kernel)
  · exact cW _ (by decide +kernel) (by decide +kernel)
  · exact cW _ (by decide +kernel) (by decide +kernel)
  · exact cW _ (by decide +kernel) (by decide +kernel)
  · exact cW _ (by decide +kernel) (by decide +kernel)
  · exact cW _ (by decide +kernel) (by decide +kernel)
  · exact dX f1 (wn "+") (by simp only [OkAll,OkD];decide +kernel) (by simp [szAll,szD]) (by simp [aaj,aag]) rfl
  · exact iu f2 (wn "+") (by simp only [OkAll,OkD];decide +kernel) (by simp [szAll,szD]) (by simp [aaj,aag]) rfl
  · exact dX f3 o8 (by simp only [OkAll]) (by simp [szAll]) (by simp [aag]) rfl
  · exact nB f4 rfl
  · exact cW _ (by decide +kernel) (by decide +kernel)
  · exact cW _ (by decide +kernel) (by decide +kernel)
  · exact cW _ (by decide +kernel) (by decide +kernel)
abbrev eF:Stmt:=top 60
theorem de:FnScope ["well","row","at","odd","some"] ["well","row"] (aj eF):=⟨rfl,rfl,rfl,by decide +kernel,rfl,by decide +kernel,by decide +kernel⟩
theorem qi {T:Addr} (F:Fun K "_law_no_rows" "_law_no_rows" eF f fd) (B:Bu K mg) (C__law_draw:Cal P w K mg base "_law_draw" 2 ["well","many"] fI):FnOk P w K mg base CX0 3 f fd ["well","row"] (pV T):=by
  refine F.ok de (fun vs H Q E h=>?_) (fun cdv A outer s H vs Q E hr h=>?_)
  · obtain ⟨wl,r,ns,M,oT,rfl,_⟩:=h;rfl
  obtain ⟨wl,r,ns,M,oT,rfl,hw,hM,eT,nTw,er,nrw,nrT,h1,h9,sm,q⟩:=h;refine ⟨_,(@ag _ _ _ _ _ (@aD _ _ (2) _ _ _ _ (de).nd rfl (Or.inr rfl) (@al _ _ _ _ _ _ _ _ _ _ _ C__law_draw hr (by lia) rfl (@aa _ _ _ _ _ (pv 0) (@aa _ _ _ _ _ (@am _ _ _ _ _ _ _ _ _ aK rfl B.ilen aaL (@aa _ _ _ _ _ (pv 1) ac (by rfl)) (by decide) (by decide) (by rfl) (by rfl)) ac (by rfl)) (by rfl)) (by decide) (by rfl) (by rfl)) (by rfl) (by first|exact .inl rfl|exact .inr rfl|assumption)) (@ag _ _ _ _ _ (@aD _ _ (3) _ _ _ _ (de).nd rfl (Or.inl rfl) (@au _ _ _ _ (@aa _ _ _ _ _ cw (@aa _ _ _ _ _ bS (@aa _ _ _ _ _ bS (@aa _ _ _ _ _ aG (@aa _ _ _ _ _ (@au _ _ _ _ (@aa _ _ _ _ _ af ac (by rfl))) (@aa _ _ _ _ _ (@aB _ _ _ _ _ (@aa _ _ _ _ _ af ac (by rfl))) (@aa _ _ _ _ _ dD (@aa _ _ _ _ _ aG (@aa _ _ _ _ _ (@aB _ _ _ _ _ (@aa _ _ _ _ _ aG (@aa _ _ _ _ _ af (@aa _ _ _ _ _ af ac (by rfl)) (by rfl)) (by rfl))) (@aa _ _ _ _ _ aG ac (by rfl)) (by rfl)) (by rfl)) (by rfl)) (by rfl)) (by rfl)) (by rfl)) (by rfl)) (by rfl)) (by rfl))) (by rfl) (by first|exact .inl rfl|exact .inr rfl|assumption)) (@ag _ _ _ _ _ (@aD _ _ (4) _ _ _ _ (de).nd rfl (Or.inl rfl) (@au _ _ _ _ (@aa _ _ _ _ _ cw (@aa _ _ _ _ _ af (@aa _ _ _ _ _ bS (@aa _ _ _ _ _ aG (@aa _ _ _ _ _ aG (@aa _ _ _ _ _ (@aB _ _ _ _ _ ac) (@aa _ _ _ _ _ (@au _ _ _ _ ac) (@aa _ _ _ _ _ dD (@aa _ _ _ _ _ (@fB _ _ _ _ _ _ _ _ _ fo rfl B.ituple abv (@aa _ _ _ _ _ (pv 1) ac (by rfl)) (by decide) (by decide) (by rfl) (by rfl)) (@aa _ _ _ _ _ (@au _ _ _ _ (@aa _ _ _ _ _ (pv 1) ac (by rfl))) (@aa _ _ _ _ _ (@aq _ _ _ _ _ _ _ _ je (@au _ _ _ _ (@aa _ _ _ _ _ af ac (by rfl))) af) (@aa _ _ _ _ _ (@vw _ _ _ _ _ (@tM _ _ _ _ _ _ _ _ _ af af vq) rfl rfl (by simp) (by decide)) ac (by rfl)) (by rfl)) (by rfl)) (by rfl)) (by rfl)) (by rfl)) (by rfl)) (by rfl)) (by rfl)) (by rfl)) (by rfl)) (by rfl))) (by rfl) (by first|exact .inl rfl|exact .inr rfl|assumption)) (@ag _ _ _ _ _ (@cT _ _ _ _ (@ju _ _ _ _ _ _ _ _ _ _ _ _ aa3 abi abj dZ (pv 4) (@aa _ _ _ _ _ (@aq _ _ _ _ _ _ _ _ bT (pv 1) (@aq _ _ _ _ _ _ _ _ je (@au _ _ _ _ (@aa _ _ _ _ _ af ac (by rfl))) (@aq _ _ _ _ _ _ _ _ bX af (@am _ _ _ _ _ _ _ _ _ aK rfl B.ilen aaL (@aa _ _ _ _ _ (pv 1) ac (by rfl)) (by decide) (by decide) (by rfl) (by rfl))))) ac (by rfl)) (by rfl) (by rfl) (by rfl) (by rfl) (by rfl)) (by rfl)) (@ai _ _ _ (@az _ _ _ _ (@aq _ _ _ _ _ _ _ _ bT (pv 4) (@fA _ _ _ _ _ _ _ _ (["thing","row","at"]) ([none,some 1,some 2]) _ _ _ _ rfl (@bu _ _ _ _ (pv 3)) rfl ⟨rfl,⟨rfl,trivial⟩⟩ ⟨⟨rfl,Or.inl rfl,Or.inl rfl⟩,⟨⟨rfl,Or.inl rfl,Or.inl rfl⟩,trivial⟩⟩ (fun _ _ _ _=>⟨(@ao _ _ (0) _ (show aaP (["thing","row","at"]:List Str) by decide +kernel) rfl (Or.inl rfl) (.inr rfl)),bZ,(@aq _ _ _ _ _ _ _ _ bT (@aq _ _ _ _ _ _ _ _ bT (@cZ _ _ _ _ _ _ _ _ _ _ (@nY _ _ rfl) (pv 1) dv (@du _ _ _ (pv 2))) (@au _ _ _ _ (@aa _ _ _ _ _ (pv 0) ac (by rfl)))) (@cZ _ _ _ _ _ _ _ _ _ _ (@nY _ _ rfl) (pv 1) (@du _ _ _ (@aq _ _ _ _ _ _ _ _ cy (pv 2) af)) dv))⟩) (by rfl) (by rfl) (by rfl) (by rfl) (by intro _;rfl))))))))),?_⟩;have hl:(ns.map V.int).length=ns.length:=aak _;have t1:(1:Nat)≤sizeLine:=by decide
  refine ⟨_,rfl,_,rfl,r,_,rfl,.inl (SqL.of er),wl,((ns.map V.int).length:Nat),M,rfl,by lia,by rw [hl];lia,hw,by lia,fun at' H1 a1 b1 g1 hw1=>?_⟩;rw [hl] at b1;have er1:=g1 _ _ nrw er;have eT1:=g1 _ _ nTw eT;have K_H1:=Same.refl H1;refine ⟨t1,fun p1 n_p1=>?_⟩;have k_p1:=Same.new n_p1 (.lst [.int 1]);have e_p1:upd H1 p1 (.lst [.int 1]) p1=some (.lst [.int 1]):=ae;generalize upd H1 p1 (.lst [.int 1])=h_p1 at k_p1 e_p1 ⊢;have z_p1:p1≠T:=eX eT1 K_H1 n_p1;have K_h_p1:=K_H1.trans k_p1;refine ⟨t1,fun p2 n_p2=>?_⟩;have k_p2:=Same.new n_p2 (.tup [.int 1]);have e_p2:upd h_p1 p2 (.tup [.int 1]) p2=some (.tup [.int 1]):=ae;generalize upd h_p1 p2 (.tup [.int 1])=h_p2 at k_p2 e_p2 ⊢;have z_p2:p2≠T:=eX eT1 K_h_p1 n_p2;have K_h_p2:=K_h_p1.trans k_p2;refine fun p3 n_p3=>?_;have k_p3:=Same.new n_p3 (.dK []);have e_p3:upd h_p2 p3 (.dK []) p3=some (.dK []):=ae;generalize upd h_p2 p3 (.dK [])=h_p3 at k_p3 e_p3 ⊢;have z_p3:p3≠T:=eX eT1 K_h_p2 n_p3;have K_h_p3:=K_h_p2.trans k_p3;refine ⟨(by show 3≤sizeLine;decide),fun p4 n_p4=>?_⟩;have k_p4:=Same.new n_p4 (.tup [.str "+",.int 1,.int 2]);have e_p4:upd h_p3 p4 (.tup [.str "+",.int 1,.int 2]) p4=some (.tup [.str "+",.int 1,.int 2]):=ae;generalize upd h_p3 p4 (.tup [.str "+",.int 1,.int 2])=h_p4 at k_p4 e_p4 ⊢;have z_p4:p4≠T:=eX eT1 K_h_p3 n_p4;have K_h_p4:=K_h_p3.trans k_p4;refine ⟨(by show 10≤sizeLine;decide),fun p5 n_p5=>?_⟩;have k_p5:=Same.new n_p5 (.lst [.non,.bl true,.bl false,.str "1",.ref p1,.ref p2,.ref p3,.str "",.ref p4,.str "a"]);have e_p5:upd h_p4 p5 (.lst [.non,.bl true,.bl false,.str "1",.ref p1,.ref p2,.ref p3,.str "",.ref p4,.str "a"]) p5=some (.lst [.non,.bl true,.bl false,.str "1",.ref p1,.ref p2,.ref p3,.str "",.ref p4,.str "a"]):=ae;generalize upd h_p4 p5 (.lst [.non,.bl true,.bl false,.str "1",.ref p1,.ref p2,.ref p3,.str "",.ref p4,.str "a"])=h_p5 at k_p5 e_p5 ⊢;have z_p5:p5≠T:=eX eT1 K_h_p4 n_p5;have K_h_p5:=K_h_p4.trans k_p5;refine ⟨(by show 0≤sizeLine;decide),fun q1 n_q1=>?_⟩;have k_q1:=Same.new n_q1 (.tup []);have e_q1:upd h_p5 q1 (.tup []) q1=some (.tup []):=ae;generalize upd h_p5 q1 (.tup [])=h_q1 at k_q1 e_q1 ⊢;have z_q1:q1≠T:=eX eT1 K_h_p5 n_q1;have K_h_q1:=K_h_p5.trans k_q1;refine ⟨(by show 0≤sizeLine;decide),fun q2 n_q2=>?_⟩;have k_q2:=Same.new n_q2 (.lst []);have e_q2:upd h_q1 q2 (.lst []) q2=some (.lst []):=ae;generalize upd h_q1 q2 (.lst [])=h_q2 at k_q2 e_q2 ⊢;have z_q2:q2≠T:=eX eT1 K_h_q1 n_q2;have K_h_q2:=K_h_q1.trans k_q2;refine fun q3 n_q3=>?_;have k_q3:=Same.new n_q3 (.dK []);have e_q3:upd h_q2 q3 (.dK []) q3=some (.dK []):=ae;generalize upd h_q2 q3 (.dK [])=h_q3 at k_q3 e_q3 ⊢;have z_q3:q3≠T:=eX eT1 K_h_q2 n_q3;have K_h_q3:=K_h_q2.trans k_q3;refine ⟨_,rfl,r,_,rfl,.inl ⟨SqL.of (K_h_q3 _ _ er1),fun q4 n_q4=>?_⟩⟩;have k_q4:=Same.new n_q4 (.tup (ns.map V.int));have e_q4:upd h_q3 q4 (.tup (ns.map V.int)) q4=some (.tup (ns.map V.int)):=ae;generalize upd h_q3 q4 (.tup (ns.map V.int))=h_q4 at k_q4 e_q4 ⊢;have z_q4:q4≠T:=eX eT1 K_h_q3 n_q4;have K_h_q4:=K_h_q3.trans k_q4;refine ⟨_,rfl,t1,fun q5 n_q5=>?_⟩;have k_q5:=Same.new n_q5 (.lst [.ref r]);have e_q5:upd h_q4 q5 (.lst [.ref r]) q5=some (.lst [.ref r]):=ae;generalize upd h_q4 q5 (.lst [.ref r])=h_q5 at k_q5 e_q5 ⊢;have z_q5:q5≠T:=eX eT1 K_h_q4 n_q5;have K_h_q5:=K_h_q4.trans k_q5;refine ⟨t1,fun q6 n_q6=>?_⟩;have k_q6:=Same.new n_q6 (.lst [.int 1]);have e_q6:upd h_q5 q6 (.lst [.int 1]) q6=some (.lst [.int 1]):=ae;generalize upd h_q5 q6 (.lst [.int 1])=h_q6 at k_q6 e_q6 ⊢;have z_q6:q6≠T:=eX eT1 K_h_q5 n_q6;have K_h_q6:=K_h_q5.trans k_q6;refine ⟨q6,10,_,rfl,rfl,e_q6,by decide,by decide,(by decide),fun q7 n_q7=>?_⟩;have k_q7:=Same.new n_q7 (.lst (aaf (10:Int).toNat [V.int 1]).flatten);have e_q7:upd h_q6 q7 (.lst (aaf (10:Int).toNat [V.int 1]).flatten) q7=some (.lst (aaf (10:Int).toNat [V.int 1]).flatten):=ae;generalize upd h_q6 q7 (.lst (aaf (10:Int).toNat [V.int 1]).flatten)=h_q7 at k_q7 e_q7 ⊢;have z_q7:q7≠T:=eX eT1 K_h_q6 n_q7;have K_h_q7:=K_h_q6.trans k_q7;refine fun q8 n_q8=>⟨ae,[(.inl 1,.int 2)],rfl,(by show 1≤15;decide),?_⟩
  have em:ji [] [((.inl 1:Key),V.int 2)]=[(.inl 1,.int 2)]:=rfl;rw [em];have k_q8:Same h_q7 (upd (upd h_q7 q8 (.dK [])) q8 (.dK [(.inl 1,.int 2)])):=(Same.new n_q8 _).upd n_q8;have e_q8:upd (upd h_q7 q8 (.dK [])) q8 (.dK [(.inl 1,.int 2)]) q8=some (.dK [(.inl 1,.int 2)]):=ae;generalize upd (upd h_q7 q8 (.dK [])) q8 (.dK [(.inl 1,.int 2)])=h_q8 at k_q8 e_q8 ⊢;have z_q8:q8≠T:=eX eT1 K_h_q7 n_q8;have K_h_q8:=K_h_q7.trans k_q8;refine ⟨(by show 12≤sizeLine;decide),fun q9 n_q9=>?_⟩;have k_q9:=Same.new n_q9 (.lst [.non,.int 0,.bl true,.str "",.str "1 2",.ref q1,.ref q2,.ref q3,.ref q4,.ref q5,.ref q7,.ref q8]);have e_q9:upd h_q8 q9 (.lst [.non,.int 0,.bl true,.str "",.str "1 2",.ref q1,.ref q2,.ref q3,.ref q4,.ref q5,.ref q7,.ref q8]) q9=some (.lst [.non,.int 0,.bl true,.str "",.str "1 2",.ref q1,.ref q2,.ref q3,.ref q4,.ref q5,.ref q7,.ref q8]):=ae;generalize upd h_q8 q9 (.lst [.non,.int 0,.bl true,.str "",.str "1 2",.ref q1,.ref q2,.ref q3,.ref q4,.ref q5,.ref q7,.ref q8])=h_q9 at k_q9 e_q9 ⊢;have z_q9:q9≠T:=eX eT1 K_h_q8 n_q9;have K_h_q9:=K_h_q8.trans k_q9;refine ⟨_,rfl,.inl ⟨rfl,_,SqL.of e_q9⟩,_,rfl,t1,fun s1 n_s1=>?_⟩;have k_s1:=Same.new n_s1 (.lst [.int 1]);have e_s1:upd h_q9 s1 (.lst [.int 1]) s1=some (.lst [.int 1]):=ae;generalize upd h_q9 s1 (.lst [.int 1])=h_s1 at k_s1 e_s1 ⊢;have z_s1:s1≠T:=eX eT1 K_h_q9 n_s1;have K_h_s1:=K_h_q9.trans k_s1;refine ⟨_,rfl,r,_,rfl,.inl (SqL.of (K_h_s1 _ _ er1)),_,_,rfl,rfl,s1,_,_,rfl,rfl,e_s1,by rw [hl];lia,by rw [hl];lia,bj (by simp only [aaF,aa7];lia),fun s2 n_s2=>?_⟩;rw [hl];have k_s2:=Same.new n_s2 (.lst (aaf (10 - (ns.length:Int)).toNat [V.int 1]).flatten);have e_s2:upd h_s1 s2 (.lst (aaf (10 - (ns.length:Int)).toNat [V.int 1]).flatten) s2=some (.lst (aaf (10 - (ns.length:Int)).toNat [V.int 1]).flatten):=ae;generalize upd h_s1 s2 (.lst (aaf (10 - (ns.length:Int)).toNat [V.int 1]).flatten)=h_s2 at k_s2 e_s2 ⊢;have z_s2:s2≠T:=eX eT1 K_h_s1 n_s2;have K_h_s2:=K_h_s1.trans k_s2;refine ⟨r,s2,_,_,rfl,rfl,K_h_s2 _ _ er1,e_s2,bj (by rw [hl,qY];simp only [aaF,aa7];lia),fun s3 n_s3=>?_⟩;have k_s3:=Same.new n_s3 (.lst (ns.map V.int++(aaf (10 - (ns.length:Int)).toNat [V.int 1]).flatten));have e_s3:upd h_s2 s3 (.lst (ns.map V.int++(aaf (10 - (ns.length:Int)).toNat [V.int 1]).flatten)) s3=some (.lst (ns.map V.int++(aaf (10 - (ns.length:Int)).toNat [V.int 1]).flatten)):=ae;generalize upd h_s2 s3 (.lst (ns.map V.int++(aaf (10 - (ns.length:Int)).toNat [V.int 1]).flatten))=h_s3 at k_s3 e_s3 ⊢;have z_s3:s3≠T:=eX eT1 K_h_s2 n_s3;have K_h_s3:=K_h_s2.trans k_s3;have e9:=k_s3 _ _ (k_s2 _ _ (k_s1 _ _ (e_q9)));refine ⟨q9,_,_,rfl,rfl,e9,(by show 12 < sizeLine;decide),?_⟩;have w_p1:p1≠q9:=ak (k_q8 _ _ (k_q7 _ _ (k_q6 _ _ (k_q5 _ _ (k_q4 _ _ (k_q3 _ _ (k_q2 _ _ (k_q1 _ _ (k_p5 _ _ (k_p4 _ _ (k_p3 _ _ (k_p2 _ _ (e_p1))))))))))))) n_q9;have f_p1:upd h_s3 q9 (.lst ([.non,.int 0,.bl true,.str "",.str "1 2",.ref q1,.ref q2,.ref q3,.ref q4,.ref q5,.ref q7,.ref q8]++[.ref s3])) p1=some (.lst [.int 1]):=by rw [aw w_p1];exact k_s3 _ _ (k_s2 _ _ (k_s1 _ _ (k_q9 _ _ (k_q8 _ _ (k_q7 _ _ (k_q6 _ _ (k_q5 _ _ (k_q4 _ _ (k_q3 _ _ (k_q2 _ _ (k_q1 _ _ (k_p5 _ _ (k_p4 _ _ (k_p3 _ _ (k_p2 _ _ (e_p1))))))))))))))))
  have w_p2:p2≠q9:=ak (k_q8 _ _ (k_q7 _ _ (k_q6 _ _ (k_q5 _ _ (k_q4 _ _ (k_q3 _ _ (k_q2 _ _ (k_q1 _ _ (k_p5 _ _ (k_p4 _ _ (k_p3 _ _ (e_p2)))))))))))) n_q9;have f_p2:upd h_s3 q9 (.lst ([.non,.int 0,.bl true,.str "",.str "1 2",.ref q1,.ref q2,.ref q3,.ref q4,.ref q5,.ref q7,.ref q8]++[.ref s3])) p2=some (.tup [.int 1]):=by rw [aw w_p2];exact k_s3 _ _ (k_s2 _ _ (k_s1 _ _ (k_q9 _ _ (k_q8 _ _ (k_q7 _ _ (k_q6 _ _ (k_q5 _ _ (k_q4 _ _ (k_q3 _ _ (k_q2 _ _ (k_q1 _ _ (k_p5 _ _ (k_p4 _ _ (k_p3 _ _ (e_p2)))))))))))))))
  have w_p3:p3≠q9:=ak (k_q8 _ _ (k_q7 _ _ (k_q6 _ _ (k_q5 _ _ (k_q4 _ _ (k_q3 _ _ (k_q2 _ _ (k_q1 _ _ (k_p5 _ _ (k_p4 _ _ (e_p3))))))))))) n_q9;have f_p3:upd h_s3 q9 (.lst ([.non,.int 0,.bl true,.str "",.str "1 2",.ref q1,.ref q2,.ref q3,.ref q4,.ref q5,.ref q7,.ref q8]++[.ref s3])) p3=some (.dK []):=by rw [aw w_p3];exact k_s3 _ _ (k_s2 _ _ (k_s1 _ _ (k_q9 _ _ (k_q8 _ _ (k_q7 _ _ (k_q6 _ _ (k_q5 _ _ (k_q4 _ _ (k_q3 _ _ (k_q2 _ _ (k_q1 _ _ (k_p5 _ _ (k_p4 _ _ (e_p3))))))))))))))
  have w_p4:p4≠q9:=ak (k_q8 _ _ (k_q7 _ _ (k_q6 _ _ (k_q5 _ _ (k_q4 _ _ (k_q3 _ _ (k_q2 _ _ (k_q1 _ _ (k_p5 _ _ (e_p4)))))))))) n_q9;have f_p4:upd h_s3 q9 (.lst ([.non,.int 0,.bl true,.str "",.str "1 2",.ref q1,.ref q2,.ref q3,.ref q4,.ref q5,.ref q7,.ref q8]++[.ref s3])) p4=some (.tup [.str "+",.int 1,.int 2]):=by rw [aw w_p4];exact k_s3 _ _ (k_s2 _ _ (k_s1 _ _ (k_q9 _ _ (k_q8 _ _ (k_q7 _ _ (k_q6 _ _ (k_q5 _ _ (k_q4 _ _ (k_q3 _ _ (k_q2 _ _ (k_q1 _ _ (k_p5 _ _ (e_p4)))))))))))))
  have w_q1:q1≠q9:=ak (k_q8 _ _ (k_q7 _ _ (k_q6 _ _ (k_q5 _ _ (k_q4 _ _ (k_q3 _ _ (k_q2 _ _ (e_q1)))))))) n_q9;have f_q1:upd h_s3 q9 (.lst ([.non,.int 0,.bl true,.str "",.str "1 2",.ref q1,.ref q2,.ref q3,.ref q4,.ref q5,.ref q7,.ref q8]++[.ref s3])) q1=some (.tup []):=by rw [aw w_q1];exact k_s3 _ _ (k_s2 _ _ (k_s1 _ _ (k_q9 _ _ (k_q8 _ _ (k_q7 _ _ (k_q6 _ _ (k_q5 _ _ (k_q4 _ _ (k_q3 _ _ (k_q2 _ _ (e_q1)))))))))))
  have w_q2:q2≠q9:=ak (k_q8 _ _ (k_q7 _ _ (k_q6 _ _ (k_q5 _ _ (k_q4 _ _ (k_q3 _ _ (e_q2))))))) n_q9;have f_q2:upd h_s3 q9 (.lst ([.non,.int 0,.bl true,.str "",.str "1 2",.ref q1,.ref q2,.ref q3,.ref q4,.ref q5,.ref q7,.ref q8]++[.ref s3])) q2=some (.lst []):=by rw [aw w_q2];exact k_s3 _ _ (k_s2 _ _ (k_s1 _ _ (k_q9 _ _ (k_q8 _ _ (k_q7 _ _ (k_q6 _ _ (k_q5 _ _ (k_q4 _ _ (k_q3 _ _ (e_q2))))))))))
  have w_q3:q3≠q9:=ak (k_q8 _ _ (k_q7 _ _ (k_q6 _ _ (k_q5 _ _ (k_q4 _ _ (e_q3)))))) n_q9;have f_q3:upd h_s3 q9 (.lst ([.non,.int 0,.bl true,.str "",.str "1 2",.ref q1,.ref q2,.ref q3,.ref q4,.ref q5,.ref q7,.ref q8]++[.ref s3])) q3=some (.dK []):=by rw [aw w_q3];exact k_s3 _ _ (k_s2 _ _ (k_s1 _ _ (k_q9 _ _ (k_q8 _ _ (k_q7 _ _ (k_q6 _ _ (k_q5 _ _ (k_q4 _ _ (e_q3)))))))))
  have w_q4:q4≠q9:=ak (k_q8 _ _ (k_q7 _ _ (k_q6 _ _ (k_q5 _ _ (e_q4))))) n_q9;have f_q4:upd h_s3 q9 (.lst ([.non,.int 0,.bl true,.str "",.str "1 2",.ref q1,.ref q2,.ref q3,.ref q4,.ref q5,.ref q7,.ref q8]++[.ref s3])) q4=some (.tup (ns.map V.int)):=by rw [aw w_q4];exact k_s3 _ _ (k_s2 _ _ (k_s1 _ _ (k_q9 _ _ (k_q8 _ _ (k_q7 _ _ (k_q6 _ _ (k_q5 _ _ (e_q4))))))))
  have w_q5:q5≠q9:=ak (k_q8 _ _ (k_q7 _ _ (k_q6 _ _ (e_q5)))) n_q9;have f_q5:upd h_s3 q9 (.lst ([.non,.int 0,.bl true,.str "",.str "1 2",.ref q1,.ref q2,.ref q3,.ref q4,.ref q5,.ref q7,.ref q8]++[.ref s3])) q5=some (.lst [.ref r]):=by rw [aw w_q5];exact k_s3 _ _ (k_s2 _ _ (k_s1 _ _ (k_q9 _ _ (k_q8 _ _ (k_q7 _ _ (k_q6 _ _ (e_q5)))))))
  have w_q7:q7≠q9:=ak (k_q8 _ _ (e_q7)) n_q9;have f_q7:upd h_s3 q9 (.lst ([.non,.int 0,.bl true,.str "",.str "1 2",.ref q1,.ref q2,.ref q3,.ref q4,.ref q5,.ref q7,.ref q8]++[.ref s3])) q7=some (.lst (aaf (10:Int).toNat [V.int 1]).flatten):=by rw [aw w_q7];exact k_s3 _ _ (k_s2 _ _ (k_s1 _ _ (k_q9 _ _ (k_q8 _ _ (e_q7)))))
  have w_q8:q8≠q9:=ak (e_q8) n_q9;have f_q8:upd h_s3 q9 (.lst ([.non,.int 0,.bl true,.str "",.str "1 2",.ref q1,.ref q2,.ref q3,.ref q4,.ref q5,.ref q7,.ref q8]++[.ref s3])) q8=some (.dK [(.inl 1,.int 2)]):=by rw [aw w_q8];exact k_s3 _ _ (k_s2 _ _ (k_s1 _ _ (k_q9 _ _ (e_q8))))
  have w_s3:s3≠q9:=abC (ak (k_s2 _ _ (k_s1 _ _ (e_q9))) n_s3);have f_s3:upd h_s3 q9 (.lst ([.non,.int 0,.bl true,.str "",.str "1 2",.ref q1,.ref q2,.ref q3,.ref q4,.ref q5,.ref q7,.ref q8]++[.ref s3])) s3=some (.lst (ns.map V.int++(aaf (10 - (ns.length:Int)).toNat [V.int 1]).flatten)):=by rw [aw w_s3];exact e_s3
  have w_p5:p5≠q9:=ak (k_q8 _ _ (k_q7 _ _ (k_q6 _ _ (k_q5 _ _ (k_q4 _ _ (k_q3 _ _ (k_q2 _ _ (k_q1 _ _ (e_p5))))))))) n_q9;have f_p5:upd h_s3 q9 (.lst ([.non,.int 0,.bl true,.str "",.str "1 2",.ref q1,.ref q2,.ref q3,.ref q4,.ref q5,.ref q7,.ref q8]++[.ref s3])) p5=some (.lst [.non,.bl true,.bl false,.str "1",.ref p1,.ref p2,.ref p3,.str "",.ref p4,.str "a"]):=by rw [aw w_p5];exact k_s3 _ _ (k_s2 _ _ (k_s1 _ _ (k_q9 _ _ (k_q8 _ _ (k_q7 _ _ (k_q6 _ _ (k_q5 _ _ (k_q4 _ _ (k_q3 _ _ (k_q2 _ _ (k_q1 _ _ (e_p5))))))))))))
  have wr:r≠q9:=ak (K_h_q8 _ _ er1) n_q9;have fr:upd h_s3 q9 (.lst ([.non,.int 0,.bl true,.str "",.str "1 2",.ref q1,.ref q2,.ref q3,.ref q4,.ref q5,.ref q7,.ref q8]++[.ref s3])) r=some (.lst (ns.map V.int)):=by rw [aw wr];exact K_h_s3 _ _ er1
  have f9:upd h_s3 q9 (.lst ([.non,.int 0,.bl true,.str "",.str "1 2",.ref q1,.ref q2,.ref q3,.ref q4,.ref q5,.ref q7,.ref q8]++[.ref s3])) q9=some (.lst ([.non,.int 0,.bl true,.str "",.str "1 2",.ref q1,.ref q2,.ref q3,.ref q4,.ref q5,.ref q7,.ref q8]++[.ref s3])):=ae;have nq9:H1 q9=none:=K_h_q8.free n_q9;have S1:Same H1 (upd h_s3 q9 (.lst ([.non,.int 0,.bl true,.str "",.str "1 2",.ref q1,.ref q2,.ref q3,.ref q4,.ref q5,.ref q7,.ref q8]++[.ref s3]))):=K_h_s3.upd nq9;generalize upd h_s3 q9 (.lst ([.non,.int 0,.bl true,.str "",.str "1 2",.ref q1,.ref q2,.ref q3,.ref q4,.ref q5,.ref q7,.ref q8]++[.ref s3]))=G at f_p1 f_p2 f_p3 f_p4 f_q1 f_q2 f_q3 f_q4 f_q5 f_q7 f_q8 f_s3 f_p5 fr f9 S1 ⊢;clear k_p1 e_p1 K_h_p1 k_p2 e_p2 K_h_p2 k_p3 e_p3 K_h_p3 k_p4 e_p4 K_h_p4 k_p5 e_p5 K_h_p5 k_q1 e_q1 K_h_q1 k_q2 e_q2 K_h_q2 k_q3 e_q3 K_h_q3 k_q4 e_q4 K_h_q4 k_q5 e_q5 K_h_q5 k_q6 e_q6 K_h_q6 k_q7 e_q7 K_h_q7 k_q8 e_q8 K_h_q8 k_q9 e_q9 K_h_q9 k_s1 e_s1 K_h_s1 k_s2 e_s2 K_h_s2 k_s3 e_s3 K_h_s3 e9;have f_p1:=(a9 z_p1).trans f_p1;have f_p2:=(a9 z_p2).trans f_p2;have f_p3:=(a9 z_p3).trans f_p3;have f_p4:=(a9 z_p4).trans f_p4;have f_q1:=(a9 z_q1).trans f_q1;have f_q2:=(a9 z_q2).trans f_q2;have f_q3:=(a9 z_q3).trans f_q3;have f_q4:=(a9 z_q4).trans f_q4;have f_q5:=(a9 z_q5).trans f_q5;have f_q7:=(a9 z_q7).trans f_q7;have f_q8:=(a9 z_q8).trans f_q8;have f_s3:=(a9 z_s3).trans f_s3;have fr':=(a9 (w:=T) nrT).trans fr;have l9:∀ a b,(fm (ns.map V.int) a b).length≤9:=fun a b=>by
    have:=List.length_take_le' (HT.sIx (ns.map V.int).length (ns.map V.int).length b - HT.sIx (ns.map V.int).length 0 a) ((ns.map V.int).drop (HT.sIx (ns.map V.int).length 0 a));unfold fm;rw [aba] at this;lia
  obtain ⟨j,rfl⟩:=ab2 a1;have hj:j < ns.length:=by lia
  have gs:∀ x∈([.non,.bl true,.bl false,.str "1",.ref p1,.ref p2,.ref p3,.str "",.ref p4,.str "a"]:List V),GsB (off T G) x:=fun x hm=>by
    simp only [aao,aaM,or_false] at hm;rcases hm with rfl|rfl|rfl|rfl|rfl|rfl|rfl|rfl|rfl|rfl
    · exact ⟨.none,by simp only [Dat],by simp only [OkD],by simp [szD],by simp [aaj],rfl⟩
    · exact ⟨.bool true,by simp only [Dat],by simp only [OkD],by simp [szD],by simp [aaj],rfl⟩
    · exact ⟨.bool false,by simp only [Dat],by simp only [OkD],by simp [szD],by simp [aaj],rfl⟩
    · exact ⟨.str "1",by simp only [Dat],by simp only [OkD];decide +kernel,by simp [szD],by simp [aaj],rfl⟩
    · exact ⟨.list [.int 1],by simp only [Dat];exact ⟨p1,_,rfl,f_p1,wo 1⟩,by simp only [OkD,OkAll];decide,by simp [szD,szAll],by simp [aaj,aag],rfl⟩
    · exact ⟨.tuple [.int 1],by simp only [Dat];exact ⟨p2,_,rfl,f_p2,wo 1⟩,by simp only [OkD,OkAll];decide,by simp [szD,szAll],by simp [aaj,aag],rfl⟩
    · exact ⟨.dict [],by simp only [Dat,DatKv];exact ⟨p3,_,rfl,f_p3,rfl⟩,by simp only [OkD],by simp [szD],by simp [aaj,PyData.depthKv],rfl⟩
    · exact ⟨.str "",by simp only [Dat],by simp only [OkD];decide +kernel,by simp [szD],by simp [aaj],rfl⟩
    · exact ⟨.tuple [.str "+",.int 1,.int 2],by simp only [Dat,DatAll];exact ⟨p4,_,rfl,f_p4,_,_,rfl,rfl,_,_,rfl,rfl,_,_,rfl,rfl,rfl⟩,by simp only [OkD,OkAll];decide +kernel,by simp [szD,szAll],by simp [aaj,aag],rfl⟩
    · exact ⟨.str "a",by simp only [Dat],by simp only [OkD];decide +kernel,by simp [szD],by simp [aaj],rfl⟩
  have some13:∀ x∈([.non,.int 0,.bl true,.str "",.str "1 2",.ref q1,.ref q2,.ref q3,.ref q4,.ref q5,.ref q7,.ref q8]++[.ref s3]:List V),Gq tV (off T G) x:=fun x hm=>by
    simp only [abf,abP,aao,aaM,or_false] at hm;rcases hm with rfl|rfl|rfl|rfl|rfl|rfl|rfl|rfl|rfl|rfl|rfl|rfl|rfl
    · exact qx rfl
    · exact qy _ (by decide) rfl
    · exact uE _ rfl
    · exact cW _ (by decide +kernel) rfl
    · exact cW _ (by decide +kernel) rfl
    · exact iu f_q1 o8 (by simp only [OkAll]) (by simp [szAll]) (by simp [aag]) rfl
    · exact dX f_q2 o8 (by simp only [OkAll]) (by simp [szAll]) (by simp [aag]) rfl
    · exact nB f_q3 rfl
    · exact iu f_q4 (cc ns) (cq sm) (by rw [cM];lia) (by rw [cO];lia) rfl
    · exact dX (ds:=[.list (ns.map PyData.int)]) f_q5 (by simp only [DatAll,Dat];exact ⟨_,_,rfl,⟨r,_,rfl,fr',cc ns⟩,rfl⟩) (by simp only [OkAll,OkD];exact ⟨cq sm,trivial⟩) (by simp only [szAll,szD,cM];lia) (by simp only [aag,aaj,cO];lia) rfl
    · exact dX (ds:=(aaf 10 (1:Int)).map PyData.int) f_q7 (cc (aaf 10 1)) (cq (fun i hi=>by have:=abY hi;lia)) (by decide) (by decide) rfl
    · exact ⟨.dict [(.int 1,.int 2)],by simp only [Dat,DatKv];exact ⟨q8,_,rfl,f_q8,_,_,_,rfl,rfl,rfl,rfl⟩,x9,rfl⟩
    · have el:ns.map V.int++(aaf (10 - (ns.length:Int)).toNat [V.int 1]).flatten=(ns++aaf (10 - (ns.length:Int)).toNat 1).map V.int:=by
        rw [aaK,List.map_replicate];congr 1;generalize (10 - (ns.length:Int)).toNat=k
        induction k with
        | zero=>rfl
        | succ k ih=>rw [aa9,aa9,abF,ih];rfl
      rw [el] at f_s3;have lz:(ns++aaf (10 - (ns.length:Int)).toNat (1:Int)).length=10:=by rw [aal,abO];lia
      have sm':Small (ns++aaf (10 - (ns.length:Int)).toNat (1:Int)):=fun i hi=>by
        rcases aap.mp hi with z|z
        · exact sm i z
        · have:=abY z;lia
      exact dX f_s3 (cc _) (cq sm') (by rw [cM,lz];decide) (by rw [cO];lia) (vJ (by rw [aak,lz]))
  refine ⟨_,rfl,_,rfl,p5,rfl,⟨_,SqL.of f_p5⟩,eV (Trn.list (xs:=[.non,.bl true,.bl false,.str "1",.ref p1,.ref p2,.ref p3,.str "",.ref p4,.str "a"])) (fun i ys H'=>Same G H'∧ys.length=i∧∀ y∈ys,Gq tV (off T H') y) ⟨Same.refl _,rfl,fun _ z=>nomatch z⟩ (fun i ys H' hi z=>⟨SqL.of (z.1 _ _ f_p5),aU (by rw [z.2.1];have : i≤10:=hi;lia)⟩) (fun i x ys H0' H' hi hx z Nx nx=>?_) (fun ys H2 z pL nL=>?_)⟩
  · obtain ⟨rfl,hx⟩:=hx;obtain ⟨S,ly,gy⟩:=z;obtain ⟨d0,d1,d2,d3,d4,d5⟩:=gs x (aax hx);have erS:=S _ _ fr;refine ⟨_,rfl,_,rfl,j,rfl,r,_,rfl,SqL.of erS,fun c1 m1=>⟨_,rfl,t1,fun c2 m2=>⟨c1,c2,_,_,rfl,rfl,(Same.new m2 _) _ _ ae,ae,bj (by have:=l9 none (some (j:Int));simp only [aaF,aa7];lia),fun c3 m3=>?_⟩⟩⟩;have k1:=Same.new m1 (.lst (fm (ns.map V.int) none (some (j:Int))));have k2:=Same.new m2 (.lst [x]);have k3:=Same.new m3 (.lst (fm (ns.map V.int) none (some (j:Int))++[x]));have K3:=(k1.trans k2).trans k3;refine ⟨_,rfl,_,rfl,_,_,rfl,rfl,(j:Int)+1,rfl,r,_,rfl,SqL.of (K3 _ _ erS),fun c4 m4=>⟨c3,c4,_,_,rfl,rfl,(Same.new m4 _) _ _ ae,ae,bj (by have:=l9 none (some (j:Int));have:=l9 (some ((j:Int)+1)) none;simp only [aal,aaF,aa7];lia),fun c5 m5=>?_⟩⟩;have k4:=Same.new m4 (.lst (fm (ns.map V.int) (some ((j:Int)+1)) none));have k5:=Same.new m5 (.lst (fm (ns.map V.int) none (some (j:Int))++[x]++fm (ns.map V.int) (some ((j:Int)+1)) none));have K5:=(K3.trans k4).trans k5;have z5:c5≠T:=eX eT1 (S1.trans (S.trans (K3.trans k4))) m5;have f5:=(a9 (w:=T) z5).trans (xh m5 (.lst (fm (ns.map V.int) none (some (j:Int))++[x]++fm (ns.map V.int) (some ((j:Int)+1)) none)));rw [fF _ j (by rw [hl];lia),show (j:Int)+1=((j+1:Nat):Int) from rfl,d_ _ (j+1) (by rw [hl];lia),← aco,← acn] at f5;refine nx _ _ ⟨S.trans K5,by rw [aal,ly];rfl,fun y hy=>?_⟩;rcases aap.mp hy with hy|hy
    · exact (gy y hy).mono (iL K5)
    · rw [aam.mp hy];have h1':=Dat.mono (iL (T:=T) (S.trans K5)) d0 x d1;rw [fF _ j (by rw [hl];lia),show (j:Int)+1=((j+1:Nat):Int) from rfl,d_ _ (j+1) (by rw [hl];lia),← aco,← acn] at h1';rw [fF _ j (by rw [hl];lia),show (j:Int)+1=((j+1:Nat):Int) from rfl,d_ _ (j+1) (by rw [hl];lia),← aco,← acn];refine dX (ds:=(ns.take j).map PyData.int++[d0]++(ns.drop (j+1)).map PyData.int) f5 (((cc _).app (by simp only [DatAll];exact ⟨_,_,rfl,h1',rfl⟩)).app (cc _)) (kz (kz (cq (sm.take j)) (by simp only [OkAll];exact ⟨d2,trivial⟩)) (cq (sm.drop (j+1)))) ?_ ?_ (vn d5)
      · rw [mH,mH,cM,cM,aaz,aba];simp only [szAll];lia
      · rw [nF,nF,cO,cO];simp only [aag];lia
  · obtain ⟨S,ly,gy⟩:=z;have kL:=Same.new nL (.lst ys);have SL:=S.trans kL;have ly10:ys.length=10:=ly;refine ⟨q9,pL,_,_,rfl,rfl,kL _ _ (S _ _ f9),ae,bj (by rw [ly10];show 13+10≤1000;decide),fun pR nR=>?_⟩;have kR:=Same.new nR (.lst (([.non,.int 0,.bl true,.str "",.str "1 2",.ref q1,.ref q2,.ref q3,.ref q4,.ref q5,.ref q7,.ref q8]++[.ref s3])++ys));refine q pR _ _ (g1.trans (But.of ((S1.trans SL).trans kR))) (But.free g1 hw1 ((S1.trans SL).free nR)) ae (by rw [aal,ly10];show 13+10≤100;decide) (fun x hx=>?_);rcases aap.mp hx with hx|hx
    · exact (some13 x hx).mono (iL (SL.trans kR))
    · exact (gy x hx).mono (iL (kL.trans kR))
end
open PySem L2
def pD (p:Int × Int):PyData:=.tuple [.int p.1,.int p.2]
theorem PairIn.dat {H:Hp} {p:Int × Int} {v:V} (h:PairIn H p v):Dat H (pD p) v:=by
  obtain ⟨a,rfl,ha⟩:=h;simp only [pD,Dat,DatAll];exact ⟨a,_,rfl,ha,_,_,rfl,rfl,_,_,rfl,rfl,rfl⟩
theorem PairsIn.dat {H:Hp} {ps:List (Int × Int)} {us:List V} (h:PairsIn H ps us):DatAll H (ps.map pD) us:=by
  induction h with
  | nil=>simp only [abh,DatAll]
  | cons a _ ih=>simp only [aaH,DatAll];exact ⟨_,_,rfl,PairIn.dat a,ih⟩
def sD (ps:List (Int × Int)):PyData:=.list (ps.map pD)
theorem StIn.dat {H:Hp} {ps:List (Int × Int)} {v:V} (h:StIn H ps v):Dat H (sD ps) v:=by
  obtain ⟨a,us,rfl,e,hp⟩:=h;simp only [sD,Dat];exact ⟨a,us,rfl,e,PairsIn.dat hp⟩
def pHd (m:Int) (d:PyData):Bool:=!bW m d
theorem fY {w z:Addr} {H:Hp}:Same (cz w z H) H:=fun c o h=>by
  unfold cz off at h;by_cases c1:c=z
  · rw [if_pos c1] at h;cases h
  · rw [if_neg c1] at h;by_cases c2:c=w
    · rw [if_pos c2] at h;cases h
    · rw [if_neg c2] at h;exact h
theorem oQ {w z:Addr} {H:Hp}:Same (cz w z H) (off z H):=fun c o h=>by
  unfold cz off at h;unfold off;by_cases c1:c=z
  · rw [if_pos c1] at h;cases h
  · rw [if_neg c1] at h ⊢;by_cases c2:c=w
    · rw [if_pos c2] at h;cases h
    · rw [if_neg c2] at h;exact h
theorem di {w z:Addr} {H H':Hp} (g:Same H H'):Same (cz w z H) (cz w z H'):=dl (But.of g)
theorem iM {w z c:Addr} {H:Hp} {o:HO} (h:cz w z H c=some o):c≠w∧c≠z:=by
  constructor <;> intro e <;> subst e <;> unfold cz off at h
  · by_cases c1:c=z
    · rw [if_pos c1] at h;cases h
    · rw [if_neg c1,if_pos rfl] at h;cases h
  · rw [if_pos rfl] at h;cases h
theorem bq {i:Int} (h1:-100≤i) (h2:i≤100):i.natAbs < 10 ^ 40:=abA (show i.natAbs≤100 by lia) (by decide)
theorem cG {m:Int} (h:m≤9):bh m (.tuple [.int 0,.int (10 ^ (29:Int).toNat)])=false:=by
  have z:(9:Int) < 10 ^ (29:Int).toNat:=by decide +kernel
  exact decide_eq_false (fun e=>by have:=e.2.2;lia)
structure Al (wl T:Addr) (H0 H:Hp) (L:List (Addr × HO)):Prop where
  same:Same H0 H
  well:∃ o,H0 wl=some o
  tab:∃ o,H0 T=some o
  has:∀ x∈L,cz wl T H x.1=some x.2
theorem Al.new {wl T:Addr} {H0 H:Hp} {L:List (Addr × HO)} (A:Al wl T H0 H L) {p:Addr} (n:H p=none) (o:HO):Al wl T H0 (upd H p o) ((p,o) :: L) :=
  ⟨A.same.trans (Same.new n o),A.well,A.tab,fun x hx=>by
    rcases aao.mp hx with rfl|hx
    · obtain ⟨_,e1⟩:=A.well;obtain ⟨_,e2⟩:=A.tab;exact (dw (abC (ak (A.same _ _ e1) n)) (abC (ak (A.same _ _ e2) n))).trans ae
    · exact di (Same.new n _) _ _ (A.has x hx)⟩
theorem Al.at {wl T:Addr} {H0 H:Hp} {L:List (Addr × HO)} (A:Al wl T H0 H L) (i:Nat) {x:Addr × HO} (h:L[i]?=some x):cz wl T H x.1=some x.2:=A.has x (aax h)
theorem Al.up {wl T:Addr} {H0 H:Hp} {L:List (Addr × HO)} (A:Al wl T H0 H L) (i:Nat) {x:Addr × HO} (h:L[i]?=some x):H x.1=some x.2:=fY _ _ (A.at i h)
def pW (T:Addr):Sp:=fun vs H Q _=>∃ wl mm v ps qs M oT,vs=[.ref wl,.int mm,v]∧1≤mm∧mm≤9∧HdIn (cz wl T H) ps qs v∧Gs mm ps∧Gs mm qs∧Wel H wl M∧M < 999900000∧H T=some oT∧T≠wl∧∀ p xs H',But wl H H'→Wel H' wl (M+100)→H p=none→H' p=some (.lst xs)→xs.length≤200→(∀ x∈xs,Gq (pHd mm) (off T H') x)→Q (.ref p) H'
theorem wd {m:Int}:cb m (.list (aaf 41 (.tuple [.int 0,.int 1])))=false:=by
  show (decide ((aaf 41 (PyData.tuple [.int 0,.int 1])).length≤40) && (aaf 41 (PyData.tuple [.int 0,.int 1])).all (bh m))=false;rw [abO];rfl
def Ts (n:Int) (H:Hp) (v:V):Prop:=∃ d,Dat H d v∧OkD d∧szD d≤10∧d.depth≤3∧bh n d=false
theorem Ts.mono {H H':Hp} {v:V} (g:Same H H') {n:Int} (h:Ts n H v):Ts n H' v:=by obtain ⟨d,a,b⟩:=h;exact ⟨d,Dat.mono g d v a,b⟩
theorem qC {H:Hp}:∀ {ds:List PyData} {vs:List V} {es:List PyData} {us:List V},DatAll H ds vs→DatAll H es us→DatAll H (ds++es) (vs++us)
  | [],vs,es,us,h,k=>by simp only [DatAll] at h;subst h;exact k
  | d :: ds,vs,es,us,h,k=>by
    simp only [DatAll] at h;obtain ⟨v,r,rfl,h1,h2⟩:=h;simp only [abf,DatAll];exact ⟨v,_,rfl,h1,qC h2 k⟩
theorem rG {H:Hp}:∀ {ps:List (Int × Int)} {us:List V} (n:Nat),DatAll H (ps.map pD) us→DatAll H ((ps.take n).map pD) (us.take n)
  | [],us,n,h=>by simp only [abh,DatAll] at h;subst h;simp only [List.take_nil,abh,DatAll]
  | p :: ps,us,0,h=>by simp only [List.take_zero,abh,DatAll]
  | p :: ps,us,n+1,h=>by
    simp only [aaH,DatAll] at h;obtain ⟨v,r,rfl,h1,h2⟩:=h;simp only [abV,aaH,DatAll];exact ⟨v,_,rfl,h1,rG n h2⟩
theorem rH {H:Hp}:∀ {ps:List (Int × Int)} {us:List V} (n:Nat),DatAll H (ps.map pD) us→DatAll H ((ps.drop n).map pD) (us.drop n)
  | [],us,n,h=>by simp only [abh,DatAll] at h;subst h;simp only [List.drop_nil,abh,DatAll]
  | p :: ps,us,0,h=>h
  | p :: ps,us,n+1,h=>by
    simp only [aaH,DatAll] at h;obtain ⟨v,r,rfl,h1,h2⟩:=h;simp only [List.drop_succ_cons];exact rH n h2
theorem Gs.take {m:Int} {ps:List (Int × Int)} (h:Gs m ps) (n:Nat):Gs m (ps.take n):=⟨by rw [aaz];have:=h.1;lia,fun p hp=>h.2 p (abD hp)⟩
theorem Gs.drop {m:Int} {ps:List (Int × Int)} (h:Gs m ps) (n:Nat):Gs m (ps.drop n):=⟨by rw [aba];have:=h.1;lia,fun p hp=>h.2 p (List.mem_of_mem_drop hp)⟩
theorem kg {m:Int} (m9:m≤9):∀ {ps:List (Int × Int)},(∀ p∈ps,Gp m p)→OkAll (ps.map pD)
  | [],_=>by simp only [abh,OkAll]
  | p :: ps,h=>by
    obtain ⟨h1,h2,h3⟩:=h p aav;simp only [aaH,OkAll,pD,OkD];exact ⟨⟨bq (by lia) (by lia),bq (by lia) (by lia),trivial⟩,kg m9 fun q hq=>h q (aai _ hq)⟩
theorem jQ:∀ ps:List (Int × Int),szAll (ps.map pD)=3 * ps.length
  | []=>rfl
  | p :: ps=>by simp only [aaH,szAll,pD,szD,jQ ps,aaF];lia
theorem kW:∀ ps:List (Int × Int),aag (ps.map pD)≤1
  | []=>by simp [aag]
  | p :: ps=>by
    have:=kW ps;simp only [aaH,aag,pD,aaj];lia
def Ld (H:Hp) (d:PyData) (v:V):Prop:=Dat H d v∧OkD d∧szD d≤200∧d.depth≤10
theorem qZ {H:Hp} {ps:List (Int × Int)} {v:V} {m:Int} (h:StIn H ps v) (g:Gs m ps) (m9:m≤9):Ld H (sD ps) v:=by
  have z1:=jQ ps;have z2:=kW ps;have g1:=g.1;refine ⟨h.dat,?_,?_,?_⟩
  · simp only [sD,OkD];exact kg m9 g.2
  · simp only [sD,szD];lia
  · simp only [sD,aaj];lia
theorem ut {H:Hp} {ps:List (Int × Int)} {us:List V} {c:Addr} {x:V} {d:PyData} {n:Nat} (e:H c=some (.lst (us.take n++[x]++us.drop n))) (hp:DatAll H (ps.map pD) us) {m:Int} (g:Gs m ps) (m9:m≤9) (h1:Dat H d x) (h2:OkD d) (h3:szD d≤10) (h4:d.depth≤3):Ld H (.list ((ps.take n).map pD++[d]++(ps.drop n).map pD)) (.ref c):=by
  have g1:=g.1;have a1:=jQ (ps.take n);have a2:=jQ (ps.drop n);have b1:=kW (ps.take n);have b2:=kW (ps.drop n);rw [aaz] at a1;rw [aba] at a2;refine ⟨?_,?_,?_,?_⟩
  · simp only [Dat];exact ⟨c,_,rfl,e,qC (qC (rG n hp) (by simp only [DatAll];exact ⟨_,_,rfl,h1,rfl⟩)) (rH n hp)⟩
  · simp only [OkD];exact kz (kz (kg m9 (g.take n).2) (by simp only [OkAll];exact ⟨h2,trivial⟩)) (kg m9 (g.drop n).2)
  · simp only [szD,mH,szAll];lia
  · simp only [aaj,nF,aag];lia
theorem um {A B:List PyData} {m:Int} {d:PyData} (h:bh m d=false):cb m (.list (A++[d]++B))=false:=by
  show (decide (_≤40) && (A++[d]++B).all (bh m))=false;rw [List.all_append,List.all_append];simp [h]
theorem vP {m:Int} {a b:PyData} (h:cb m a=false):pHd m (.tuple [a,b])=true:=by
  show (!(cb m a && cb m b))=true;rw [h];rfl
theorem vN {m:Int} {a b:PyData} (h:cb m b=false):pHd m (.tuple [a,b])=true:=by
  show (!(cb m a && cb m b))=true;rw [h,Bool.and_false];rfl
theorem fk {H:Hp} {c:Addr} {x y:V} {a b:PyData} (e:H c=some (.tup [x,y])) (hx:Ld H a x) (hy:Ld H b y) {m:Int} (h:pHd m (.tuple [a,b])=true):Gq (pHd m) H (.ref c) :=
  iu (ds:=[a,b]) e (by simp only [DatAll];exact ⟨_,_,rfl,hx.1,_,_,rfl,hy.1,rfl⟩) (by simp only [OkAll];exact ⟨hx.2.1,hy.2.1,trivial⟩) (by simp only [szAll];have:=hx.2.2.1;have:=hy.2.2.1;lia) (by simp only [aag];have:=hx.2.2.2;have:=hy.2.2.2;lia) h
theorem qp {H:Hp} {c:Addr} (e:H c=some (.lst [])):Ld H (.list []) (.ref c):=⟨by simp only [Dat,DatAll];exact ⟨c,_,rfl,e,rfl⟩,by simp only [OkD,OkAll],by simp [szD,szAll],by simp [aaj,aag]⟩
theorem q_ {H:Hp} {c:Addr} (e:H c=some (.dK [])):Ld H (.dict []) (.ref c):=⟨by simp only [Dat,DatKv];exact ⟨c,_,rfl,e,rfl⟩,by simp only [OkD],by simp [szD],by simp [aaj,PyData.depthKv]⟩
theorem uq {H:Hp}:Ld H (.str "") (.str ""):=⟨by simp only [Dat],by simp only [OkD];decide +kernel,by simp [szD],by simp [aaj]⟩
theorem uu {H:Hp}:Ld H .none .non:=⟨by simp only [Dat],by simp only [OkD],by simp [szD],by simp [aaj]⟩
theorem uo {H:Hp} {c:Addr} {ps:List (Int × Int)} {us:List V} (e:H c=some (.tup us)) (hp:DatAll H (ps.map pD) us) {m:Int} (g:Gs m ps) (m9:m≤9):Ld H (.tuple (ps.map pD)) (.ref c):=by
  have z1:=jQ ps;have z2:=kW ps;have g1:=g.1;refine ⟨?_,?_,?_,?_⟩
  · simp only [Dat];exact ⟨c,_,rfl,e,hp⟩
  · simp only [OkD];exact kg m9 g.2
  · simp only [szD];lia
  · simp only [aaj];lia
theorem nG {H:Hp} {d:PyData} {v:V} (h:Dat H d v):∀ n,DatAll H (aaf n d) (aaf n [v]).flatten
  | 0=>by simp only [List.replicate_zero,List.flatten_nil,DatAll]
  | n+1=>by simp only [aa9,abF,DatAll];exact ⟨v,_,rfl,h,nG h n⟩
theorem tX {d:PyData} (h:OkD d):∀ n,OkAll (aaf n d)
  | 0=>by simp only [List.replicate_zero,OkAll]
  | n+1=>by simp only [aa9,OkAll];exact ⟨h,tX h n⟩
theorem wj {H:Hp} {c b:Addr} (e:H c=some (.lst (aaf (41:Int).toNat [V.ref b]).flatten)) (e2:H b=some (.tup [.int 0,.int 1])):Ld H (.list (aaf 41 (.tuple [.int 0,.int 1]))) (.ref c):=by
  refine ⟨?_,?_,by decide +kernel,by decide +kernel⟩
  · simp only [Dat];exact ⟨c,_,rfl,e,nG (by simp only [Dat,DatAll];exact ⟨b,_,rfl,e2,_,_,rfl,rfl,_,_,rfl,rfl,rfl⟩) 41⟩
  · simp only [OkD];exact tX (by simp only [OkD,OkAll];decide) 41
section
variable {P:Program} {w:World} {K:aaa} {mg:Str→Option Value} {base:Heap} {f:Addr} {fd:FuncData}
abbrev dO:Stmt:=top 66
theorem aI:FnScope ["well","many","holds","held","barred","one","odd","found","thing","at","to","some"] ["well","many","holds"] (aj dO):=⟨rfl,rfl,rfl,by decide +kernel,rfl,by decide +kernel,by decide +kernel⟩
theorem oF {T:Addr} (F:Fun K "_law_no_holds" "_law_no_holds" dO f fd) (B:Bu K mg) (C__law_draw:Cal P w K mg base "_law_draw" 2 ["well","many"] fI):FnOk P w K mg base CX0 3 f fd ["well","many","holds"] (pW T):=by
  refine F.ok aI (fun vs H Q E h=>?_) (fun cdv A outer s H vs Q E hr h=>?_)
  · obtain ⟨wl,mm,v,ps,qs,M,oT,rfl,_⟩:=h;rfl
  obtain ⟨wl,mm,v,ps,qs,M,oT,rfl,m1,m9,hv0,gp,gq,hw,hM,eT,nwT,q⟩:=h;refine ⟨_,(@ag _ _ _ _ _ (@fj _ _ _ _ _ _ (pv 2) (@eK _ _ _ _ _ _ rfl (@aQ _ _ _ _ _ (@ao _ _ (3) _ (aI).nd rfl (Or.inl rfl) (.inl rfl)) (@aQ _ _ _ _ _ (@ao _ _ (4) _ (aI).nd rfl (Or.inl rfl) (.inl rfl)) cu (by rfl)) (by rfl)) (by rfl) (by rfl)) (by rfl) (by rfl) (by rfl)) (@ag _ _ _ _ _ (@aD _ _ (5) _ _ _ _ (aI).nd rfl (Or.inl rfl) (@al _ _ _ _ _ _ _ _ _ _ _ C__law_draw hr (by lia) rfl (@aa _ _ _ _ _ (pv 0) (@aa _ _ _ _ _ (pv 1) ac (by rfl)) (by rfl)) (by decide) (by rfl) (by rfl)) (by rfl) (by first|exact .inl rfl|exact .inr rfl|assumption)) (@ag _ _ _ _ _ (@aD _ _ (6) _ _ _ _ (aI).nd rfl (Or.inl rfl) (@au _ _ _ _ (@aa _ _ _ _ _ (@aB _ _ _ _ _ (@aa _ _ _ _ _ (pv 5) (@aa _ _ _ _ _ (pv 5) ac (by rfl)) (by rfl))) (@aa _ _ _ _ _ (@aB _ _ _ _ _ (@aa _ _ _ _ _ (pv 5) (@aa _ _ _ _ _ (pv 1) ac (by rfl)) (by rfl))) (@aa _ _ _ _ _ (@aB _ _ _ _ _ (@aa _ _ _ _ _ (@ox _ _ _ _ _ _ jP af) (@aa _ _ _ _ _ (pv 5) ac (by rfl)) (by rfl))) (@aa _ _ _ _ _ (@aB _ _ _ _ _ (@aa _ _ _ _ _ (pv 5) (@aa _ _ _ _ _ (@aq _ _ _ _ _ _ _ _ bX (pv 5) af) ac (by rfl)) (by rfl))) (@aa _ _ _ _ _ (@aB _ _ _ _ _ (@aa _ _ _ _ _ af (@aa _ _ _ _ _ (pv 1) ac (by rfl)) (by rfl))) (@aa _ _ _ _ _ (@aB _ _ _ _ _ (@aa _ _ _ _ _ bS (@aa _ _ _ _ _ (@aq _ _ _ _ _ _ _ _ cy (pv 1) af) ac (by rfl)) (by rfl))) (@aa _ _ _ _ _ (@aB _ _ _ _ _ (@aa _ _ _ _ _ (pv 5) ac (by rfl))) (@aa _ _ _ _ _ (@aB _ _ _ _ _ (@aa _ _ _ _ _ af (@aa _ _ _ _ _ (pv 5) (@aa _ _ _ _ _ (pv 5) ac (by rfl)) (by rfl)) (by rfl))) (@aa _ _ _ _ _ cw ac (by rfl)) (by rfl)) (by rfl)) (by rfl)) (by rfl)) (by rfl)) (by rfl)) (by rfl)) (by rfl))) (by rfl) (by first|exact .inl rfl|exact .inr rfl|assumption)) (@ag _ _ _ _ _ (@aD _ _ (6) _ _ _ _ (aI).nd rfl (Or.inl rfl) (@aq _ _ _ _ _ _ _ _ bT (pv 6) (@au _ _ _ _ (@aa _ _ _ _ _ (@au _ _ _ _ (@aa _ _ _ _ _ af (@aa _ _ _ _ _ af ac (by rfl)) (by rfl))) (@aa _ _ _ _ _ aG (@aa _ _ _ _ _ af (@aa _ _ _ _ _ (@aB _ _ _ _ _ (@aa _ _ _ _ _ cw (@aa _ _ _ _ _ af ac (by rfl)) (by rfl))) (@aa _ _ _ _ _ (@aB _ _ _ _ _ (@aa _ _ _ _ _ af (@aa _ _ _ _ _ aG ac (by rfl)) (by rfl))) (@aa _ _ _ _ _ (@aB _ _ _ _ _ (@aa _ _ _ _ _ af (@aa _ _ _ _ _ cw ac (by rfl)) (by rfl))) (@aa _ _ _ _ _ (@aB _ _ _ _ _ (@aa _ _ _ _ _ aG (@aa _ _ _ _ _ af ac (by rfl)) (by rfl))) (@aa _ _ _ _ _ (@aB _ _ _ _ _ (@aa _ _ _ _ _ af (@aa _ _ _ _ _ (@aq _ _ _ _ _ _ _ _ eQ af af) ac (by rfl)) (by rfl))) (@aa _ _ _ _ _ dD (@aa _ _ _ _ _ (@aB _ _ _ _ _ (@aa _ _ _ _ _ bS (@aa _ _ _ _ _ bS ac (by rfl)) (by rfl))) (@aa _ _ _ _ _ (@aB _ _ _ _ _ ac) ac (by rfl)) (by rfl)) (by rfl)) (by rfl)) (by rfl)) (by rfl)) (by rfl)) (by rfl)) (by rfl)) (by rfl)) (by rfl)))) (by rfl) (by first|exact .inl rfl|exact .inr rfl|assumption)) (@ag _ _ _ _ _ (@aD _ _ (6) _ _ _ _ (aI).nd rfl (Or.inl rfl) (@aq _ _ _ _ _ _ _ _ bT (pv 6) (@au _ _ _ _ (@aa _ _ _ _ _ (@aB _ _ _ _ _ (@aa _ _ _ _ _ af (@aa _ _ _ _ _ bS ac (by rfl)) (by rfl))) (@aa _ _ _ _ _ (@aB _ _ _ _ _ (@aa _ _ _ _ _ bS (@aa _ _ _ _ _ af ac (by rfl)) (by rfl))) ac (by rfl)) (by rfl)))) (by rfl) (by first|exact .inl rfl|exact .inr rfl|assumption)) (@ag _ _ _ _ _ (@aD _ _ (7) _ _ _ _ (aI).nd rfl (Or.inl rfl) (@au _ _ _ _ ac) (by rfl) (by first|exact .inl rfl|exact .inr rfl|assumption)) (@ag _ _ _ _ _ (@dg _ _ _ _ _ _ _ _ aaS rfl (@bu _ _ _ _ (pv 6)) (@ao _ _ (8) _ (aI).nd rfl (Or.inl rfl) (.inl rfl)) (@ag _ _ _ _ _ (@aD _ _ (9) _ _ _ _ (aI).nd rfl (Or.inl rfl) (@al _ _ _ _ _ _ _ _ _ _ _ C__law_draw hr (by lia) rfl (@aa _ _ _ _ _ (pv 0) (@aa _ _ _ _ _ (@aq _ _ _ _ _ _ _ _ cy (@am _ _ _ _ _ _ _ _ _ aK rfl B.ilen aaL (@aa _ _ _ _ _ (pv 3) ac (by rfl)) (by decide) (by decide) (by rfl) (by rfl)) af) ac (by rfl)) (by rfl)) (by decide) (by rfl) (by rfl)) (by rfl) (by first|exact .inl rfl|exact .inr rfl|assumption)) (@ag _ _ _ _ _ (@aD _ _ (10) _ _ _ _ (aI).nd rfl (Or.inl rfl) (@al _ _ _ _ _ _ _ _ _ _ _ C__law_draw hr (by lia) rfl (@aa _ _ _ _ _ (pv 0) (@aa _ _ _ _ _ (@aq _ _ _ _ _ _ _ _ cy (@am _ _ _ _ _ _ _ _ _ aK rfl B.ilen aaL (@aa _ _ _ _ _ (pv 4) ac (by rfl)) (by decide) (by decide) (by rfl) (by rfl)) af) ac (by rfl)) (by rfl)) (by decide) (by rfl) (by rfl)) (by rfl) (by first|exact .inl rfl|exact .inr rfl|assumption)) (@ai _ _ _ (@aD _ _ (7) _ _ _ _ (aI).nd rfl (Or.inl rfl) (@aq _ _ _ _ _ _ _ _ bT (pv 7) (@au _ _ _ _ (@aa _ _ _ _ _ (@aB _ _ _ _ _ (@aa _ _ _ _ _ (@aq _ _ _ _ _ _ _ _ bT (@aq _ _ _ _ _ _ _ _ bT (@cZ _ _ _ _ _ _ _ _ _ _ dS (pv 3) dv (@du _ _ _ (pv 9))) (@au _ _ _ _ (@aa _ _ _ _ _ (pv 8) ac (by rfl)))) (@cZ _ _ _ _ _ _ _ _ _ _ dS (pv 3) (@du _ _ _ (pv 9)) dv)) (@aa _ _ _ _ _ (pv 4) ac (by rfl)) (by rfl))) (@aa _ _ _ _ _ (@aB _ _ _ _ _ (@aa _ _ _ _ _ (pv 3) (@aa _ _ _ _ _ (@aq _ _ _ _ _ _ _ _ bT (@aq _ _ _ _ _ _ _ _ bT (@cZ _ _ _ _ _ _ _ _ _ _ dS (pv 4) dv (@du _ _ _ (pv 10))) (@au _ _ _ _ (@aa _ _ _ _ _ (pv 8) ac (by rfl)))) (@cZ _ _ _ _ _ _ _ _ _ _ dS (pv 4) (@du _ _ _ (pv 10)) dv)) ac (by rfl)) (by rfl))) ac (by rfl)) (by rfl)))) (by rfl) (by first|exact .inl rfl|exact .inr rfl|assumption))))) (by intro _;rfl)) (@ag _ _ _ _ _ (@aD _ _ (11) _ _ _ _ (aI).nd rfl (Or.inl rfl) (@au _ _ _ _ (@aa _ _ _ _ _ cw (@aa _ _ _ _ _ af (@aa _ _ _ _ _ bS (@aa _ _ _ _ _ aG (@aa _ _ _ _ _ aG (@aa _ _ _ _ _ (@au _ _ _ _ ac) (@aa _ _ _ _ _ (@aB _ _ _ _ _ ac) (@aa _ _ _ _ _ dD (@aa _ _ _ _ _ (@aB _ _ _ _ _ (@aa _ _ _ _ _ (pv 3) ac (by rfl))) (@aa _ _ _ _ _ (@aB _ _ _ _ _ (@aa _ _ _ _ _ (pv 3) (@aa _ _ _ _ _ (pv 4) (@aa _ _ _ _ _ (@au _ _ _ _ ac) ac (by rfl)) (by rfl)) (by rfl))) (@aa _ _ _ _ _ (@au _ _ _ _ (@aa _ _ _ _ _ (pv 3) (@aa _ _ _ _ _ (pv 4) ac (by rfl)) (by rfl))) (@aa _ _ _ _ _ (@aB _ _ _ _ _ (@aa _ _ _ _ _ (pv 3) (@aa _ _ _ _ _ cw ac (by rfl)) (by rfl))) ac (by rfl)) (by rfl)) (by rfl)) (by rfl)) (by rfl)) (by rfl)) (by rfl)) (by rfl)) (by rfl)) (by rfl)) (by rfl)) (by rfl))) (by rfl) (by first|exact .inl rfl|exact .inr rfl|assumption)) (@ag _ _ _ _ _ (@aD _ _ (11) _ _ _ _ (aI).nd rfl (Or.inl rfl) (@aq _ _ _ _ _ _ _ _ bT (pv 11) (@au _ _ _ _ (@aa _ _ _ _ _ (@aB _ _ _ _ _ (@aa _ _ _ _ _ (@fB _ _ _ _ _ _ _ _ _ fo rfl B.ituple abv (@aa _ _ _ _ _ (pv 3) ac (by rfl)) (by decide) (by decide) (by rfl) (by rfl)) (@aa _ _ _ _ _ (pv 4) ac (by rfl)) (by rfl))) (@aa _ _ _ _ _ (@aB _ _ _ _ _ (@aa _ _ _ _ _ (pv 3) (@aa _ _ _ _ _ (@fB _ _ _ _ _ _ _ _ _ fo rfl B.ituple abv (@aa _ _ _ _ _ (pv 4) ac (by rfl)) (by decide) (by decide) (by rfl) (by rfl)) ac (by rfl)) (by rfl))) (@aa _ _ _ _ _ (@aB _ _ _ _ _ (@aa _ _ _ _ _ cw (@aa _ _ _ _ _ (pv 4) ac (by rfl)) (by rfl))) (@aa _ _ _ _ _ (@aB _ _ _ _ _ (@aa _ _ _ _ _ dD (@aa _ _ _ _ _ dD ac (by rfl)) (by rfl))) (@aa _ _ _ _ _ (@aB _ _ _ _ _ (@aa _ _ _ _ _ aG (@aa _ _ _ _ _ aG ac (by rfl)) (by rfl))) ac (by rfl)) (by rfl)) (by rfl)) (by rfl)) (by rfl)))) (by rfl) (by first|exact .inl rfl|exact .inr rfl|assumption)) (@ai _ _ _ (@az _ _ _ _ (@aq _ _ _ _ _ _ _ _ bT (@aq _ _ _ _ _ _ _ _ bT (pv 7) (pv 11)) (@au _ _ _ _ (@aa _ _ _ _ _ (@aB _ _ _ _ _ (@aa _ _ _ _ _ (@aq _ _ _ _ _ _ _ _ je (@au _ _ _ _ (@aa _ _ _ _ _ (@aB _ _ _ _ _ (@aa _ _ _ _ _ af (@aa _ _ _ _ _ af ac (by rfl)) (by rfl))) ac (by rfl))) af) (@aa _ _ _ _ _ (@au _ _ _ _ ac) ac (by rfl)) (by rfl))) (@aa _ _ _ _ _ (@aB _ _ _ _ _ (@aa _ _ _ _ _ (@au _ _ _ _ ac) (@aa _ _ _ _ _ (@aq _ _ _ _ _ _ _ _ je (@au _ _ _ _ (@aa _ _ _ _ _ (@aB _ _ _ _ _ (@aa _ _ _ _ _ af (@aa _ _ _ _ _ af ac (by rfl)) (by rfl))) ac (by rfl))) af) ac (by rfl)) (by rfl))) ac (by rfl)) (by rfl))))))))))))))),?_⟩;have hv1:=hv0;obtain ⟨a,x,y,rfl,ea,⟨ax,us,rfl,eax0,hpx0⟩,⟨ay,vs,rfl,eay0,hpy0⟩⟩:=hv0;refine ⟨_,rfl,a,_,rfl,SqT.of (fY _ _ ea),rfl,_,_,rfl,_,_,rfl,rfl,?_⟩;refine ⟨_,rfl,_,rfl,wl,mm,M,rfl,m1,by lia,hw,by lia,fun one H0 o1 o2 g0 hw0=>?_⟩;have lx:=hpx0.length;have ly:=hpy0.length;have lx40:=gp.1;have ly40:=gq.1;have s0:=dl (w:=wl) (z:=T) g0;have eax:=s0 _ _ eax0;have eay:=s0 _ _ eay0;have hpx:=PairsIn.mono (Tups.of s0) hpx0;have hpy:=PairsIn.mono (Tups.of s0) hpy0;have eT0:=g0 _ _ nwT eT;have A:Al wl T H0 H0 [(ay,.lst vs),(ax,.lst us)]:=⟨Same.refl _,by obtain ⟨_,_,e,_⟩:=hw0;exact ⟨_,e⟩,⟨_,eT0⟩,fun x hx=>by
    simp only [aao,aaM,or_false] at hx;rcases hx with rfl|rfl
    · exact eay
    · exact eax⟩
  refine ⟨_,rfl,_,rfl,(by show 2≤sizeLine;decide),fun p1 n_p1=>?_⟩
  replace A:=A.new n_p1 (.tup [.int one,.int one])
  generalize upd H0 p1 (.tup [.int one,.int one])=h_p1 at A ⊢;refine ⟨_,rfl,_,rfl,(by show 2≤sizeLine;decide),fun p2 n_p2=>?_⟩
  replace A:=A.new n_p2 (.tup [.int one,.int mm])
  generalize upd h_p1 p2 (.tup [.int one,.int mm])=h_p2 at A ⊢;refine ⟨_,rfl,_,rfl,(by show 2≤sizeLine;decide),fun p3 n_p3=>?_⟩
  replace A:=A.new n_p3 (.tup [.int (-1),.int one])
  generalize upd h_p2 p3 (.tup [.int (-1),.int one])=h_p3 at A ⊢;refine ⟨_,rfl,_,rfl,_,_,rfl,rfl,(by show 2≤sizeLine;decide),fun p4 n_p4=>?_⟩
  replace A:=A.new n_p4 (.tup [.int one,.int (one - 1)])
  generalize upd h_p3 p4 (.tup [.int one,.int (one - 1)])=h_p4 at A ⊢;refine ⟨_,rfl,(by show 2≤sizeLine;decide),fun p5 n_p5=>?_⟩
  replace A:=A.new n_p5 (.tup [.int 0,.int mm])
  generalize upd h_p4 p5 (.tup [.int 0,.int mm])=h_p5 at A ⊢;refine ⟨_,rfl,_,_,rfl,rfl,(by show 2≤sizeLine;decide),fun p6 n_p6=>?_⟩
  replace A:=A.new n_p6 (.tup [.bl true,.int (mm+1)])
  generalize upd h_p5 p6 (.tup [.bl true,.int (mm+1)])=h_p6 at A ⊢;refine ⟨_,rfl,(by show 1≤sizeLine;decide),fun p7 n_p7=>?_⟩
  replace A:=A.new n_p7 (.tup [.int one])
  generalize upd h_p6 p7 (.tup [.int one])=h_p7 at A ⊢;refine ⟨_,rfl,_,rfl,(by show 3≤sizeLine;decide),fun p8 n_p8=>?_⟩
  replace A:=A.new n_p8 (.tup [.int 0,.int one,.int one])
  generalize upd h_p7 p8 (.tup [.int 0,.int one,.int one])=h_p8 at A ⊢;refine ⟨(by show 9≤sizeLine;decide),fun po n_po=>?_⟩
  replace A:=A.new n_po (.lst [.ref p1,.ref p2,.ref p3,.ref p4,.ref p5,.ref p6,.ref p7,.ref p8,.non])
  generalize upd h_p8 po (.lst [.ref p1,.ref p2,.ref p3,.ref p4,.ref p5,.ref p6,.ref p7,.ref p8,.non])=h_po at A ⊢;refine ⟨_,rfl,?_⟩;refine ⟨(by show 2≤sizeLine;decide),fun q1 n_q1=>?_⟩
  replace A:=A.new n_q1 (.lst [.int 0,.int 1])
  generalize upd h_po q1 (.lst [.int 0,.int 1])=h_q1 at A ⊢;refine ⟨(by show 2≤sizeLine;decide),fun q2 n_q2=>?_⟩
  replace A:=A.new n_q2 (.tup [.non,.int 1])
  generalize upd h_q1 q2 (.tup [.non,.int 1])=h_q2 at A ⊢;refine ⟨(by show 2≤sizeLine;decide),fun q3 n_q3=>?_⟩
  replace A:=A.new n_q3 (.tup [.int 0,.str "1"])
  generalize upd h_q2 q3 (.tup [.int 0,.str "1"])=h_q3 at A ⊢;refine ⟨(by show 2≤sizeLine;decide),fun q4 n_q4=>?_⟩
  replace A:=A.new n_q4 (.tup [.int 0,.non])
  generalize upd h_q3 q4 (.tup [.int 0,.non])=h_q4 at A ⊢;refine ⟨(by show 2≤sizeLine;decide),fun q5 n_q5=>?_⟩
  replace A:=A.new n_q5 (.tup [.str "0",.int 1])
  generalize upd h_q4 q5 (.tup [.str "0",.int 1])=h_q5 at A ⊢;refine ⟨_,_,rfl,rfl,(by unfold xK;decide +kernel),(by show 2≤sizeLine;decide),fun q6 n_q6=>?_⟩
  replace A:=A.new n_q6 (.tup [.int 0,.int (10 ^ (29:Int).toNat)])
  generalize upd h_q5 q6 (.tup [.int 0,.int (10 ^ (29:Int).toNat)])=h_q6 at A ⊢;refine fun q7 n_q7=>?_
  replace A:=A.new n_q7 (.dK [])
  generalize upd h_q6 q7 (.dK [])=h_q7 at A ⊢;refine ⟨(by show 2≤sizeLine;decide),fun q8 n_q8=>?_⟩
  replace A:=A.new n_q8 (.tup [.bl false,.bl true])
  generalize upd h_q7 q8 (.tup [.bl false,.bl true])=h_q8 at A ⊢;refine ⟨(by show 0≤sizeLine;decide),fun q9 n_q9=>?_⟩
  replace A:=A.new n_q9 (.tup [])
  generalize upd h_q8 q9 (.tup [])=h_q9 at A ⊢;refine ⟨(by show 11≤sizeLine;decide),fun pr n_pr=>?_⟩
  replace A:=A.new n_pr (.lst [.ref q1,.str "0-1",.int 0,.ref q2,.ref q3,.ref q4,.ref q5,.ref q6,.ref q7,.ref q8,.ref q9])
  generalize upd h_q9 pr (.lst [.ref q1,.str "0-1",.int 0,.ref q2,.ref q3,.ref q4,.ref q5,.ref q6,.ref q7,.ref q8,.ref q9])=h_pr at A ⊢;refine ⟨po,pr,_,_,rfl,rfl,A.up 10 rfl,A.up 0 rfl,(by show 20≤sizeLine;decide),fun pq n_pq=>?_⟩
  replace A:=A.new n_pq (.lst ([.ref p1,.ref p2,.ref p3,.ref p4,.ref p5,.ref p6,.ref p7,.ref p8,.non]++[.ref q1,.str "0-1",.int 0,.ref q2,.ref q3,.ref q4,.ref q5,.ref q6,.ref q7,.ref q8,.ref q9]))
  generalize upd h_pr pq (.lst ([.ref p1,.ref p2,.ref p3,.ref p4,.ref p5,.ref p6,.ref p7,.ref p8,.non]++[.ref q1,.str "0-1",.int 0,.ref q2,.ref q3,.ref q4,.ref q5,.ref q6,.ref q7,.ref q8,.ref q9]))=h_pq at A ⊢;refine ⟨_,rfl,?_⟩;refine ⟨(by show 2≤sizeLine;decide),fun r1 n_r1=>?_⟩
  replace A:=A.new n_r1 (.tup [.int 0,.bl true])
  generalize upd h_pq r1 (.tup [.int 0,.bl true])=h_r1 at A ⊢;refine ⟨(by show 2≤sizeLine;decide),fun r2 n_r2=>?_⟩
  replace A:=A.new n_r2 (.tup [.bl false,.int 1])
  generalize upd h_r1 r2 (.tup [.bl false,.int 1])=h_r2 at A ⊢;refine ⟨(by show 2≤sizeLine;decide),fun ps' n_ps'=>?_⟩
  replace A:=A.new n_ps' (.lst [.ref r1,.ref r2])
  generalize upd h_r2 ps' (.lst [.ref r1,.ref r2])=h_ps' at A ⊢;refine ⟨pq,ps',_,_,rfl,rfl,A.up 3 rfl,A.up 0 rfl,(by show 22≤sizeLine;decide),fun pp n_pp=>?_⟩
  replace A:=A.new n_pp (.lst ([.ref p1,.ref p2,.ref p3,.ref p4,.ref p5,.ref p6,.ref p7,.ref p8,.non]++[.ref q1,.str "0-1",.int 0,.ref q2,.ref q3,.ref q4,.ref q5,.ref q6,.ref q7,.ref q8,.ref q9]++[.ref r1,.ref r2]))
  generalize upd h_ps' pp (.lst ([.ref p1,.ref p2,.ref p3,.ref p4,.ref p5,.ref p6,.ref p7,.ref p8,.non]++[.ref q1,.str "0-1",.int 0,.ref q2,.ref q3,.ref q4,.ref q5,.ref q6,.ref q7,.ref q8,.ref q9]++[.ref r1,.ref r2]))=h_pp at A ⊢;refine ⟨(by show 0≤sizeLine;decide),fun pf n_pf=>?_⟩
  replace A:=A.new n_pf (.lst [])
  generalize upd h_pp pf (.lst [])=h_pf at A ⊢;have f_p1:=A.at 24 rfl;have f_p2:=A.at 23 rfl;have f_p3:=A.at 22 rfl;have f_p4:=A.at 21 rfl;have f_p5:=A.at 20 rfl;have f_p6:=A.at 19 rfl;have f_p7:=A.at 18 rfl;have f_p8:=A.at 17 rfl;have f_q1:=A.at 15 rfl;have f_q2:=A.at 14 rfl;have f_q3:=A.at 13 rfl;have f_q4:=A.at 12 rfl;have f_q5:=A.at 11 rfl;have f_q6:=A.at 10 rfl;have f_q7:=A.at 9 rfl;have f_q8:=A.at 8 rfl;have f_q9:=A.at 7 rfl;have f_r1:=A.at 4 rfl;have f_r2:=A.at 3 rfl;have hodd:∀ x∈([.ref p1,.ref p2,.ref p3,.ref p4,.ref p5,.ref p6,.ref p7,.ref p8,.non]++[.ref q1,.str "0-1",.int 0,.ref q2,.ref q3,.ref q4,.ref q5,.ref q6,.ref q7,.ref q8,.ref q9]++[.ref r1,.ref r2]:List V),Ts mm (cz wl T h_pf) x:=fun x hm=>by
    simp only [abf,abP,aao,aaM,or_false] at hm;rcases hm with rfl|rfl|rfl|rfl|rfl|rfl|rfl|rfl|rfl|rfl|rfl|rfl|rfl|rfl|rfl|rfl|rfl|rfl|rfl|rfl|rfl|rfl
    · exact ⟨.tuple [.int one,.int one],by simp only [Dat,DatAll];exact ⟨p1,_,rfl,f_p1,_,_,rfl,rfl,_,_,rfl,rfl,rfl⟩,by simp only [OkD,OkAll] <;> first|decide +kernel|(refine ⟨?_,?_,trivial⟩ <;> first|trivial|(exact bq (by lia) (by lia))|decide +kernel)|(refine ⟨?_,?_,?_,trivial⟩ <;> first|exact bq (by lia) (by lia)|decide +kernel)|exact ⟨bq (by lia) (by lia),trivial⟩,by simp [szD,szAll],by simp [aaj,aag],by first|rfl|decide +kernel|(exact decide_eq_false (fun z=>by lia))|(exact cG m9)|simp [bh]⟩
    · exact ⟨.tuple [.int one,.int mm],by simp only [Dat,DatAll];exact ⟨p2,_,rfl,f_p2,_,_,rfl,rfl,_,_,rfl,rfl,rfl⟩,by simp only [OkD,OkAll] <;> first|decide +kernel|(refine ⟨?_,?_,trivial⟩ <;> first|trivial|(exact bq (by lia) (by lia))|decide +kernel)|(refine ⟨?_,?_,?_,trivial⟩ <;> first|exact bq (by lia) (by lia)|decide +kernel)|exact ⟨bq (by lia) (by lia),trivial⟩,by simp [szD,szAll],by simp [aaj,aag],by first|rfl|decide +kernel|(exact decide_eq_false (fun z=>by lia))|(exact cG m9)|simp [bh]⟩
    · exact ⟨.tuple [.int (-1),.int one],by simp only [Dat,DatAll];exact ⟨p3,_,rfl,f_p3,_,_,rfl,rfl,_,_,rfl,rfl,rfl⟩,by simp only [OkD,OkAll] <;> first|decide +kernel|(refine ⟨?_,?_,trivial⟩ <;> first|trivial|(exact bq (by lia) (by lia))|decide +kernel)|(refine ⟨?_,?_,?_,trivial⟩ <;> first|exact bq (by lia) (by lia)|decide +kernel)|exact ⟨bq (by lia) (by lia),trivial⟩,by simp [szD,szAll],by simp [aaj,aag],by first|rfl|decide +kernel|(exact decide_eq_false (fun z=>by lia))|(exact cG m9)|simp [bh]⟩
    · exact ⟨.tuple [.int one,.int (one - 1)],by simp only [Dat,DatAll];exact ⟨p4,_,rfl,f_p4,_,_,rfl,rfl,_,_,rfl,rfl,rfl⟩,by simp only [OkD,OkAll] <;> first|decide +kernel|(refine ⟨?_,?_,trivial⟩ <;> first|trivial|(exact bq (by lia) (by lia))|decide +kernel)|(refine ⟨?_,?_,?_,trivial⟩ <;> first|exact bq (by lia) (by lia)|decide +kernel)|exact ⟨bq (by lia) (by lia),trivial⟩,by simp [szD,szAll],by simp [aaj,aag],by first|rfl|decide +kernel|(exact decide_eq_false (fun z=>by lia))|(exact cG m9)|simp [bh]⟩
    · exact ⟨.tuple [.int 0,.int mm],by simp only [Dat,DatAll];exact ⟨p5,_,rfl,f_p5,_,_,rfl,rfl,_,_,rfl,rfl,rfl⟩,by simp only [OkD,OkAll] <;> first|decide +kernel|(refine ⟨?_,?_,trivial⟩ <;> first|trivial|(exact bq (by lia) (by lia))|decide +kernel)|(refine ⟨?_,?_,?_,trivial⟩ <;> first|exact bq (by lia) (by lia)|decide +kernel)|exact ⟨bq (by lia) (by lia),trivial⟩,by simp [szD,szAll],by simp [aaj,aag],by first|rfl|decide +kernel|(exact decide_eq_false (fun z=>by lia))|(exact cG m9)|simp [bh]⟩
    · exact ⟨.tuple [.bool true,.int (mm+1)],by simp only [Dat,DatAll];exact ⟨p6,_,rfl,f_p6,_,_,rfl,rfl,_,_,rfl,rfl,rfl⟩,by simp only [OkD,OkAll] <;> first|decide +kernel|(refine ⟨?_,?_,trivial⟩ <;> first|trivial|(exact bq (by lia) (by lia))|decide +kernel)|(refine ⟨?_,?_,?_,trivial⟩ <;> first|exact bq (by lia) (by lia)|decide +kernel)|exact ⟨bq (by lia) (by lia),trivial⟩,by simp [szD,szAll],by simp [aaj,aag],by first|rfl|decide +kernel|(exact decide_eq_false (fun z=>by lia))|(exact cG m9)|simp [bh]⟩
    · exact ⟨.tuple [.int one],by simp only [Dat,DatAll];exact ⟨p7,_,rfl,f_p7,_,_,rfl,rfl,rfl⟩,by simp only [OkD,OkAll] <;> first|decide +kernel|(refine ⟨?_,?_,trivial⟩ <;> first|trivial|(exact bq (by lia) (by lia))|decide +kernel)|(refine ⟨?_,?_,?_,trivial⟩ <;> first|exact bq (by lia) (by lia)|decide +kernel)|exact ⟨bq (by lia) (by lia),trivial⟩,by simp [szD,szAll],by simp [aaj,aag],by first|rfl|decide +kernel|(exact decide_eq_false (fun z=>by lia))|(exact cG m9)|simp [bh]⟩
    · exact ⟨.tuple [.int 0,.int one,.int one],by simp only [Dat,DatAll];exact ⟨p8,_,rfl,f_p8,_,_,rfl,rfl,_,_,rfl,rfl,_,_,rfl,rfl,rfl⟩,by simp only [OkD,OkAll] <;> first|decide +kernel|(refine ⟨?_,?_,trivial⟩ <;> first|trivial|(exact bq (by lia) (by lia))|decide +kernel)|(refine ⟨?_,?_,?_,trivial⟩ <;> first|exact bq (by lia) (by lia)|decide +kernel)|exact ⟨bq (by lia) (by lia),trivial⟩,by simp [szD,szAll],by simp [aaj,aag],by first|rfl|decide +kernel|(exact decide_eq_false (fun z=>by lia))|(exact cG m9)|simp [bh]⟩
    · exact ⟨.none,by simp only [Dat],by simp only [OkD],by simp [szD],by simp [aaj],rfl⟩
    · exact ⟨.list [.int 0,.int 1],by simp only [Dat,DatAll];exact ⟨q1,_,rfl,f_q1,_,_,rfl,rfl,_,_,rfl,rfl,rfl⟩,by simp only [OkD,OkAll] <;> first|decide +kernel|(refine ⟨?_,?_,trivial⟩ <;> first|trivial|(exact bq (by lia) (by lia))|decide +kernel)|(refine ⟨?_,?_,?_,trivial⟩ <;> first|exact bq (by lia) (by lia)|decide +kernel)|exact ⟨bq (by lia) (by lia),trivial⟩,by simp [szD,szAll],by simp [aaj,aag],by first|rfl|decide +kernel|(exact decide_eq_false (fun z=>by lia))|(exact cG m9)|simp [bh]⟩
    · exact ⟨.str "0-1",by simp only [Dat],by simp only [OkD];decide +kernel,by simp [szD],by simp [aaj],rfl⟩
    · exact ⟨.int 0,by simp only [Dat],by simp only [OkD];decide +kernel,by simp [szD],by simp [aaj],rfl⟩
    · exact ⟨.tuple [.none,.int 1],by simp only [Dat,DatAll];exact ⟨q2,_,rfl,f_q2,_,_,rfl,rfl,_,_,rfl,rfl,rfl⟩,by simp only [OkD,OkAll] <;> first|decide +kernel|(refine ⟨?_,?_,trivial⟩ <;> first|trivial|(exact bq (by lia) (by lia))|decide +kernel)|(refine ⟨?_,?_,?_,trivial⟩ <;> first|exact bq (by lia) (by lia)|decide +kernel)|exact ⟨bq (by lia) (by lia),trivial⟩,by simp [szD,szAll],by simp [aaj,aag],by first|rfl|decide +kernel|(exact decide_eq_false (fun z=>by lia))|(exact cG m9)|simp [bh]⟩
    · exact ⟨.tuple [.int 0,.str "1"],by simp only [Dat,DatAll];exact ⟨q3,_,rfl,f_q3,_,_,rfl,rfl,_,_,rfl,rfl,rfl⟩,by simp only [OkD,OkAll] <;> first|decide +kernel|(refine ⟨?_,?_,trivial⟩ <;> first|trivial|(exact bq (by lia) (by lia))|decide +kernel)|(refine ⟨?_,?_,?_,trivial⟩ <;> first|exact bq (by lia) (by lia)|decide +kernel)|exact ⟨bq (by lia) (by lia),trivial⟩,by simp [szD,szAll],by simp [aaj,aag],by first|rfl|decide +kernel|(exact decide_eq_false (fun z=>by lia))|(exact cG m9)|simp [bh]⟩
    · exact ⟨.tuple [.int 0,.none],by simp only [Dat,DatAll];exact ⟨q4,_,rfl,f_q4,_,_,rfl,rfl,_,_,rfl,rfl,rfl⟩,by simp only [OkD,OkAll] <;> first|decide +kernel|(refine ⟨?_,?_,trivial⟩ <;> first|trivial|(exact bq (by lia) (by lia))|decide +kernel)|(refine ⟨?_,?_,?_,trivial⟩ <;> first|exact bq (by lia) (by lia)|decide +kernel)|exact ⟨bq (by lia) (by lia),trivial⟩,by simp [szD,szAll],by simp [aaj,aag],by first|rfl|decide +kernel|(exact decide_eq_false (fun z=>by lia))|(exact cG m9)|simp [bh]⟩
    · exact ⟨.tuple [.str "0",.int 1],by simp only [Dat,DatAll];exact ⟨q5,_,rfl,f_q5,_,_,rfl,rfl,_,_,rfl,rfl,rfl⟩,by simp only [OkD,OkAll] <;> first|decide +kernel|(refine ⟨?_,?_,trivial⟩ <;> first|trivial|(exact bq (by lia) (by lia))|decide +kernel)|(refine ⟨?_,?_,?_,trivial⟩ <;> first|exact bq (by lia) (by lia)|decide +kernel)|exact ⟨bq (by lia) (by lia),trivial⟩,by simp [szD,szAll],by simp [aaj,aag],by first|rfl|decide +kernel|(exact decide_eq_false (fun z=>by lia))|(exact cG m9)|simp [bh]⟩
    · exact ⟨.tuple [.int 0,.int (10 ^ (29:Int).toNat)],by simp only [Dat,DatAll];exact ⟨q6,_,rfl,f_q6,_,_,rfl,rfl,_,_,rfl,rfl,rfl⟩,by simp only [OkD,OkAll] <;> first|decide +kernel|(refine ⟨?_,?_,trivial⟩ <;> first|trivial|(exact bq (by lia) (by lia))|decide +kernel)|(refine ⟨?_,?_,?_,trivial⟩ <;> first|exact bq (by lia) (by lia)|decide +kernel)|exact ⟨bq (by lia) (by lia),trivial⟩,by simp [szD,szAll],by simp [aaj,aag],by first|rfl|decide +kernel|(exact decide_eq_false (fun z=>by lia))|(exact cG m9)|simp [bh]⟩
    · exact ⟨.dict [],by simp only [Dat,DatKv];exact ⟨q7,_,rfl,f_q7,rfl⟩,by simp only [OkD],by simp [szD],by simp [aaj,PyData.depthKv],rfl⟩
    · exact ⟨.tuple [.bool false,.bool true],by simp only [Dat,DatAll];exact ⟨q8,_,rfl,f_q8,_,_,rfl,rfl,_,_,rfl,rfl,rfl⟩,by simp only [OkD,OkAll] <;> first|decide +kernel|(refine ⟨?_,?_,trivial⟩ <;> first|trivial|(exact bq (by lia) (by lia))|decide +kernel)|(refine ⟨?_,?_,?_,trivial⟩ <;> first|exact bq (by lia) (by lia)|decide +kernel)|exact ⟨bq (by lia) (by lia),trivial⟩,by simp [szD,szAll],by simp [aaj,aag],by first|rfl|decide +kernel|(exact decide_eq_false (fun z=>by lia))|(exact cG m9)|simp [bh]⟩
    · exact ⟨.tuple [],by simp only [Dat,DatAll];exact ⟨q9,_,rfl,f_q9,rfl⟩,by simp only [OkD,OkAll] <;> first|decide +kernel|(refine ⟨?_,?_,trivial⟩ <;> first|trivial|(exact bq (by lia) (by lia))|decide +kernel)|(refine ⟨?_,?_,?_,trivial⟩ <;> first|exact bq (by lia) (by lia)|decide +kernel)|exact ⟨bq (by lia) (by lia),trivial⟩,by simp [szD,szAll],by simp [aaj,aag],by first|rfl|decide +kernel|(exact decide_eq_false (fun z=>by lia))|(exact cG m9)|simp [bh]⟩
    · exact ⟨.tuple [.int 0,.bool true],by simp only [Dat,DatAll];exact ⟨r1,_,rfl,f_r1,_,_,rfl,rfl,_,_,rfl,rfl,rfl⟩,by simp only [OkD,OkAll] <;> first|decide +kernel|(refine ⟨?_,?_,trivial⟩ <;> first|trivial|(exact bq (by lia) (by lia))|decide +kernel)|(refine ⟨?_,?_,?_,trivial⟩ <;> first|exact bq (by lia) (by lia)|decide +kernel)|exact ⟨bq (by lia) (by lia),trivial⟩,by simp [szD,szAll],by simp [aaj,aag],by first|rfl|decide +kernel|(exact decide_eq_false (fun z=>by lia))|(exact cG m9)|simp [bh]⟩
    · exact ⟨.tuple [.bool false,.int 1],by simp only [Dat,DatAll];exact ⟨r2,_,rfl,f_r2,_,_,rfl,rfl,_,_,rfl,rfl,rfl⟩,by simp only [OkD,OkAll] <;> first|decide +kernel|(refine ⟨?_,?_,trivial⟩ <;> first|trivial|(exact bq (by lia) (by lia))|decide +kernel)|(refine ⟨?_,?_,?_,trivial⟩ <;> first|exact bq (by lia) (by lia)|decide +kernel)|exact ⟨bq (by lia) (by lia),trivial⟩,by simp [szD,szAll],by simp [aaj,aag],by first|rfl|decide +kernel|(exact decide_eq_false (fun z=>by lia))|(exact cG m9)|simp [bh]⟩
  have epp:=A.at 1 rfl;have epf:=A.at 0 rfl;have nepp:=iM epp;have nepf:=iM epf;have neax:=iM eax;have neay:=iM eay;have lod:([.ref p1,.ref p2,.ref p3,.ref p4,.ref p5,.ref p6,.ref p7,.ref p8,.non]++[.ref q1,.str "0-1",.int 0,.ref q2,.ref q3,.ref q4,.ref q5,.ref q6,.ref q7,.ref q8,.ref q9]++[.ref r1,.ref r2]:List V).length=22:=rfl;have hw1:=hw0.keep A.same (aaC _);have g1:But wl H h_pf:=g0.trans (But.of A.same);have eT1:=A.same _ _ eT0;have sH:=di (w:=wl) (z:=T) A.same;have eax1:=fY _ _ (sH _ _ eax);have eay1:=fY _ _ (sH _ _ eay);have epp:=fY _ _ epp;have epf:=fY _ _ epf;generalize ([.ref p1,.ref p2,.ref p3,.ref p4,.ref p5,.ref p6,.ref p7,.ref p8,.non]++[.ref q1,.str "0-1",.int 0,.ref q2,.ref q3,.ref q4,.ref q5,.ref q6,.ref q7,.ref q8,.ref q9]++[.ref r1,.ref r2]:List V)=od at epp hodd lod;clear A;refine ⟨_,rfl,pp,rfl,⟨_,SqL.of epp⟩,gK (Trn.list (xs:=od)) (fun i σ H'=>∃ (pf:Addr) (fs:List V) (c7 c8 c9 c10:Option V),σ=[some (.ref wl),some (.int mm),some (.ref a),some (.ref ax),some (.ref ay),some (.int one),some (.ref pp),some (.ref pf),c7,c8,c9,c10]∧But wl h_pf H'∧Wel H' wl (M+1+2 * i)∧cz wl T H' pf=some (.lst fs)∧fs.length=2 * i∧∀ f∈fs,Gq (pHd mm) (cz wl T H') f) ⟨pf,[],_,_,_,_,rfl,But.refl,hw1.more (by lia),(dw nepf.1 nepf.2).trans epf,rfl,fun _ z=>nomatch z⟩ (fun i σ H' hi z=>?_) (fun i x σ K0' K0 hi it z=>?_) (fun σ K9 z=>?_)⟩
  · obtain ⟨_,_,_,_,_,_,rfl,b,_⟩:=z;exact SqL.of (b _ _ nepp.1 epp)
  · obtain ⟨pf,fs,c7,c8,c9,c10,rfl,b0,w0,ef0,lf,gf⟩:=z;obtain ⟨rfl,hx⟩:=it;refine ⟨_,rfl,_,rfl,ax,_,rfl,.inl (SqL.of (b0 _ _ neax.1 eax1)),_,_,rfl,rfl,wl,_,_,rfl,by lia,by lia,w0,by lia,fun r1 K1 a1 c1 b1 w1=>?_⟩;refine ⟨_,rfl,_,rfl,ay,_,rfl,.inl (SqL.of ((b0.trans b1) _ _ neay.1 eay1)),_,_,rfl,rfl,wl,_,_,rfl,by lia,by lia,w1,by lia,fun r2 K2 a2 c2 b2 w2=>?_⟩;obtain ⟨n1,rfl⟩:=ab2 a1;obtain ⟨n2,rfl⟩:=ab2 a2;have b12:=b1.trans b2;have B2:=b0.trans b12;have A:Al wl T K2 K2 [(pf,.lst fs),(ay,.lst vs),(ax,.lst us)]:=⟨Same.refl _,by obtain ⟨_,_,e,_⟩:=w2;exact ⟨_,e⟩,⟨_,B2 _ _ nwT eT1⟩,fun x hx=>by
      simp only [aao,aaM,or_false] at hx;rcases hx with rfl|rfl|rfl
      · exact (dl b12) _ _ ef0
      · exact (dw neay.1 neay.2).trans (B2 _ _ neay.1 eay1)
      · exact (dw neax.1 neax.2).trans (B2 _ _ neax.1 eax1)⟩
    refine ⟨_,rfl,⟨_,rfl,_,rfl,(n1:Int),rfl,ax,_,rfl,SqL.of (A.up 2 rfl),fun c1 n_c1=>?_⟩⟩;rw [kY]
    replace A:=A.new n_c1 (.lst (us.take n1))
    generalize upd K2 c1 (.lst (us.take n1))=h_c1 at A ⊢;refine ⟨_,rfl,(by show 1≤sizeLine;decide),fun c2 n_c2=>?_⟩
    replace A:=A.new n_c2 (.lst [x])
    generalize upd h_c1 c2 (.lst [x])=h_c2 at A ⊢;refine ⟨c1,c2,_,_,rfl,rfl,A.up 1 rfl,A.up 0 rfl,bj (by rw [aaz,aa8];lia),fun c3 n_c3=>?_⟩
    replace A:=A.new n_c3 (.lst (us.take n1++[x]))
    generalize upd h_c2 c3 (.lst (us.take n1++[x]))=h_c3 at A ⊢;refine ⟨_,rfl,_,rfl,(n1:Int),rfl,ax,_,rfl,SqL.of (A.up 5 rfl),fun c4 n_c4=>?_⟩;rw [d_ _ n1 (by lia)]
    replace A:=A.new n_c4 (.lst (us.drop n1))
    generalize upd h_c3 c4 (.lst (us.drop n1))=h_c4 at A ⊢;refine ⟨c3,c4,_,_,rfl,rfl,A.up 1 rfl,A.up 0 rfl,bj (by rw [aal,aaz,aa8,aba];lia),fun c5 n_c5=>?_⟩
    replace A:=A.new n_c5 (.lst (us.take n1++[x]++us.drop n1))
    generalize upd h_c4 c5 (.lst (us.take n1++[x]++us.drop n1))=h_c5 at A ⊢;refine ⟨_,rfl,(by show 2≤sizeLine;decide),fun c6 n_c6=>?_⟩
    replace A:=A.new n_c6 (.tup [.ref c5,.ref ay])
    generalize upd h_c5 c6 (.tup [.ref c5,.ref ay])=h_c6 at A ⊢;refine ⟨_,rfl,⟨_,rfl,_,rfl,(n2:Int),rfl,ay,_,rfl,SqL.of (A.up 7 rfl),fun d1 n_d1=>?_⟩⟩;rw [kY]
    replace A:=A.new n_d1 (.lst (vs.take n2))
    generalize upd h_c6 d1 (.lst (vs.take n2))=h_d1 at A ⊢;refine ⟨_,rfl,(by show 1≤sizeLine;decide),fun d2 n_d2=>?_⟩
    replace A:=A.new n_d2 (.lst [x])
    generalize upd h_d1 d2 (.lst [x])=h_d2 at A ⊢;refine ⟨d1,d2,_,_,rfl,rfl,A.up 1 rfl,A.up 0 rfl,bj (by rw [aaz,aa8];lia),fun d3 n_d3=>?_⟩
    replace A:=A.new n_d3 (.lst (vs.take n2++[x]))
    generalize upd h_d2 d3 (.lst (vs.take n2++[x]))=h_d3 at A ⊢;refine ⟨_,rfl,_,rfl,(n2:Int),rfl,ay,_,rfl,SqL.of (A.up 10 rfl),fun d4 n_d4=>?_⟩;rw [d_ _ n2 (by lia)]
    replace A:=A.new n_d4 (.lst (vs.drop n2))
    generalize upd h_d3 d4 (.lst (vs.drop n2))=h_d4 at A ⊢;refine ⟨d3,d4,_,_,rfl,rfl,A.up 1 rfl,A.up 0 rfl,bj (by rw [aal,aaz,aa8,aba];lia),fun d5 n_d5=>?_⟩
    replace A:=A.new n_d5 (.lst (vs.take n2++[x]++vs.drop n2))
    generalize upd h_d4 d5 (.lst (vs.take n2++[x]++vs.drop n2))=h_d5 at A ⊢;refine ⟨(by show 2≤sizeLine;decide),fun d6 n_d6=>?_⟩
    replace A:=A.new n_d6 (.tup [.ref ax,.ref d5])
    generalize upd h_d5 d6 (.tup [.ref ax,.ref d5])=h_d6 at A ⊢;refine ⟨(by show 2≤sizeLine;decide),fun d7 n_d7=>?_⟩
    replace A:=A.new n_d7 (.lst [.ref c6,.ref d6])
    generalize upd h_d6 d7 (.lst [.ref c6,.ref d6])=h_d7 at A ⊢;refine ⟨pf,d7,_,_,rfl,rfl,A.up 13 rfl,A.up 0 rfl,bj (by rw [lf];show 2 * i+2≤1000;lia),fun d8 n_d8=>?_⟩
    replace A:=A.new n_d8 (.lst (fs++[.ref c6,.ref d6]))
    generalize upd h_d7 d8 (.lst (fs++[.ref c6,.ref d6]))=h_d8 at A ⊢;have SS:=(sH.trans (dl B2)).trans (di A.same);have pxF:=PairsIn.mono (Tups.of SS) hpx;have pyF:=PairsIn.mono (Tups.of SS) hpy;obtain ⟨dt,t1,t2,t3,t4,t5⟩:=(hodd x (aax hx)).mono ((dl B2).trans (di A.same));have lX:=qZ (v:=.ref ax) ⟨ax,us,rfl,A.at 16 rfl,pxF⟩ gp m9;have lY:=qZ (v:=.ref ay) ⟨ay,vs,rfl,A.at 15 rfl,pyF⟩ gq m9;refine ⟨d8,_,_,_,_,_,rfl,B2.trans (But.of A.same),(w2.keep A.same (aaC _)).more (by lia),A.at 0 rfl,by rw [aal,lf];show 2 * i+2=2 * (i+1);lia,fun y hy=>?_⟩;rcases aap.mp hy with hy|hy
    · exact (gf y hy).mono ((dl b12).trans (di A.same))
    simp only [aao,aaM,or_false] at hy;rcases hy with rfl|rfl
    · exact fk (A.at 8 rfl) (ut (A.at 9 rfl) (PairsIn.dat pxF) gp m9 t1 t2 t3 t4) lY (vP (um t5))
    · exact fk (A.at 2 rfl) lX (ut (A.at 3 rfl) (PairsIn.dat pyF) gq m9 t1 t2 t3 t4) (vN (um t5))
  · obtain ⟨pf,fs,c7,c8,c9,c10,rfl,b9,w9,ef9,lf,gf⟩:=z;have A:Al wl T K9 K9 [(pf,.lst fs),(ay,.lst vs),(ax,.lst us)]:=⟨Same.refl _,by obtain ⟨_,_,e,_⟩:=w9;exact ⟨_,e⟩,⟨_,b9 _ _ nwT eT1⟩,fun x hx=>by
      simp only [aao,aaM,or_false] at hx;rcases hx with rfl|rfl|rfl
      · exact (Same.refl _) _ _ ef9
      · exact (dw neay.1 neay.2).trans (b9 _ _ neay.1 eay1)
      · exact (dw neax.1 neax.2).trans (b9 _ _ neax.1 eax1)⟩
    refine ⟨(by show 0≤sizeLine;decide),fun s1 n_s1=>?_⟩
    replace A:=A.new n_s1 (.lst [])
    generalize upd K9 s1 (.lst [])=h_s1 at A ⊢;refine ⟨(by show 0≤sizeLine;decide),fun s2 n_s2=>?_⟩
    replace A:=A.new n_s2 (.tup [])
    generalize upd h_s1 s2 (.tup [])=h_s2 at A ⊢;refine fun s3 n_s3=>?_
    replace A:=A.new n_s3 (.dK [])
    generalize upd h_s2 s3 (.dK [])=h_s3 at A ⊢;refine ⟨_,rfl,(by show 1≤sizeLine;decide),fun s4 n_s4=>?_⟩
    replace A:=A.new n_s4 (.tup [.ref ax])
    generalize upd h_s3 s4 (.tup [.ref ax])=h_s4 at A ⊢;refine ⟨_,rfl,_,rfl,(by show 0≤sizeLine;decide),fun s5 n_s5=>?_⟩
    replace A:=A.new n_s5 (.lst [])
    generalize upd h_s4 s5 (.lst [])=h_s5 at A ⊢;refine ⟨(by show 3≤sizeLine;decide),fun s6 n_s6=>?_⟩
    replace A:=A.new n_s6 (.tup [.ref ax,.ref ay,.ref s5])
    generalize upd h_s5 s6 (.tup [.ref ax,.ref ay,.ref s5])=h_s6 at A ⊢;refine ⟨_,rfl,_,rfl,(by show 2≤sizeLine;decide),fun s7 n_s7=>?_⟩
    replace A:=A.new n_s7 (.lst [.ref ax,.ref ay])
    generalize upd h_s6 s7 (.lst [.ref ax,.ref ay])=h_s7 at A ⊢;refine ⟨_,rfl,(by show 2≤sizeLine;decide),fun s8 n_s8=>?_⟩
    replace A:=A.new n_s8 (.tup [.ref ax,.non])
    generalize upd h_s7 s8 (.tup [.ref ax,.non])=h_s8 at A ⊢;refine ⟨(by show 12≤sizeLine;decide),fun sc n_sc=>?_⟩
    replace A:=A.new n_sc (.lst [.non,.int 0,.bl true,.str "",.str "0-1 /",.ref s1,.ref s2,.ref s3,.ref s4,.ref s6,.ref s7,.ref s8])
    generalize upd h_s8 sc (.lst [.non,.int 0,.bl true,.str "",.str "0-1 /",.ref s1,.ref s2,.ref s3,.ref s4,.ref s6,.ref s7,.ref s8])=h_sc at A ⊢;refine ⟨_,rfl,_,rfl,ax,_,rfl,.inl ⟨SqL.of (A.up 11 rfl),fun t1 n_t1=>?_⟩⟩
    replace A:=A.new n_t1 (.tup us)
    generalize upd h_sc t1 (.tup us)=h_t1 at A ⊢;refine ⟨_,rfl,(by show 2≤sizeLine;decide),fun t2 n_t2=>?_⟩
    replace A:=A.new n_t2 (.tup [.ref t1,.ref ay])
    generalize upd h_t1 t2 (.tup [.ref t1,.ref ay])=h_t2 at A ⊢;refine ⟨_,rfl,_,rfl,ay,_,rfl,.inl ⟨SqL.of (A.up 12 rfl),fun t3 n_t3=>?_⟩⟩
    replace A:=A.new n_t3 (.tup vs)
    generalize upd h_t2 t3 (.tup vs)=h_t3 at A ⊢;refine ⟨(by show 2≤sizeLine;decide),fun t4 n_t4=>?_⟩
    replace A:=A.new n_t4 (.tup [.ref ax,.ref t3])
    generalize upd h_t3 t4 (.tup [.ref ax,.ref t3])=h_t4 at A ⊢;refine ⟨_,rfl,(by show 2≤sizeLine;decide),fun u1 n_u1=>?_⟩
    replace A:=A.new n_u1 (.tup [.non,.ref ay])
    generalize upd h_t4 u1 (.tup [.non,.ref ay])=h_u1 at A ⊢;refine fun s9 n_s9=>?_
    replace A:=A.new n_s9 (.dK [])
    generalize upd h_u1 s9 (.dK [])=h_s9 at A ⊢;refine fun sa n_sa=>?_
    replace A:=A.new n_sa (.dK [])
    generalize upd h_s9 sa (.dK [])=h_sa at A ⊢;refine ⟨(by show 2≤sizeLine;decide),fun sb n_sb=>?_⟩
    replace A:=A.new n_sb (.tup [.ref s9,.ref sa])
    generalize upd h_sa sb (.tup [.ref s9,.ref sa])=h_sb at A ⊢;refine ⟨(by show 2≤sizeLine;decide),fun u2 n_u2=>?_⟩
    replace A:=A.new n_u2 (.tup [.str "",.str ""])
    generalize upd h_sb u2 (.tup [.str "",.str ""])=h_u2 at A ⊢;refine ⟨(by show 5≤sizeLine;decide),fun u3 n_u3=>?_⟩
    replace A:=A.new n_u3 (.lst [.ref t2,.ref t4,.ref u1,.ref sb,.ref u2])
    generalize upd h_u2 u3 (.lst [.ref t2,.ref t4,.ref u1,.ref sb,.ref u2])=h_u3 at A ⊢;refine ⟨sc,u3,_,_,rfl,rfl,A.up 10 rfl,A.up 0 rfl,(by show 17≤sizeLine;decide),fun u4 n_u4=>?_⟩
    replace A:=A.new n_u4 (.lst ([.non,.int 0,.bl true,.str "",.str "0-1 /",.ref s1,.ref s2,.ref s3,.ref s4,.ref s6,.ref s7,.ref s8]++[.ref t2,.ref t4,.ref u1,.ref sb,.ref u2]))
    generalize upd h_u3 u4 (.lst ([.non,.int 0,.bl true,.str "",.str "0-1 /",.ref s1,.ref s2,.ref s3,.ref s4,.ref s6,.ref s7,.ref s8]++[.ref t2,.ref t4,.ref u1,.ref sb,.ref u2]))=h_u4 at A ⊢;refine ⟨_,rfl,_,rfl,pf,u4,_,_,rfl,rfl,A.up 20 rfl,A.up 0 rfl,bj (by rw [lf,lod];show 2 * 22+17≤1000;decide),fun sd n_sd=>?_⟩
    replace A:=A.new n_sd (.lst (fs++([.non,.int 0,.bl true,.str "",.str "0-1 /",.ref s1,.ref s2,.ref s3,.ref s4,.ref s6,.ref s7,.ref s8]++[.ref t2,.ref t4,.ref u1,.ref sb,.ref u2])))
    generalize upd h_u4 sd (.lst (fs++([.non,.int 0,.bl true,.str "",.str "0-1 /",.ref s1,.ref s2,.ref s3,.ref s4,.ref s6,.ref s7,.ref s8]++[.ref t2,.ref t4,.ref u1,.ref sb,.ref u2])))=h_sd at A ⊢;refine ⟨(by show 2≤sizeLine;decide),fun t5 n_t5=>?_⟩
    replace A:=A.new n_t5 (.tup [.int 0,.int 1])
    generalize upd h_sd t5 (.tup [.int 0,.int 1])=h_t5 at A ⊢;refine ⟨(by show 1≤sizeLine;decide),fun t6 n_t6=>?_⟩
    replace A:=A.new n_t6 (.lst [.ref t5])
    generalize upd h_t5 t6 (.lst [.ref t5])=h_t6 at A ⊢;refine ⟨t6,41,_,rfl,rfl,A.up 0 rfl,by decide,by decide,(by show 1 * 41≤sizeLine;decide),fun t7 n_t7=>?_⟩
    replace A:=A.new n_t7 (.lst (aaf (41:Int).toNat [V.ref t5]).flatten)
    generalize upd h_t6 t7 (.lst (aaf (41:Int).toNat [V.ref t5]).flatten)=h_t7 at A ⊢;refine ⟨(by show 0≤sizeLine;decide),fun t8 n_t8=>?_⟩
    replace A:=A.new n_t8 (.lst [])
    generalize upd h_t7 t8 (.lst [])=h_t8 at A ⊢;refine ⟨(by show 2≤sizeLine;decide),fun t9 n_t9=>?_⟩
    replace A:=A.new n_t9 (.tup [.ref t7,.ref t8])
    generalize upd h_t8 t9 (.tup [.ref t7,.ref t8])=h_t9 at A ⊢;refine ⟨(by show 0≤sizeLine;decide),fun ta n_ta=>?_⟩
    replace A:=A.new n_ta (.lst [])
    generalize upd h_t9 ta (.lst [])=h_ta at A ⊢;refine ⟨(by show 2≤sizeLine;decide),fun tb n_tb=>?_⟩
    replace A:=A.new n_tb (.tup [.int 0,.int 1])
    generalize upd h_ta tb (.tup [.int 0,.int 1])=h_tb at A ⊢;refine ⟨(by show 1≤sizeLine;decide),fun tc n_tc=>?_⟩
    replace A:=A.new n_tc (.lst [.ref tb])
    generalize upd h_tb tc (.lst [.ref tb])=h_tc at A ⊢;refine ⟨tc,41,_,rfl,rfl,A.up 0 rfl,by decide,by decide,(by show 1 * 41≤sizeLine;decide),fun td n_td=>?_⟩
    replace A:=A.new n_td (.lst (aaf (41:Int).toNat [V.ref tb]).flatten)
    generalize upd h_tc td (.lst (aaf (41:Int).toNat [V.ref tb]).flatten)=h_td at A ⊢;refine ⟨(by show 2≤sizeLine;decide),fun te n_te=>?_⟩
    replace A:=A.new n_te (.tup [.ref ta,.ref td])
    generalize upd h_td te (.tup [.ref ta,.ref td])=h_te at A ⊢;refine ⟨(by show 2≤sizeLine;decide),fun tf n_tf=>?_⟩
    replace A:=A.new n_tf (.lst [.ref t9,.ref te])
    generalize upd h_te tf (.lst [.ref t9,.ref te])=h_tf at A ⊢;refine ⟨sd,tf,_,_,rfl,rfl,A.up 11 rfl,A.up 0 rfl,bj (by rw [aal,lf,lod];show 2 * 22+17+2≤1000;decide),fun tg n_tg=>?_⟩;have ntg:=But.free (g1.trans b9) w9 (A.same.free n_tg)
    replace A:=A.new n_tg (.lst (fs++([.non,.int 0,.bl true,.str "",.str "0-1 /",.ref s1,.ref s2,.ref s3,.ref s4,.ref s6,.ref s7,.ref s8]++[.ref t2,.ref t4,.ref u1,.ref sb,.ref u2])++[.ref t9,.ref te]))
    generalize upd h_tf tg (.lst (fs++([.non,.int 0,.bl true,.str "",.str "0-1 /",.ref s1,.ref s2,.ref s3,.ref s4,.ref s6,.ref s7,.ref s8]++[.ref t2,.ref t4,.ref u1,.ref sb,.ref u2])++[.ref t9,.ref te]))=h_tg at A ⊢;have SS:=(sH.trans (dl b9)).trans (di A.same);have pxF:=PairsIn.mono (Tups.of SS) hpx;have pyF:=PairsIn.mono (Tups.of SS) hpy;have lX:=qZ (v:=.ref ax) ⟨ax,us,rfl,A.at 35 rfl,pxF⟩ gp m9;have lY:=qZ (v:=.ref ay) ⟨ay,vs,rfl,A.at 34 rfl,pyF⟩ gq m9;have oX:=lX.2.1;have oY:=lY.2.1;have zX:=lX.2.2.1;have zY:=lY.2.2.1;have pX:=lX.2.2.2;have pY:=lY.2.2.2;refine q tg _ _ ((g1.trans b9).trans (But.of A.same)) ((w9.keep A.same (aaC _)).more (by rw [lod];lia)) ntg (A.up 0 rfl) (by rw [aal,aal,lf,lod];show 2 * 22+17+2≤200;decide) (fun y hy=>Gq.mono (oQ (w:=wl)) ?_);rcases aap.mp hy with hy|hy
    · rcases aap.mp hy with hy|hy
      · exact (gf y hy).mono (di A.same)
      simp only [abf,abP,aao,aaM,or_false] at hy;rcases hy with rfl|rfl|rfl|rfl|rfl|rfl|rfl|rfl|rfl|rfl|rfl|rfl|rfl|rfl|rfl|rfl|rfl
      · exact qx rfl
      · exact qy _ (by decide) rfl
      · exact uE _ rfl
      · exact cW _ (by decide +kernel) rfl
      · exact cW _ (by decide +kernel) rfl
      · exact dX (A.at 32 rfl) o8 (by simp only [OkAll]) (by simp [szAll]) (by simp [aag]) rfl
      · exact iu (A.at 31 rfl) o8 (by simp only [OkAll]) (by simp [szAll]) (by simp [aag]) rfl
      · exact nB (A.at 30 rfl) rfl
      · exact iu (ds:=[sD ps]) (A.at 29 rfl) (by simp only [DatAll];exact ⟨_,_,rfl,lX.1,rfl⟩) (by simp only [OkAll];exact ⟨oX,trivial⟩) (by simp only [szAll];lia) (by simp only [aag];lia) rfl
      · exact iu (ds:=[sD ps,sD qs,.list []]) (A.at 27 rfl) (by simp only [DatAll];exact ⟨_,_,rfl,lX.1,_,_,rfl,lY.1,_,_,rfl,(qp (A.at 28 rfl)).1,rfl⟩) (by simp only [OkAll];exact ⟨oX,oY,by simp only [OkD,OkAll],trivial⟩) (by simp only [szAll,szD];lia) (by simp only [aag,aaj];lia) rfl
      · exact dX (ds:=[sD ps,sD qs]) (A.at 26 rfl) (by simp only [DatAll];exact ⟨_,_,rfl,lX.1,_,_,rfl,lY.1,rfl⟩) (by simp only [OkAll];exact ⟨oX,oY,trivial⟩) (by simp only [szAll];lia) (by simp only [aag];lia) rfl
      · exact fk (A.at 25 rfl) lX uu (vN rfl)
      · exact fk (A.at 22 rfl) (uo (A.at 23 rfl) (PairsIn.dat pxF) gp m9) lY (vP rfl)
      · exact fk (A.at 20 rfl) lX (uo (A.at 21 rfl) (PairsIn.dat pyF) gq m9) (vN rfl)
      · exact fk (A.at 19 rfl) uu lY (vP rfl)
      · exact fk (A.at 16 rfl) (q_ (A.at 18 rfl)) (q_ (A.at 17 rfl)) rfl
      · exact fk (A.at 15 rfl) uq uq rfl
    simp only [aao,aaM,or_false] at hy;rcases hy with rfl|rfl
    · exact fk (A.at 7 rfl) (wj (A.at 9 rfl) (A.at 11 rfl)) (qp (A.at 8 rfl)) (vP wd)
    · exact fk (A.at 2 rfl) (qp (A.at 6 rfl)) (wj (A.at 3 rfl) (A.at 5 rfl)) (vN wd)
end
open PySem L2
theorem vO {w T:Addr} {H:Hp} {ps qs:List (Int × Int)} {v:V} (hT:LT T H) (h:HdIn (off w H) ps qs v):HdIn (cz w T H) ps qs v:=by
  obtain ⟨tp,hT⟩:=hT;have key:∀ c o,off w H c=some o→(∀ z,o≠.tbl z)→cz w T H c=some o:=fun c o e n=>by
    have : c≠T:=fun z=>by
      have e':=off_le _ _ e;rw [z,hT.tab] at e';exact n _ (aa1 e').symm
    unfold cz;rw [a9 this];exact e
  have tt:Tups (off w H) (cz w T H):=fun c xs e=>key c _ e (fun _ z=>nomatch z);obtain ⟨a,x,y,rfl,ea,⟨ax,us,rfl,eax,hpx⟩,⟨ay,vs,rfl,eay,hpy⟩⟩:=h;exact ⟨a,_,_,rfl,key _ _ ea (fun _ z=>nomatch z),⟨ax,us,rfl,key _ _ eax (fun _ z=>nomatch z),PairsIn.mono tt hpx⟩,⟨ay,vs,rfl,key _ _ eay (fun _ z=>nomatch z),PairsIn.mono tt hpy⟩⟩
def hD (ps qs:List (Int × Int)):PyData:=.tuple [sD ps,sD qs]
theorem HdIn.dat {H:Hp} {ps qs:List (Int × Int)} {v:V} (h:HdIn H ps qs v):Dat H (hD ps qs) v:=by
  obtain ⟨a,x,y,rfl,ha,hx,hy⟩:=h;simp only [hD,Dat,DatAll];exact ⟨a,_,rfl,ha,_,_,rfl,hx.dat,_,_,rfl,hy.dat,rfl⟩
theorem v6 {m:Int} {ps:List (Int × Int)} (h:Gs m ps):cb m (sD ps)=true:=by
  show (decide ((ps.map pD).length≤40) && (ps.map pD).all (bh m))=true;rw [aak,decide_eq_true h.1,acl,List.all_map];exact List.all_eq_true.mpr fun p hp=>decide_eq_true (h.2 p hp)
theorem wm {m:Int} {ps qs:List (Int × Int)} (h:Gs m ps) (k:Gs m qs):bW m (hD ps qs)=true:=by
  show (cb m (sD ps) && cb m (sD qs))=true;rw [v6 h,v6 k];rfl
theorem x8 {m:Int} {ps qs:List (Int × Int)} (g1:Gs m ps) (g2:Gs m qs) (m9:m≤9):PrD (hD ps qs):=by
  have a1:=jQ ps;have a2:=jQ qs;have b1:=kW ps;have b2:=kW qs;have c1:=g1.1;have c2:=g2.1;refine j5 ?_ ?_ ?_
  · simp only [hD,OkD,OkAll,sD];exact ⟨kg m9 g1.2,kg m9 g2.2,trivial⟩
  · simp only [hD,szD,szAll,sD];lia
  · simp only [hD,aaj,aag,sD];lia
theorem se {w z:Addr} {H H':Hp} (b:But z H H'):Same (cz w z H) (cz w z H'):=fun c o h=>by
  have n:=iM h;rw [dw n.1 n.2] at h;rw [dw n.1 n.2];exact b c o n.2 h
structure Zs (wl T:Addr) (A H:Hp):Prop where
  s:Same (cz wl T A) (cz wl T H)
  t:LT T H
theorem Zs.butT {wl T:Addr} {A H H':Hp} (z:Zs wl T A H) (b:But T H H') (t:LT T H'):Zs wl T A H':=⟨z.s.trans (se b),t⟩
theorem Zs.same {wl T:Addr} {A H H':Hp} (z:Zs wl T A H) (s:Same H H'):Zs wl T A H':=⟨z.s.trans (di s),z.t.mono s⟩
theorem Wel.keepT {T wl:Addr} {H H':Hp} {M:Int} (h:Wel H wl M) (n:T≠wl) (b:But T H H'):Wel H' wl M:=by
  obtain ⟨x,y,e,h⟩:=h;exact ⟨x,y,b _ _ (abC n) e,h⟩
theorem Zs.at {wl T:Addr} {A H:Hp} {c:Addr} {o:HO} (z:Zs wl T A H) (h:cz wl T A c=some o):H c=some o:=fY _ _ (z.s _ _ h)
theorem LT.well {T wl:Addr} {M:Int} {H H':Hp} (h:LT T H) (w:Wel H wl M) (b:But wl H H'):LT T H':=by
  obtain ⟨x,y,e,_⟩:=w;obtain ⟨tp,h⟩:=h;refine ⟨tp,b _ _ (fun q=>by have z:=h.tab;rw [q,e] at z;cases z) h.tab,h.tri,fun pos' cv hc=>?_⟩;obtain ⟨d,e1,e2⟩:=h.cds pos' cv hc;exact ⟨d,e1,b _ _ (fun q=>by rw [q,e] at e2;cases e2) e2⟩
theorem Zs.butW {wl T:Addr} {A H H':Hp} {M:Int} (z:Zs wl T A H) (w:Wel H wl M) (b:But wl H H'):Zs wl T A H':=⟨z.s.trans (dl b),z.t.well w b⟩
theorem uS (ns:List Int) (lo hi:Option Int):∃ ms:List Int,fm (ns.map V.int) lo hi=ms.map V.int∧ms.length≤ns.length:=by
  refine ⟨(ns.drop (HT.sIx ns.length 0 lo)).take (HT.sIx ns.length ns.length hi - HT.sIx ns.length 0 lo),?_,?_⟩
  · unfold fm;rw [aak,aco,acn]
  · rw [aaz,aba];lia
theorem gM (n:Nat):(aaQ n).all (fun _=>true)=true:=by simp
theorem kU {K:aaa} {H:Hp}:∀ (j:Nat) x y,([]:List V)[j]?=some x→([]:List V)[j]?=some y→EqR K H 0 x y true:=fun j x y hx _=>by simp at hx
theorem jx:∀ {a b:List Int},a.map V.int=b.map V.int→a=b
  | [],[],_=>rfl
  | [],_ :: _,h=>by simp at h
  | _ :: _,[],h=>by simp at h
  | x :: a,y :: b,h=>by
    simp only [aaH,List.cons.injEq,V.int.injEq] at h;rw [h.1,jx h.2]
theorem pO:∀ gs:List Sg,gs.length≤3→dm gs→gs=[.plus]∨gs=[.minus]∨gs=[.times]∨gs=[.plus,.minus]∨gs=[.plus,.times]∨gs=[.minus,.times]∨gs=[.plus,.minus,.times]
  | [],_,h=>absurd h (by unfold dm;decide +kernel)
  | [a],_,_=>by cases a <;> simp
  | [a,b],_,h=>by
    cases a <;> cases b <;> first|decide|exact absurd h (by unfold dm;decide +kernel)
  | [a,b,c],_,h=>by
    cases a <;> cases b <;> cases c <;> first|decide|exact absurd h (by unfold dm;decide +kernel)
  | _ :: _ :: _ :: _ :: _,h,_=>by simp at h
theorem wT {gs:List Sg} (g3:gs.length≤3) (sp:dm gs):PrD (.str (aC gs)):=by
  refine j5 ?_ (by simp [szD]) (by simp [aaj]);simp only [OkD];rcases pO gs g3 sp with rfl|rfl|rfl|rfl|rfl|rfl|rfl <;> decide +kernel
theorem wU {ns:List Int} (sm:Small ns) (h:ns.length≤9):PrD (.list (ns.map PyData.int)):=j5 (by simp only [OkD];exact cq sm) (by simp only [szD,cM];lia) (by simp only [aaj,cO];lia)
theorem ue {b:Bool} (h:(!b)=true):b=false:=by cases b <;> simp_all
theorem wN {gs:List Sg} (h:dm gs):cE (.str (aC gs))=true:=h
theorem vm {ns:List Int} (h1:1≤ns.length) (h9:ns.length≤9):bt (.list (ns.map PyData.int))=true:=by
  show (decide (1≤(ns.map PyData.int).length) && decide ((ns.map PyData.int).length≤9) && (ns.map PyData.int).all bH)=true;have : (ns.map PyData.int).all bH=true:=by
    rw [List.all_map,aa4];exact fun _ _=>rfl
  rw [this,aak,decide_eq_true h1,decide_eq_true h9];rfl
theorem uc {wl pf p:Addr} {H:Hp} {o:HO} (h1:p≠wl) (h2:p≠pf):cz wl pf (upd H p o) p=some o:=by
  unfold cz;rw [a9 h2,a9 h1,ae]
theorem ua {wl pf:Addr} {H:Hp} {o:HO}:Same (cz wl pf H) (cz wl pf (upd H pf o)):=qX fun b u ne h=>by
  by_cases c:b=wl
  · subst c;have : off b H b=none:=by simp [off]
    rw [this] at h;cases h
  · rw [a9 c] at h ⊢;rw [aw ne];exact h
theorem j9 {H:Hp}:∀ {ps:List (Int × Int)} {us:List V} (n:Nat),PairsIn H ps us→PairsIn H (ps.take n) (us.take n)
  | _,_,0,_=>by simpa using (Paired.nil:PairsIn H [] [])
  | _,_,n+1,.nil=>by simpa using (Paired.nil:PairsIn H [] [])
  | _,_,n+1,.cons a b=>by
    rw [abV,abV];exact .cons a (j9 n b)
theorem PairsIn.but {w:Addr} {H H':Hp} {M:Int} {ps:List (Int × Int)} {us:List V} (hw:Wel H w M) (b:But w H H') (h:PairsIn H ps us):PairsIn H' ps us:=PairsIn.mono (hw.tups b) h
theorem yZ {a b c d:Int} {k:Int} (h0:0≤k) (h1:k < 4) (P:Int→Prop) (pa:P a) (pb:P b) (pc:P c) (pd:P d):∃ z,atI [V.int a,.int b,.int c,.int d] k=some (.int z)∧P z:=by
  have : k=0∨k=1∨k=2∨k=3:=by lia
  rcases this with rfl|rfl|rfl|rfl
  · exact ⟨a,rfl,pa⟩
  · exact ⟨b,rfl,pb⟩
  · exact ⟨c,rfl,pc⟩
  · exact ⟨d,rfl,pd⟩
theorem vZ {n:Int} {ps:List (Int × Int)} {p:Int × Int} (h:∀ q∈ps,Gp n q) (g:Gp n p):∀ q∈ps++[p],Gp n q:=fun q hq=>by
  rcases aap.mp hq with hq|hq
  · exact h q hq
  · rw [aam.mp hq];exact g
section
variable {P:Program} {w:World} {K:aaa} {mg:Str→Option Value} {base:Heap} {f:Addr} {fd:FuncData}
def tm:Sp:=fun vs H Q _=>∃ (w:Addr) (n M:Int),vs=[.ref w,.int n]∧2≤n∧n≤9∧Wel H w M∧M < 999990000∧∀ p v H',But w H H'→Wel H' w (M+2)→Gp n p→PairIn H' p v→Q v H'
abbrev eE:Stmt:=top 62
theorem gn:FnScope ["well","many","i"] ["well","many"] (aj eE):=⟨rfl,rfl,rfl,by decide +kernel,rfl,by decide +kernel,by decide +kernel⟩
theorem qh (F:Fun K "_law_stretch" "_law_stretch" eE f fd) (C__law_draw:Cal P w K mg base "_law_draw" 2 ["well","many"] fI):FnOk P w K mg base CX0 3 f fd ["well","many"] tm:=by
  refine F.ok gn (fun vs H Q E h=>?_) (fun cdv A outer s H vs Q E hr h=>?_)
  · obtain ⟨x,n,M,rfl,_⟩:=h;rfl
  obtain ⟨wl,n,M,rfl,n2,n9,hw,hM,q⟩:=h;refine ⟨_,(@ag _ _ _ _ _ (@aD _ _ (2) _ _ _ _ (gn).nd rfl (Or.inl rfl) (@al _ _ _ _ _ _ _ _ _ _ _ C__law_draw hr (by lia) rfl (@aa _ _ _ _ _ (pv 0) (@aa _ _ _ _ _ (@aq _ _ _ _ _ _ _ _ bX (pv 1) af) ac (by rfl)) (by rfl)) (by decide) (by rfl) (by rfl)) (by rfl) (by first|exact .inl rfl|exact .inr rfl|assumption)) (@ai _ _ _ (@az _ _ _ _ (@aB _ _ _ _ _ (@aa _ _ _ _ _ (pv 2) (@aa _ _ _ _ _ (@aq _ _ _ _ _ _ _ _ cy (@aq _ _ _ _ _ _ _ _ cy (pv 2) af) (@al _ _ _ _ _ _ _ _ _ _ _ C__law_draw hr (by lia) rfl (@aa _ _ _ _ _ (pv 0) (@aa _ _ _ _ _ (@aq _ _ _ _ _ _ _ _ bX (@aq _ _ _ _ _ _ _ _ bX (pv 1) af) (pv 2)) ac (by rfl)) (by rfl)) (by decide) (by rfl) (by rfl))) ac (by rfl)) (by rfl)))))),?_⟩;refine ⟨_,rfl,_,rfl,_,_,rfl,rfl,wl,n - 1,M,rfl,by lia,by lia,hw,by lia,fun r1 H1 a1 b1 k1 w1=>?_⟩;refine ⟨_,rfl,_,rfl,_,_,rfl,rfl,_,rfl,_,rfl,_,_,rfl,rfl,_,rfl,_,_,rfl,rfl,wl,n - 1 - r1,_,rfl,by lia,by lia,w1,by lia,fun r2 H2 a2 b2 k2 w2=>⟨_,_,rfl,rfl,(by show 2≤sizeLine;decide),fun t ht=>?_⟩⟩;exact q (r1,r1+1+r2) _ _ ((k1.trans k2).trans (But.new ht _)) ((w2.keep (Same.new ht _) (aaC _)).more (by lia)) ⟨a1,by show r1 < r1+1+r2;lia,by show r1+1+r2 < n;lia⟩ ⟨t,rfl,ae⟩
def mM:Sp:=fun vs H Q _=>∃ (w:Addr) (n M:Int),vs=[.ref w,.int n]∧1≤n∧n≤9∧Wel H w M∧M < 999900000∧∀ ps qs v H',But w H H'→Wel H' w (M+1000)→ps.length≤7→qs.length≤7→(∀ p∈ps,Gp n p)→(∀ p∈qs,Gp n p)→HdIn (off w H') ps qs v→Q v H'
abbrev fT:Stmt:=top 63
theorem cY:FnScope ["well","many","found","k","some"] ["well","many"] (aj fT):=⟨rfl,rfl,rfl,by decide +kernel,rfl,by decide +kernel,by decide +kernel⟩
theorem m_ (F:Fun K "_law_holds" "_law_holds" fT f fd) (B:Bu K mg) (C__law_draw:Cal P w K mg base "_law_draw" 2 ["well","many"] fI) (C__law_stretch:Cal P w K mg base "_law_stretch" 3 ["well","many"] tm):FnOk P w K mg base CX0 4 f fd ["well","many"] mM:=by
  refine F.ok cY (fun vs H Q E h=>?_) (fun cdv A outer s H vs Q E hr h=>?_)
  · obtain ⟨x,n,M,rfl,_⟩:=h;rfl
  obtain ⟨wl,n,M,rfl,n1,n9,hw,hM,q⟩:=h;refine ⟨_,(@ag _ _ _ _ _ (@aD _ _ (2) _ _ _ _ (cY).nd rfl (Or.inl rfl) (@au _ _ _ _ ac) (by rfl) (by first|exact .inl rfl|exact .inr rfl|assumption)) (@ag _ _ _ _ _ (@dg _ _ _ _ _ _ _ _ aaS rfl (@cU _ _ _ _ _ _ rfl B.irange (@aa _ _ _ _ _ af ac (by rfl)) (by rfl)) (@ao _ _ (3) _ (cY).nd rfl (Or.inl rfl) (.inl rfl)) (@ag _ _ _ _ _ (@aD _ _ (4) _ _ _ _ (cY).nd rfl (Or.inl rfl) (@au _ _ _ _ ac) (by rfl) (by first|exact .inl rfl|exact .inr rfl|assumption)) (@qP _ _ _ _ _ (@bV _ _ _ _ _ _ _ _ (@aJ _ _ _ _ _ _ _ _ qV (pv 1) af (aX _)) (@ai _ _ _ (@qQ _ (4) _ _ _ _ _ _ _ _ _ _ (["turn","well","many"]) ([none,some 0,some 1]) _ _ _ _ (cY).nd rfl (Or.inl rfl) rfl (@cU _ _ _ _ _ _ rfl B.irange (@aa _ _ _ _ _ (@aY _ _ _ _ _ _ _ bc (@au _ _ _ _ (@aa _ _ _ _ _ af (@aa _ _ _ _ _ af (@aa _ _ _ _ _ af (@aa _ _ _ _ _ (@al _ _ _ _ _ _ _ _ _ _ _ C__law_draw hr (by lia) rfl (@aa _ _ _ _ _ (pv 0) (@aa _ _ _ _ _ af ac (by rfl)) (by rfl)) (by decide) (by rfl) (by rfl)) ac (by rfl)) (by rfl)) (by rfl)) (by rfl))) (@al _ _ _ _ _ _ _ _ _ _ _ C__law_draw hr (by lia) rfl (@aa _ _ _ _ _ (pv 0) (@aa _ _ _ _ _ af ac (by rfl)) (by rfl)) (by decide) (by rfl) (by rfl)) (fun _ _=>rfl)) ac (by rfl)) (by rfl)) rfl ⟨rfl,⟨rfl,trivial⟩⟩ ⟨⟨rfl,Or.inl rfl,Or.inl rfl⟩,⟨⟨rfl,Or.inl rfl,Or.inl rfl⟩,trivial⟩⟩ (fun _ _ _ _=>⟨(@ao _ _ (0) _ (show aaP (["turn","well","many"]:List Str) by decide +kernel) rfl (Or.inl rfl) (.inr rfl)),bZ,(@al _ _ _ _ _ _ _ _ _ _ _ C__law_stretch hr (by lia) rfl (@aa _ _ _ _ _ (pv 1) (@aa _ _ _ _ _ (pv 2) ac (by rfl)) (by rfl)) (by decide) (by rfl) (by rfl))⟩) (by rfl) (by rfl) (by rfl) (by rfl) (by intro _;rfl) (by rfl) (by first|exact .inl rfl|exact .inr rfl|assumption))) a6) (@ai _ _ _ (@cT _ _ _ _ (@ju _ _ _ _ _ _ _ _ _ _ _ _ aa3 abi abj dZ (pv 2) (@aa _ _ _ _ _ (@aq _ _ _ _ _ _ _ _ bT (pv 4) (@cZ _ _ _ _ _ _ _ _ _ _ dS (pv 4) dv (@du _ _ _ (@fB _ _ _ _ _ _ _ _ _ my rfl B.iint aci (@aa _ _ _ _ _ (@jL _ _ _ _ _ _ _ _ eU (@al _ _ _ _ _ _ _ _ _ _ _ C__law_draw hr (by lia) rfl (@aa _ _ _ _ _ (pv 0) (@aa _ _ _ _ _ af ac (by rfl)) (by rfl)) (by decide) (by rfl) (by rfl)) af (aX _)) ac (by rfl)) (by decide) (by decide) (by rfl) (by rfl))))) ac (by rfl)) (by rfl) (by rfl) (by rfl) (by rfl) (by rfl)) (by rfl))))) (by intro _;rfl)) (@ai _ _ _ (@az _ _ _ _ (@aB _ _ _ _ _ (@aa _ _ _ _ _ (@aY _ _ _ _ _ _ _ bc (pv 2) af (fun _ _=>rfl)) (@aa _ _ _ _ _ (@aY _ _ _ _ _ _ _ bc (pv 2) af (fun _ _=>rfl)) ac (by rfl)) (by rfl))))))),?_⟩;refine ⟨aaO _,fun pf nf=>?_⟩;have nfw:=hw.ne nf;refine ⟨2,rfl,by decide,by decide,jp (n:=2) (fun k σ H'=>∃ (l:List (List (Int × Int))) (us:List V) (c4 c5:Option V),σ=[some (.ref wl),some (.int n),some (.ref pf),c4,c5]∧H' pf=some (.lst us)∧l.length=k∧Paired (fun ps v=>(ps.length≤7∧∀ p∈ps,Gp n p)∧StIn (cz wl pf H') ps v) l us∧But wl H H'∧Wel H' wl (M+100 * k)) ⟨[],[],_,_,rfl,ae,rfl,.nil,But.new nf _,(hw.keep (Same.new nf _) (aaC _)).more (by lia)⟩ ?_ ?_⟩
  · rintro k σ K0 hk ⟨l,us,c4,c5,rfl,ef,hl,hp,bb,w0⟩;refine ⟨aaO _,fun ps0 ns0=>?_⟩;have nps0:=w0.ne ns0;have nps0f:ps0≠pf:=fun e=>by rw [e,ef] at ns0;cases ns0
    have w1:=w0.keep (Same.new ns0 (.lst [])) (aaC _);have b1:But wl K0 (upd K0 ps0 (.lst [])):=But.new ns0 _;have e1:upd K0 ps0 (.lst []) ps0=some (.lst []):=ae;generalize upd K0 ps0 (.lst [])=K1 at w1 b1 e1 ⊢;refine ⟨fun σ K6=>∃ (p6:Addr) (ys:List V) (ps:List (Int × Int)),σ=[some (.ref wl),some (.int n),some (.ref pf),some (.int (0+(k:Int))),some (.ref p6)]∧K6 p6=some (.lst ys)∧PairsIn K6 ps ys∧ps.length≤6∧(∀ p∈ps,Gp n p)∧But wl K0 K6∧Wel K6 wl (M+100 * k+20)∧p6≠wl,?_,?_⟩
    · by_cases cn:n=1
      · subst cn;exact ⟨_,rfl,_,_,rfl,rfl,false,rfl,aV ⟨ps0,[],[],rfl,e1,.nil,by decide,(fun p z=>by simp at z),b1,w1.more (by lia),nps0⟩⟩
      · refine ⟨_,rfl,_,_,rfl,rfl,true,congrArg V.bl (decide_eq_true (by lia)),cD ?_⟩;refine ⟨_,rfl,wl,7,_,rfl,by decide,by decide,w1,by lia,fun r1 K2 a1 c1 b2 w2=>⟨(by show 4≤sizeLine;decide),fun p3 n3=>?_⟩⟩;have n3w:=w2.ne n3;have w3:=w2.keep (Same.new n3 (.lst [.int 0,.int 1,.int 2,.int r1])) (aaC _);have b3:But wl K2 (upd K2 p3 (.lst [.int 0,.int 1,.int 2,.int r1])):=But.new n3 _;have e3:upd K2 p3 (.lst [.int 0,.int 1,.int 2,.int r1]) p3=some (.lst [.int 0,.int 1,.int 2,.int r1]):=ae;generalize upd K2 p3 (.lst [.int 0,.int 1,.int 2,.int r1])=K3 at w3 b3 e3 ⊢;refine ⟨_,rfl,wl,4,_,rfl,by decide,by decide,w3,by lia,fun r2 K4 a2 c2 b4 w4=>?_⟩;obtain ⟨m,hm1,hm2,hm3⟩:=yZ (a:=0) (b:=1) (c:=2) (d:=r1) a2 c2 (fun z=>0≤z∧z≤6) (by lia) (by lia) (by lia) (by lia);refine ⟨p3,_,_,_,rfl,rfl,SqL.of (b4 _ _ n3w e3),hm1,m,rfl,by lia,by lia,?_⟩;refine eV (Trn.range (lo:=0) (n:=m.toNat)) (fun i ys H'=>But wl K4 H'∧Wel H' wl (M+100 * k+2+2 * i)∧∃ ps,ps.length=i∧(∀ p∈ps,Gp n p)∧PairsIn H' ps ys) ⟨But.refl,w4.more (by lia),[],rfl,(fun p z=>by simp at z),.nil⟩ (fun i ys H' hi p=>by obtain ⟨_,_,ps,h1,_,h2⟩:=p;exact ⟨trivial,aU (by have:=h2.length;lia)⟩) (fun i x ys H0 H' hi hx p Nx nx=>?_) (fun ys K5 p p6 n6=>?_)
        · obtain ⟨rfl,rfl⟩:=hx;obtain ⟨bx,wx,ps,h1,h2,h3⟩:=p;refine ⟨_,rfl,_,rfl,wl,n,_,rfl,by lia,n9,wx,by lia,fun p v H5 b5 w5 gp pp=>nx _ _ ⟨bx.trans b5,w5.more (by lia),ps++[p],by simp [h1],vZ h2 gp,PairsIn.snoc (PairsIn.but wx b5 h3) pp⟩⟩
        obtain ⟨b5,w5,ps,h1,h2,h3⟩:=p;have n6w:=w5.ne n6;have s6:=Same.new n6 (.lst ys);exact ⟨p6,ys,ps,rfl,ae,PairsIn.mono (Tups.of s6) h3,by lia,h2,((((b1.trans b2).trans b3).trans b4).trans b5).trans (But.of s6),(w5.keep s6 (aaC _)).more (by lia),n6w⟩
    rintro σ K6 ⟨p6,ys,ps,rfl,e6,h6,l6,h2,B6,w6,n6w⟩;have ef6:=B6 _ _ nfw ef;refine ⟨_,rfl,.inl ⟨rfl,_,SqL.of ef6⟩,_,rfl,_,rfl,_,rfl,wl,4,_,rfl,by decide,by decide,w6,by lia,fun r7 K7 a7 c7 b7 w7=>?_⟩;refine ⟨rfl,.inr ⟨_,rfl,_,rfl,p6,_,rfl,SqL.of (b7 _ _ n6w e6),fun p8 n8=>?_⟩⟩;have ec:∃ c:Nat,c≤1∧(if decide (V.int r7=V.int 0)=true then (1:Int) else 0)=(c:Int):=by
      split
      · exact ⟨1,aae _,rfl⟩
      · exact ⟨0,by decide,rfl⟩
    obtain ⟨c,hc1,hc2⟩:=ec;rw [hc2,kY];have h7:=PairsIn.but w6 b7 h6;have lys:=h6.length;have b8:But wl K7 (upd K7 p8 (.lst (ys.take c))):=But.new n8 _;have w8:=w7.keep (Same.new n8 (.lst (ys.take c))) (aaC _);have e8:upd K7 p8 (.lst (ys.take c)) p8=some (.lst (ys.take c)):=ae;have h8:=PairsIn.mono (Tups.of (Same.new n8 (.lst (ys.take c)))) h7;generalize upd K7 p8 (.lst (ys.take c))=K8 at b8 w8 e8 h8 ⊢;refine ⟨p6,p8,_,_,rfl,rfl,(b7.trans b8) _ _ n6w e6,e8,bj (by rw [aaz];lia),fun p9 n9'=>?_⟩;have n9w:=w8.ne n9';have ef8:=((B6.trans b7).trans b8) _ _ nfw ef;have npf9:p9≠pf:=fun e=>by rw [e,ef8] at n9';cases n9'
    have b9:But wl K8 (upd K8 p9 (.lst (ys++ys.take c))):=But.new n9' _;have w9:=w8.keep (Same.new n9' (.lst (ys++ys.take c))) (aaC _);have e9:cz wl pf (upd K8 p9 (.lst (ys++ys.take c))) p9=some (.lst (ys++ys.take c)):=uc n9w npf9;have h9:=PairsIn.mono (Tups.of (Same.new n9' (.lst (ys++ys.take c)))) (PairsIn.app h8 (j9 c h8));generalize upd K8 p9 (.lst (ys++ys.take c))=K9 at b9 w9 e9 h9 ⊢;have B9:=((B6.trans b7).trans b8).trans b9;have ef9:=B9 _ _ nfw ef;have lus:=hp.length;have T9:∀ c xs,K9 c=some (.tup xs)→cz wl pf K9 c=some (.tup xs):=fun c xs hc=>by
      unfold cz;rw [a9 (fun e=>by rw [e,ef9] at hc;cases hc),a9 (fun e=>by obtain ⟨_,_,z,_⟩:=w9;rw [e,z] at hc;cases hc)];exact hc
    refine ⟨pf,_,_,rfl,rfl,ef9,aU (by lia),?_⟩;have o9:Same (cz wl pf K9) (cz wl pf (upd K9 pf (.lst (us++[.ref p9])))):=ua;refine ⟨l++[ps++ps.take c],us++[.ref p9],_,_,rfl,ae,by simp [hl],?_,?_,?_⟩
    · refine Paired.app (Paired.mapP hp fun a b h=>⟨h.1,h.2.mono ((dl B9).trans o9)⟩) (.cons ⟨⟨by rw [aal,aaz];lia,fun x hx=>?_⟩,StIn.mono o9 ⟨p9,_,rfl,e9,PairsIn.mono T9 h9⟩⟩ .nil);rcases aap.mp hx with hx|hx
      · exact h2 x hx
      · exact h2 x (abD hx)
    · exact fun c o nc hc=>by
        by_cases z:c=pf
        · subst z;rw [nf] at hc;cases hc
        · rw [aw z];exact (bb.trans B9) c o nc hc
    · have:=w9.more (M':=M+100 * ((k+1:Nat):Int)) (by lia);obtain ⟨wa,wb,we,wf,wg⟩:=this;exact ⟨wa,wb,by rw [aw (abC nfw)];exact we,wf,wg⟩
  · rintro σ K1 ⟨l,us,c4,c5,rfl,ef,hl,hp,bb,w1⟩
    match l,us,hl,hp with
    | [ps,qs],[x,y],_,.cons ⟨g1,h1⟩ (.cons ⟨g2,h2⟩ .nil) =>
      refine ⟨_,rfl,pf,_,_,_,rfl,rfl,SqL.of ef,rfl,_,rfl,pf,_,_,_,rfl,rfl,SqL.of ef,rfl,(by show 2≤sizeLine;decide),fun t ht=>?_⟩;have st:=Same.new ht (.tup [x,y]);have tw:=w1.ne ht;have S:Same (cz wl pf K1) (off wl (upd K1 t (.tup [x,y]))):=off_le.trans (qX (But.of st));refine q ps qs (.ref t) _ (bb.trans (But.new ht _)) ((w1.keep st (aaC _)).more (by lia)) g1.1 g2.1 g1.2 g2.2 ⟨t,x,y,rfl,?_,h1.mono S,h2.mono S⟩;rw [a9 tw,ae]
open PySem L2
def OddN (H:Hp) (y:V):Prop:=∃ e,Dat H e y∧df e=false
theorem OddN.mono {H H':Hp} {y:V} (g:Same H H') (h:OddN H y):OddN H' y:=by obtain ⟨e,a,b⟩:=h;exact ⟨e,Dat.mono g e y a,b⟩
theorem ym {m:Int} (h:1 < m):bW m (.tuple [.list (aaf 40 (.tuple [.int 0,.int 1])),.list (aaf 40 (.tuple [.int (m - 2),.int (m - 1)]))])=true:=by
  have key:∀ d,bh m d=true→cb m (.list (aaf 40 d))=true:=fun d hd=>by
    show (decide ((aaf 40 d).length≤40) && (aaf 40 d).all (bh m))=true;rw [abO,List.all_eq_true.mpr (fun y hy=>by rw [abY hy];exact hd)];rfl
  show (cb m _ && cb m _)=true;rw [key (.tuple [.int 0,.int 1]) (show decide ((0:Int)≤0∧(0:Int) < 1∧(1:Int) < m)=true from decide_eq_true ⟨by decide,by decide,h⟩),key (.tuple [.int (m - 2),.int (m - 1)]) (show decide (0≤m - 2∧m - 2 < m - 1∧m - 1 < m)=true from decide_eq_true ⟨by lia,by lia,by lia⟩)];rfl
def qN (K:aaa) (T:Addr):Sp:=fun vs H Q _=>∃ (a:Addr) (ns:List Int),vs=[.ref a]∧SqL K H a (ns.map V.int)∧ns.length≤63∧LT T H∧∀ H',Q (.bl true) H'
abbrev iB:Stmt:=top 67
theorem cV:FnScope ["script","odd_numbers","cell","well","row","many","signs","holds","thing","kept","number","other","some"] ["script"] (aj iB):=⟨rfl,rfl,rfl,by decide +kernel,rfl,by decide +kernel,by decide +kernel⟩
theorem xg {T:Addr} (F:Fun K "law" "law" iB f fd) (B:Bu K mg) (C__law_well:Cal P w K mg base "_law_well" 1 ["cell"] pP) (C__law_draw:Cal P w K mg base "_law_draw" 2 ["well","many"] fI) (C__law_row:Cal P w K mg base "_law_row" 3 ["well","many"] tq) (C__law_signs:Cal P w K mg base "_law_signs" 3 ["well"] ia) (C__law_holds:Cal P w K mg base "_law_holds" 4 ["well","many"] mM) (C__law_no_holds:Cal P w K mg base "_law_no_holds" 3 ["well","many","holds"] (pW T)) (C_is_holds:Cal P w K mg base "is_holds" 4 ["thing","many"] fH)
    (C__law_no_rows:Cal P w K mg base "_law_no_rows" 3 ["well","row"] (pV T)) (C__law_no_signs:Cal P w K mg base "_law_no_signs" 1 [] (pU T)) (C__law_said:Cal P w K mg base "_law_said" 15 ["way","row","signs","holds"] (pQ T)):FnOk P w K mg base CX0 16 f fd ["script"] (qN K T):=by
  refine F.ok cV (fun vs H Q E h=>?_) (fun cdv A outer s H vs Q E hr h=>?_)
  · obtain ⟨a,ns,rfl,_⟩:=h;rfl
  obtain ⟨a,ns,rfl,hS,h63,hT,q⟩:=h;refine ⟨_,(@ag _ _ _ _ _ (@aD _ _ (1) _ _ _ _ (cV).nd rfl (Or.inl rfl) (@au _ _ _ _ (@aa _ _ _ _ _ af (@aa _ _ _ _ _ (@ox _ _ _ _ _ _ jP af) (@aa _ _ _ _ _ af (@aa _ _ _ _ _ cw (@aa _ _ _ _ _ bS (@aa _ _ _ _ _ aG (@aa _ _ _ _ _ (@au _ _ _ _ (@aa _ _ _ _ _ af ac (by rfl))) (@aa _ _ _ _ _ (@aB _ _ _ _ _ (@aa _ _ _ _ _ af ac (by rfl))) (@aa _ _ _ _ _ dD (@aa _ _ _ _ _ (@aq _ _ _ _ _ _ _ _ eQ af af) ac (by rfl)) (by rfl)) (by rfl)) (by rfl)) (by rfl)) (by rfl)) (by rfl)) (by rfl)) (by rfl)) (by rfl))) (by rfl) (by first|exact .inl rfl|exact .inr rfl|assumption)) (@ag _ _ _ _ _ (@dg _ _ _ _ _ _ _ _ aaS rfl (@bu _ _ _ _ (@aq _ _ _ _ _ _ _ _ bT (@au _ _ _ _ (@aa _ _ _ _ _ af (@aa _ _ _ _ _ af ac (by rfl)) (by rfl))) (@cZ _ _ _ _ _ _ _ _ _ _ dS (pv 0) dv (@du _ _ _ af)))) (@ao _ _ (2) _ (cV).nd rfl (Or.inl rfl) (.inl rfl)) (@ag _ _ _ _ _ (@aD _ _ (3) _ _ _ _ (cV).nd rfl (Or.inl rfl) (@al _ _ _ _ _ _ _ _ _ _ _ C__law_well hr (by lia) rfl (@aa _ _ _ _ _ (pv 2) ac (by rfl)) (by decide) (by rfl) (by rfl)) (by rfl) (by first|exact .inl rfl|exact .inr rfl|assumption)) (@ag _ _ _ _ _ (@aD _ _ (4) _ _ _ _ (cV).nd rfl (Or.inr rfl) (@al _ _ _ _ _ _ _ _ _ _ _ C__law_row hr (by lia) rfl (@aa _ _ _ _ _ (pv 3) (@aa _ _ _ _ _ (@aq _ _ _ _ _ _ _ _ cy af (@al _ _ _ _ _ _ _ _ _ _ _ C__law_draw hr (by lia) rfl (@aa _ _ _ _ _ (pv 3) (@aa _ _ _ _ _ af ac (by rfl)) (by rfl)) (by decide) (by rfl) (by rfl))) ac (by rfl)) (by rfl)) (by decide) (by rfl) (by rfl)) (by rfl) (by first|exact .inl rfl|exact .inr rfl|assumption)) (@ag _ _ _ _ _ (@aD _ _ (5) _ _ _ _ (cV).nd rfl (Or.inl rfl) (@am _ _ _ _ _ _ _ _ _ aK rfl B.ilen aaL (@aa _ _ _ _ _ (pv 4) ac (by rfl)) (by decide) (by decide) (by rfl) (by rfl)) (by rfl) (by first|exact .inl rfl|exact .inr rfl|assumption)) (@ag _ _ _ _ _ (@aD _ _ (6) _ _ _ _ (cV).nd rfl (Or.inr rfl) (@al _ _ _ _ _ _ _ _ _ _ _ C__law_signs hr (by lia) rfl (@aa _ _ _ _ _ (pv 3) ac (by rfl)) (by decide) (by rfl) (by rfl)) (by rfl) (by first|exact .inl rfl|exact .inr rfl|assumption)) (@ag _ _ _ _ _ (@aD _ _ (7) _ _ _ _ (cV).nd rfl (Or.inr rfl) (@al _ _ _ _ _ _ _ _ _ _ _ C__law_holds hr (by lia) rfl (@aa _ _ _ _ _ (pv 3) (@aa _ _ _ _ _ (pv 5) ac (by rfl)) (by rfl)) (by decide) (by rfl) (by rfl)) (by rfl) (by first|exact .inl rfl|exact .inr rfl|assumption)) (@ag _ _ _ _ _ (@dg _ _ _ _ _ _ _ _ aaS rfl (@bu _ _ _ _ (@al _ _ _ _ _ _ _ _ _ _ _ C__law_no_holds hr (by lia) rfl (@aa _ _ _ _ _ (pv 3) (@aa _ _ _ _ _ (pv 5) (@aa _ _ _ _ _ (pv 7) ac (by rfl)) (by rfl)) (by rfl)) (by decide) (by rfl) (by rfl))) (@ao _ _ (8) _ (cV).nd rfl (Or.inr rfl) (.inl rfl)) (@ag _ _ _ _ _ (@aD _ _ (9) _ _ _ _ (cV).nd rfl (Or.inl rfl) (@am _ _ _ _ _ _ _ _ _ (@gU _ hr.gd hr.units) rfl B.irepr abK (@aa _ _ _ _ _ (pv 8) ac (by rfl)) (by decide) (by decide) (by rfl) (by rfl)) (by rfl) (by first|exact .inl rfl|exact .inr rfl|assumption)) (@ag _ _ _ _ _ (@bV _ _ _ _ _ _ _ _ (@PW.pt _ _ _ (@g_ _ _ _ _ _ _ _ (@aJ _ _ _ _ _ _ _ _ dh (@al _ _ _ _ _ _ _ _ _ _ _ C_is_holds hr (by lia) rfl (@aa _ _ _ _ _ (pv 8) (@aa _ _ _ _ _ (pv 5) ac (by rfl)) (by rfl)) (by decide) (by rfl) (by rfl)) bS (aX _)) (@gE _ _ _ _ (@aJ _ _ _ _ _ _ _ _ jv (@am _ _ _ _ _ _ _ _ _ (@gU _ hr.gd hr.units) rfl B.irepr abK (@aa _ _ _ _ _ (pv 8) ac (by rfl)) (by decide) (by decide) (by rfl) (by rfl)) (pv 9) (aX _))))) (@ai _ _ _ (@az _ _ _ _ bS)) a6) (@ai _ _ _ (@bV _ _ _ _ _ _ _ _ (@aJ _ _ _ _ _ _ _ _ (@mX _ hr.units) (@fA _ _ _ _ _ _ _ _ (["way","row","signs","thing"]) ([none,some 4,some 6,some 8]) _ _ _ _ rfl (@cU _ _ _ _ _ _ rfl B.irange (@aa _ _ _ _ _ af ac (by rfl)) (by rfl)) rfl ⟨rfl,⟨rfl,⟨rfl,trivial⟩⟩⟩ ⟨⟨rfl,Or.inl rfl,Or.inl rfl⟩,⟨⟨rfl,Or.inl rfl,Or.inl rfl⟩,⟨⟨rfl,Or.inl rfl,Or.inl rfl⟩,trivial⟩⟩⟩ (fun _ _ _ _=>⟨(@ao _ _ (0) _ (show aaP (["way","row","signs","thing"]:List Str) by decide +kernel) rfl (Or.inl rfl) (.inr rfl)),(@eJ _ _ _ (@aJ _ _ _ _ _ _ _ _ jv (@al _ _ _ _ _ _ _ _ _ _ _ C__law_said hr (by lia) rfl (@aa _ _ _ _ _ (pv 0) (@aa _ _ _ _ _ (pv 1) (@aa _ _ _ _ _ (pv 2) (@aa _ _ _ _ _ (pv 3) ac (by rfl)) (by rfl)) (by rfl)) (by rfl)) (by decide) (by rfl) (by rfl)) aG (aX _))),(pv 0)⟩) (by rfl) (by rfl) (by rfl) (by rfl) (by intro _;rfl)) (@au _ _ _ _ ac) (aX _)) (@ai _ _ _ (@az _ _ _ _ bS)) a6)))) (by intro _;rfl)) (@ag _ _ _ _ _ (@dg _ _ _ _ _ _ _ _ aaS rfl (@bu _ _ _ _ (pv 1)) (@ao _ _ (10) _ (cV).nd rfl (Or.inl rfl) (.inl rfl)) (@ai _ _ _ (@bV _ _ _ _ _ _ _ _ (@PW.pt _ _ _ (@g_ _ _ _ _ _ _ _ (@aJ _ _ _ _ _ _ _ _ dh (@al _ _ _ _ _ _ _ _ _ _ _ C_is_holds hr (by lia) rfl (@aa _ _ _ _ _ (pv 7) (@aa _ _ _ _ _ (pv 10) ac (by rfl)) (by rfl)) (by decide) (by rfl) (by rfl)) bS (aX _)) (@gE _ _ _ _ (@aJ _ _ _ _ _ _ _ _ dh (@al _ _ _ _ _ _ _ _ _ _ _ C_is_holds hr (by lia) rfl (@aa _ _ _ _ _ (@aB _ _ _ _ _ (@aa _ _ _ _ _ (@au _ _ _ _ ac) (@aa _ _ _ _ _ (@au _ _ _ _ ac) ac (by rfl)) (by rfl))) (@aa _ _ _ _ _ (pv 10) ac (by rfl)) (by rfl)) (by decide) (by rfl) (by rfl)) bS (aX _))))) (@ai _ _ _ (@az _ _ _ _ bS)) a6)) (by intro _;rfl)) (@ag _ _ _ _ _ (@dg _ _ _ _ _ _ _ _ aaS rfl (@bu _ _ _ _ (@al _ _ _ _ _ _ _ _ _ _ _ C__law_no_rows hr (by lia) rfl (@aa _ _ _ _ _ (pv 3) (@aa _ _ _ _ _ (pv 4) ac (by rfl)) (by rfl)) (by decide) (by rfl) (by rfl))) (@ao _ _ (8) _ (cV).nd rfl (Or.inr rfl) (.inl rfl)) (@ai _ _ _ (@dg _ _ _ _ _ _ _ _ aaS rfl (@bu _ _ _ _ (@au _ _ _ _ (@aa _ _ _ _ _ (@aB _ _ _ _ _ (@aa _ _ _ _ _ (pv 6) (@aa _ _ _ _ _ (pv 7) ac (by rfl)) (by rfl))) (@aa _ _ _ _ _ (@aB _ _ _ _ _ (@aa _ _ _ _ _ cw (@aa _ _ _ _ _ cw ac (by rfl)) (by rfl))) (@aa _ _ _ _ _ (@aB _ _ _ _ _ (@aa _ _ _ _ _ aG (@aa _ _ _ _ _ (@aB _ _ _ _ _ (@aa _ _ _ _ _ (@au _ _ _ _ ac) (@aa _ _ _ _ _ (@au _ _ _ _ ac) ac (by rfl)) (by rfl))) ac (by rfl)) (by rfl))) ac (by rfl)) (by rfl)) (by rfl)))) (@eK _ _ _ _ _ _ rfl (@aQ _ _ _ _ _ (@ao _ _ (11) _ (cV).nd rfl (Or.inr rfl) (.inl rfl)) (@aQ _ _ _ _ _ (@ao _ _ (12) _ (cV).nd rfl (Or.inr rfl) (.inl rfl)) cu (by rfl)) (by rfl)) (by rfl) (by rfl)) (@ai _ _ _ (@bV _ _ _ _ _ _ _ _ (@aJ _ _ _ _ _ _ _ _ (@mX _ hr.units) (@fA _ _ _ _ _ _ _ _ (["way","thing","other","some"]) ([none,some 8,some 11,some 12]) _ _ _ _ rfl (@cU _ _ _ _ _ _ rfl B.irange (@aa _ _ _ _ _ af ac (by rfl)) (by rfl)) rfl ⟨rfl,⟨rfl,⟨rfl,trivial⟩⟩⟩ ⟨⟨rfl,Or.inl rfl,Or.inl rfl⟩,⟨⟨rfl,Or.inl rfl,Or.inl rfl⟩,⟨⟨rfl,Or.inl rfl,Or.inl rfl⟩,trivial⟩⟩⟩ (fun _ _ _ _=>⟨(@ao _ _ (0) _ (show aaP (["way","thing","other","some"]:List Str) by decide +kernel) rfl (Or.inl rfl) (.inr rfl)),(@eJ _ _ _ (@aJ _ _ _ _ _ _ _ _ jv (@al _ _ _ _ _ _ _ _ _ _ _ C__law_said hr (by lia) rfl (@aa _ _ _ _ _ (pv 0) (@aa _ _ _ _ _ (pv 1) (@aa _ _ _ _ _ (pv 2) (@aa _ _ _ _ _ (pv 3) ac (by rfl)) (by rfl)) (by rfl)) (by rfl)) (by decide) (by rfl) (by rfl)) aG (aX _))),(pv 0)⟩) (by rfl) (by rfl) (by rfl) (by rfl) (by intro _;rfl)) (@au _ _ _ _ ac) (aX _)) (@ai _ _ _ (@az _ _ _ _ bS)) a6)) (by intro _;rfl))) (by intro _;rfl)) (@ag _ _ _ _ _ (@dg _ _ _ _ _ _ _ _ aaS rfl (@bu _ _ _ _ (vy C__law_no_signs hr (by lia) rfl)) (@ao _ _ (8) _ (cV).nd rfl (Or.inr rfl) (.inl rfl)) (@ai _ _ _ (@dg _ _ _ _ _ _ _ _ aaS rfl (@bu _ _ _ _ (@au _ _ _ _ (@aa _ _ _ _ _ (pv 7) (@aa _ _ _ _ _ cw ac (by rfl)) (by rfl)))) (@ao _ _ (12) _ (cV).nd rfl (Or.inr rfl) (.inl rfl)) (@ai _ _ _ (@bV _ _ _ _ _ _ _ _ (@aJ _ _ _ _ _ _ _ _ (@mX _ hr.units) (@fA _ _ _ _ _ _ _ _ (["way","row","thing","some"]) ([none,some 4,some 8,some 12]) _ _ _ _ rfl (@cU _ _ _ _ _ _ rfl B.irange (@aa _ _ _ _ _ af ac (by rfl)) (by rfl)) rfl ⟨rfl,⟨rfl,⟨rfl,trivial⟩⟩⟩ ⟨⟨rfl,Or.inl rfl,Or.inl rfl⟩,⟨⟨rfl,Or.inl rfl,Or.inl rfl⟩,⟨⟨rfl,Or.inl rfl,Or.inl rfl⟩,trivial⟩⟩⟩ (fun _ _ _ _=>⟨(@ao _ _ (0) _ (show aaP (["way","row","thing","some"]:List Str) by decide +kernel) rfl (Or.inl rfl) (.inr rfl)),(@eJ _ _ _ (@aJ _ _ _ _ _ _ _ _ jv (@al _ _ _ _ _ _ _ _ _ _ _ C__law_said hr (by lia) rfl (@aa _ _ _ _ _ (pv 0) (@aa _ _ _ _ _ (pv 1) (@aa _ _ _ _ _ (pv 2) (@aa _ _ _ _ _ (pv 3) ac (by rfl)) (by rfl)) (by rfl)) (by rfl)) (by decide) (by rfl) (by rfl)) aG (aX _))),(pv 0)⟩) (by rfl) (by rfl) (by rfl) (by rfl) (by intro _;rfl)) (@au _ _ _ _ ac) (aX _)) (@ai _ _ _ (@az _ _ _ _ bS)) a6)) (by intro _;rfl))) (by intro _;rfl)) (@ag _ _ _ _ _ (@bV _ _ _ _ _ _ _ _ (@PW.pt _ _ _ (@g_ _ _ _ _ _ _ _ (@aJ _ _ _ _ _ _ _ _ dh (@al _ _ _ _ _ _ _ _ _ _ _ C_is_holds hr (by lia) rfl (@aa _ _ _ _ _ (pv 7) (@aa _ _ _ _ _ (pv 5) ac (by rfl)) (by rfl)) (by decide) (by rfl) (by rfl)) bS (aX _)) (@gE _ _ _ _ (@aJ _ _ _ _ _ _ _ _ dh (@al _ _ _ _ _ _ _ _ _ _ _ C_is_holds hr (by lia) rfl (@aa _ _ _ _ _ (@aB _ _ _ _ _ (@aa _ _ _ _ _ (@au _ _ _ _ ac) (@aa _ _ _ _ _ (@au _ _ _ _ ac) ac (by rfl)) (by rfl))) (@aa _ _ _ _ _ (pv 5) ac (by rfl)) (by rfl)) (by decide) (by rfl) (by rfl)) bS (aX _))))) (@ai _ _ _ (@az _ _ _ _ bS)) a6) (@ag _ _ _ _ _ (@bV _ _ _ _ _ _ _ _ (@PW.pt _ _ _ (@qe _ _ _ _ _ _ _ (@aJ _ _ _ _ _ _ _ _ qV (pv 5) af (aX _)) (@mV _ _ _ _ (@aJ _ _ _ _ _ _ _ _ dh (@al _ _ _ _ _ _ _ _ _ _ _ C_is_holds hr (by lia) rfl (@aa _ _ _ _ _ (@aB _ _ _ _ _ (@aa _ _ _ _ _ (@aq _ _ _ _ _ _ _ _ je (@au _ _ _ _ (@aa _ _ _ _ _ (@aB _ _ _ _ _ (@aa _ _ _ _ _ af (@aa _ _ _ _ _ af ac (by rfl)) (by rfl))) ac (by rfl))) af) (@aa _ _ _ _ _ (@aq _ _ _ _ _ _ _ _ je (@au _ _ _ _ (@aa _ _ _ _ _ (@aB _ _ _ _ _ (@aa _ _ _ _ _ (@aq _ _ _ _ _ _ _ _ bX (pv 5) af) (@aa _ _ _ _ _ (@aq _ _ _ _ _ _ _ _ bX (pv 5) af) ac (by rfl)) (by rfl))) ac (by rfl))) af) ac (by rfl)) (by rfl))) (@aa _ _ _ _ _ (pv 5) ac (by rfl)) (by rfl)) (by decide) (by rfl) (by rfl)) bS (aX _))))) (@ai _ _ _ (@az _ _ _ _ bS)) a6) (@ai _ _ _ (@bV _ _ _ _ _ _ _ _ (@aJ _ _ _ _ _ _ _ _ (@mX _ hr.units) (@fA _ _ _ _ _ _ _ _ (["way","row","signs","holds"]) ([none,some 4,some 6,some 7]) _ _ _ _ rfl (@cU _ _ _ _ _ _ rfl B.irange (@aa _ _ _ _ _ af ac (by rfl)) (by rfl)) rfl ⟨rfl,⟨rfl,⟨rfl,trivial⟩⟩⟩ ⟨⟨rfl,Or.inl rfl,Or.inl rfl⟩,⟨⟨rfl,Or.inl rfl,Or.inl rfl⟩,⟨⟨rfl,Or.inl rfl,Or.inl rfl⟩,trivial⟩⟩⟩ (fun _ _ _ _=>⟨(@ao _ _ (0) _ (show aaP (["way","row","signs","holds"]:List Str) by decide +kernel) rfl (Or.inl rfl) (.inr rfl)),(@eJ _ _ _ (@aJ _ _ _ _ _ _ _ _ jv (@al _ _ _ _ _ _ _ _ _ _ _ C__law_said hr (by lia) rfl (@aa _ _ _ _ _ (pv 0) (@aa _ _ _ _ _ (pv 1) (@aa _ _ _ _ _ (pv 2) (@aa _ _ _ _ _ (pv 3) ac (by rfl)) (by rfl)) (by rfl)) (by rfl)) (by decide) (by rfl) (by rfl)) aG (aX _))),(pv 0)⟩) (by rfl) (by rfl) (by rfl) (by rfl) (by intro _;rfl)) (@au _ _ _ _ ac) (aX _)) (@ai _ _ _ (@az _ _ _ _ bS)) a6))))))))))))) (by intro _;rfl)) (@ai _ _ _ (@az _ _ _ _ bS)))),?_⟩;refine ⟨_,rfl,(by show 1≤sizeLine;decide),fun b1 m1=>?_⟩;have u1:=Same.new m1 (.lst [.int 3]);have f1:upd H b1 (.lst [.int 3]) b1=some (.lst [.int 3]):=ae;generalize upd H b1 (.lst [.int 3])=G1 at u1 f1 ⊢;refine ⟨(by show 1≤sizeLine;decide),fun b2 m2=>?_⟩;have u2:=Same.new m2 (.tup [.int 3]);have f2:upd G1 b2 (.tup [.int 3]) b2=some (.tup [.int 3]):=ae;generalize upd G1 b2 (.tup [.int 3])=G2 at u2 f2 ⊢;refine fun b3 m3=>?_;have u3:=Same.new m3 (.dK []);have f3:upd G2 b3 (.dK []) b3=some (.dK []):=ae;generalize upd G2 b3 (.dK [])=G3 at u3 f3 ⊢;refine ⟨_,_,rfl,rfl,(by unfold xK;decide +kernel),(by show 10≤sizeLine;decide),fun bo mo=>?_⟩;have u4:=Same.new mo (.lst [.int 0,.int (-1),.int 10,.non,.bl true,.str "3",.ref b1,.ref b2,.ref b3,.int (10 ^ (29:Int).toNat)]);have f4:upd G3 bo (.lst [.int 0,.int (-1),.int 10,.non,.bl true,.str "3",.ref b1,.ref b2,.ref b3,.int (10 ^ (29:Int).toNat)]) bo=some (.lst [.int 0,.int (-1),.int 10,.non,.bl true,.str "3",.ref b1,.ref b2,.ref b3,.int (10 ^ (29:Int).toNat)]):=ae;generalize upd G3 bo (.lst [.int 0,.int (-1),.int 10,.non,.bl true,.str "3",.ref b1,.ref b2,.ref b3,.int (10 ^ (29:Int).toNat)])=G4 at u4 f4 ⊢;have U:=((u1.trans u2).trans u3).trans u4;have hTG:=hT.mono U;have n1T:b1≠T:=hTG.ne (((u2.trans u3).trans u4) _ _ f1) (fun _ z=>nomatch z);have n2T:b2≠T:=hTG.ne ((u3.trans u4) _ _ f2) (fun _ z=>nomatch z);have n3T:b3≠T:=hTG.ne (u4 _ _ f3) (fun _ z=>nomatch z);have odds:∀ y∈([.int 0,.int (-1),.int 10,.non,.bl true,.str "3",.ref b1,.ref b2,.ref b3,.int (10 ^ (29:Int).toNat)]:List V),OddN (off T G4) y:=fun y hy=>by
    simp only [aao,aaM,or_false] at hy;rcases hy with rfl|rfl|rfl|rfl|rfl|rfl|rfl|rfl|rfl|rfl
    · exact ⟨.int 0,by simp only [Dat],rfl⟩
    · exact ⟨.int (-1),by simp only [Dat],rfl⟩
    · exact ⟨.int 10,by simp only [Dat],rfl⟩
    · exact ⟨.none,by simp only [Dat],rfl⟩
    · exact ⟨.bool true,by simp only [Dat],rfl⟩
    · exact ⟨.str "3",by simp only [Dat],rfl⟩
    · exact ⟨.list [.int 3],by simp only [Dat,DatAll];exact ⟨b1,_,rfl,(a9 n1T).trans (((u2.trans u3).trans u4) _ _ f1),_,_,rfl,rfl,rfl⟩,rfl⟩
    · exact ⟨.tuple [.int 3],by simp only [Dat,DatAll];exact ⟨b2,_,rfl,(a9 n2T).trans ((u3.trans u4) _ _ f2),_,_,rfl,rfl,rfl⟩,rfl⟩
    · exact ⟨.dict [],by simp only [Dat,DatKv];exact ⟨b3,_,rfl,(a9 n3T).trans (u4 _ _ f3),rfl⟩,rfl⟩
    · exact ⟨.int (10 ^ (29:Int).toNat),by simp only [Dat],by decide +kernel⟩
  generalize ([.int 0,.int (-1),.int 10,.non,.bl true,.str "3",.ref b1,.ref b2,.ref b3,.int (10 ^ (29:Int).toNat)]:List V)=od at f4 odds;have nbT:bo≠T:=hTG.ne f4 (fun _ z=>nomatch z);refine ⟨(by show 2≤sizeLine;decide),fun p1 n1=>?_⟩;have g1:=Same.new n1 (.lst [.int 0,.int 5]);refine ⟨_,rfl,6,rfl,a,_,rfl,(U.trans g1).seq hS,fun p2 n2=>?_⟩;obtain ⟨ms,em,hm⟩:=uS ns none (some 6);rw [em];have g2:=Same.new n2 (.lst (ms.map V.int));refine ⟨p1,p2,_,_,rfl,rfl,g2 _ _ ae,ae,bj (by rw [aak];show 2+ms.length≤1000;lia),fun p3 n3=>?_⟩;have e3:upd (upd (upd G4 p1 (.lst [.int 0,.int 5])) p2 (.lst (ms.map V.int))) p3 (.lst ([.int 0,.int 5]++ms.map V.int)) p3=_:=ae;have g3:=(g1.trans g2).trans (Same.new n3 (.lst ([.int 0,.int 5]++ms.map V.int)));have el:[V.int 0,V.int 5]++ms.map V.int=(0 :: 5 :: ms).map V.int:=rfl;rw [el] at e3 g3 ⊢;revert e3 g3;generalize upd (upd (upd G4 p1 (.lst [.int 0,.int 5])) p2 (.lst (ms.map V.int))) p3 (.lst ((0 :: 5 :: ms).map V.int))=H3;intro e3 g3;have hT3:=hTG.mono g3;have ebo:=g3 _ _ f4;have odd3:=fun y hy=>(odds y hy).mono (iL (T:=T) g3);have np3:p3≠T:=hT3.ne e3 (fun _ z=>nomatch z);refine ⟨p3,rfl,⟨_,SqL.of e3⟩,gK (Trn.list (xs:=(0 :: 5 :: ms).map V.int)) (fun i σ H'=>∃ c1 c2 c3 c4 c5 c6 c7 c8 c9 cA cB,σ=[some (.ref a),some (.ref bo),c1,c2,c3,c4,c5,c6,c7,c8,c9,cA,cB]∧But T H3 H'∧LT T H') ⟨_,_,_,_,_,_,_,_,_,_,_,rfl,But.refl,hT3⟩ (fun i σ H' hi z=>?_) (fun i x σ H4' H4 hi it z=>?_) (fun σ H' z=>?_)⟩
  · obtain ⟨_,_,_,_,_,_,_,_,_,_,_,rfl,S,_⟩:=z;exact SqL.of (S _ _ np3 e3)
  · obtain ⟨c1,c2,c3,c4,c5,c6,c7,c8,c9,cA,cB,rfl,S4,hT4⟩:=z;obtain ⟨rfl,hx⟩:=it;rw [aaX] at hx;obtain ⟨c,_,rfl⟩:=ab9.mp hx;refine ⟨_,rfl,c,rfl,fun wl H5 g5 nw ew=>?_⟩;have hT5:=hT4.mono g5;have nwT:T≠wl:=fun z=>by obtain ⟨tp,h⟩:=hT4;rw [← z,h.tab] at nw;cases nw
    refine ⟨_,rfl,_,rfl,wl,9,_,rfl,by decide,by decide,ew,by lia,fun r1 H6 a1 b1 k6 w6=>⟨_,_,rfl,rfl,wl,1+r1,_,rfl,by lia,by lia,w6,by lia,fun r rs H7 k7 w7 nr er hlen sm=>?_⟩⟩;have n1':1≤rs.length:=by lia
    have n9':rs.length≤9:=by lia
    have nrw:r≠wl:=w6.ne nr;refine ⟨_,rfl,r,_,rfl,.inl (SqL.of er),?_⟩;rw [aak];refine ⟨_,rfl,wl,_,rfl,w7,by lia,fun gs H8 g1' g3' sp k8 w8=>?_⟩;refine ⟨_,rfl,_,rfl,wl,(rs.length:Int),_,rfl,by lia,by lia,w8,by lia,fun ps qs vh H9 k9 w9 lp lq gp gq hv=>?_⟩;have Gps:Gs rs.length ps:=⟨by lia,gp⟩
    have Gqs:Gs rs.length qs:=⟨by lia,gq⟩
    have b59:But wl H5 H9:=((k6.trans k7).trans k8).trans k9;have hT9:=hT5.well ew b59;have er9:=(k8.trans k9) _ _ nrw er;have nrT:r≠T:=hT9.ne er9 (fun _ z=>nomatch z);have hv9:=vO hT9 hv;have Z9:Zs wl T H9 H9:=⟨Same.refl _,hT9⟩
    obtain ⟨oT,eT9⟩:=hT9.old;have c6':=vm n1' n9';have c7':=wN sp;have rl:iC (.list (rs.map PyData.int))=rs.length:=aak _;have c8':bW (iC (.list (rs.map PyData.int))) (hD ps qs)=true:=by rw [rl];exact wm Gps Gqs
    have er0:cz wl T H9 r=some (.lst (rs.map V.int)):=(dw nrw nrT).trans er9;have rowD:∀ {H':Hp},Zs wl T H9 H'→Dat (off T H') (.list (rs.map PyData.int)) (.ref r):=fun {H'} z=>by
      simp only [Dat];exact ⟨r,_,rfl,(a9 nrT).trans (z.at er0),cc rs⟩
    have smR:∀ {H':Hp},Zs wl T H9 H'→Sm1 H' (.list (rs.map PyData.int)) (.ref r):=fun {H'} z _ r0 ns' er' en'=>by
      injection er' with er'
      subst er';rw [z.at er0] at en';injection en' with en'
      injection en' with en'
      rw [← jx en'];exact sm
    have hdD:∀ {H':Hp},Zs wl T H9 H'→Dat (off T H') (hD ps qs) vh:=fun {H'} z=>Dat.mono oQ _ _ (hv9.mono z.s).dat;have pR:=wU sm n9';have pS:=wT g3' sp;have pH:=x8 Gps Gqs (by lia);have sgD:∀ H',Dat H' (.str (aC gs)) (.str (aC gs)):=fun _=>by simp only [Dat]
    have noD:∀ H',Dat H' .none .non:=fun _=>by simp only [Dat]
    have pN:PrD .none:=j5 (by simp only [OkD]) (by simp [szD]) (by simp [aaj]);have b3:∀ {H':Hp},Zs wl T H9 H'→But T H3 H':=fun {H'} z b o hb e=>by
      have nb:b≠wl:=ak (S4 _ _ hb e) nw;exact z.at ((dw nb hb).trans (b59 _ _ nb (g5 _ _ (S4 _ _ hb e))))
    refine ⟨_,rfl,_,rfl,_,rfl,wl,rs.length,vh,ps,qs,_,oT,rfl,by lia,by lia,hv9,Gps,Gqs,w9,by lia,eT9,nwT,fun pn xs HA kA wA npn epn lxs gxs=>?_⟩;have ZA:=Z9.butW w9 kA;have npT:pn≠T:=ZA.t.ne epn (fun _ z=>nomatch z);refine ⟨pn,rfl,⟨_,SqL.of epn⟩,gK (Trn.list (xs:=xs)) (fun i σ H'=>∃ d8 d9 dA dB dC,σ=[some (.ref a),some (.ref bo),some (.int c),some (.ref wl),some (.ref r),some (.int rs.length),some (.str (aC gs)),some vh,d8,d9,dA,dB,dC]∧But T HA H'∧Zs wl T H9 H') ⟨_,_,_,_,_,rfl,But.refl,ZA⟩ (fun i σ H' hi z=>?_) (fun i x σ HB' HB hi it z=>?_) (fun σ HC z=>?_)⟩
    · obtain ⟨_,_,_,_,_,rfl,S,_⟩:=z;exact SqL.of (S _ _ npT epn)
    · obtain ⟨d8,d9,dA,dB,dC,rfl,bB,ZB⟩:=z;obtain ⟨rfl,hx'⟩:=it;obtain ⟨d,hd,pd,hp⟩:=(gxs x (aax hx')).mono (oP bB);have hp:bW (rs.length:Int) d=false:=ue hp;have hd':=Dat.mono off_le _ _ hd;have em:(df (.int rs.length) && bW (mnD (.int rs.length)) d)=false:=by rw [show bW (mnD (.int rs.length)) d=false from hp,Bool.and_false]
      refine ⟨_,rfl,x,d,rfl,hd',pd.1,by have:=pd.2.1;lia,aaT pd.2.2 (by rw [sizeLine_eq];decide),?_⟩;refine ⟨_,rfl,_,rfl,d,x,.int rs.length,.int rs.length,rfl,hd',by simp only [Dat],fun HB2 s2=>?_⟩;rw [em];refine ⟨false,false,rfl,rfl,false,rfl,aV ?_⟩;have sz:=aaT pd.2.2 (show 100000≤sizeLine by rw [sizeLine_eq];decide);refine ⟨_,rfl,x,d,rfl,Dat.mono s2 _ _ hd',pd.1,by have:=pd.2.1;lia,sz,?_⟩;refine ⟨_,rfl,rfl,_,rfl,dQ (fun zz=>absurd zz (by simp)) (fun _=>?_)⟩;have Z2:=ZB.same s2;have cH:bW (iC (.list (rs.map PyData.int))) d=false:=by rw [rl];exact hp
      refine ⟨7,rfl,by decide,by decide,eV (Trn.range (lo:=0) (n:=(7:Int).toNat)) (fun i zs H'=>(But T HB2 H'∧LT T H')∧zs=[]) ⟨⟨But.refl,Z2.t⟩,rfl⟩ (fun i zs H' hi p=>by rw [p.2];exact ⟨trivial,aU (by decide)⟩) (fun i y zs HI' HI hi hx p Nx nx=>?_) (fun zs HI p p5 n5=>?_)⟩
      · obtain ⟨rfl,rfl⟩:=hx;obtain ⟨⟨bI,hTI⟩,rfl⟩:=p;have hi7:i < 7:=hi;refine ⟨_,rfl,_,rfl,_,rfl,_,rfl,0+(i:Int),(.list (rs.map PyData.int)),(.ref r),(.str (aC gs)),(.str (aC gs)),d,x,rfl,by lia,by lia,rowD (Z2.butT bI hTI),sgD _,Dat.mono (oP ((But.of s2).trans bI)) _ _ hd,pR,pS,pd,smR (Z2.butT bI hTI),hTI,fun HJ bJ hTJ=>?_⟩;rw [jV c6' c7' cH];exact ⟨rfl,_,rfl,dQ (fun zz=>absurd zz (by simp)) (fun _=>nx _ _ ⟨⟨bI.trans bJ,hTJ⟩,rfl⟩)⟩
      · obtain ⟨⟨bI,hTI⟩,rfl⟩:=p;refine ⟨(by show 0≤sizeLine;decide),fun pq nq=>⟨0,p5,pq,[],[],by decide,rfl,rfl,SqL.of ((Same.new nq _) _ _ ae),SqL.of ae,.inr ⟨fun _=>true,rfl,kU,?_⟩⟩⟩;rw [gM];refine ⟨false,rfl,aV ?_⟩;have kq:=(Same.new n5 (.lst [])).trans (Same.new nq (.lst []));have bQ:=bI.trans (But.of kq);have hTQ:=hTI.mono kq;exact ⟨_,_,_,_,_,rfl,bB.trans ((But.of s2).trans bQ),Z2.butT bQ hTQ⟩
    · obtain ⟨d8,d9,dA,dB,dC,rfl,bC,ZC⟩:=z;refine ⟨_,rfl,bo,rfl,⟨_,SqL.of (b3 ZC _ _ nbT ebo)⟩,gK (Trn.list (xs:=od)) (fun i σ H'=>∃ d8 d9 dA dB dC,σ=[some (.ref a),some (.ref bo),some (.int c),some (.ref wl),some (.ref r),some (.int rs.length),some (.str (aC gs)),some vh,d8,d9,dA,dB,dC]∧But T HA H'∧Zs wl T H9 H') ⟨_,_,_,_,_,rfl,bC,ZC⟩ (fun i σ H' hi z=>?_) (fun i x σ HD' HD hi it z=>?_) (fun σ HE z=>?_)⟩
      · obtain ⟨_,_,_,_,_,rfl,_,Z⟩:=z;exact SqL.of (b3 Z _ _ nbT ebo)
      · obtain ⟨d8,d9,dA,dB,dC,rfl,bD,ZD⟩:=z;obtain ⟨rfl,hx'⟩:=it;obtain ⟨e,he,hm'⟩:=(odd3 x (aax hx')).mono (oP (b3 ZD));have he:=Dat.mono off_le _ _ he;have hd':=Dat.mono off_le _ _ (hdD ZD);have em:∀ y,(df e && bW (mnD e) y)=false:=fun y=>by rw [hm',acf]
        refine ⟨_,rfl,_,rfl,_,vh,e,x,rfl,hd',he,fun HF s2=>?_⟩;rw [em];refine ⟨false,false,rfl,rfl,false,rfl,aV ?_⟩;refine ⟨(by show 0≤sizeLine;decide),fun q1 m1=>⟨(by show 0≤sizeLine;decide),fun q2 m2=>⟨(by show 2≤sizeLine;decide),fun q3 m3=>?_⟩⟩⟩;have v1:=Same.new m1 (.lst []);have v2:=Same.new m2 (.lst []);have v3:=Same.new m3 (.tup [.ref q1,.ref q2]);refine ⟨_,rfl,.tuple [.list [],.list []],.ref q3,e,x,rfl,by simp only [Dat,DatAll];exact ⟨q3,_,rfl,ae,_,_,rfl,⟨q1,_,rfl,v3 _ _ (v2 _ _ ae),rfl⟩,_,_,rfl,⟨q2,_,rfl,v3 _ _ ae,rfl⟩,rfl⟩,Dat.mono (((s2.trans v1).trans v2).trans v3) _ _ he,fun HG s3=>?_⟩;rw [em];exact ⟨false,false,rfl,rfl,false,rfl,aV ⟨_,_,_,_,_,rfl,bD.trans (But.of ((((s2.trans v1).trans v2).trans v3).trans s3)),ZD.same ((((s2.trans v1).trans v2).trans v3).trans s3)⟩⟩
      · obtain ⟨d8,d9,dA,dB,dC,rfl,bE,ZE⟩:=z;have wE:=wA.keepT nwT bE;obtain ⟨oE,eTE⟩:=ZE.t.old;refine ⟨_,rfl,_,rfl,wl,r,rs,_,oE,rfl,wE,by lia,eTE,nwT,ZE.at er0,nrw,nrT,n1',n9',sm,fun pm xm HF kF npm epm lxm gxm=>?_⟩;have ZF:=ZE.butW wE kF;have npmT:pm≠T:=ZF.t.ne epm (fun _ z=>nomatch z);refine ⟨pm,rfl,⟨_,SqL.of epm⟩,gK (Trn.list (xs:=xm)) (fun i σ H'=>∃ d8 d9 dA dB dC,σ=[some (.ref a),some (.ref bo),some (.int c),some (.ref wl),some (.ref r),some (.int rs.length),some (.str (aC gs)),some vh,d8,d9,dA,dB,dC]∧But T HF H'∧Zs wl T H9 H') ⟨_,_,_,_,_,rfl,But.refl,ZF⟩ (fun i σ H' hi z=>?_) (fun i x σ HG' HG hi it z=>?_) (fun σ HK z=>?_)⟩
        · obtain ⟨_,_,_,_,_,rfl,S,_⟩:=z;exact SqL.of (S _ _ npmT epm)
        · obtain ⟨d8,d9,dA,dB,dC,rfl,bG,ZG⟩:=z;obtain ⟨rfl,hx'⟩:=it;obtain ⟨d,hd,pd,hp⟩:=(gxm x (aax hx')).mono (oP bG);have hp:bt d=false:=ue hp;refine ⟨_,rfl,_,rfl,(by show 2≤sizeLine;decide),fun q1 m1=>⟨(by show 2≤sizeLine;decide),fun q2 m2=>⟨(by show 0≤sizeLine;decide),fun q3 m3=>⟨(by show 0≤sizeLine;decide),fun q4 m4=>⟨(by show 2≤sizeLine;decide),fun q5 m5=>⟨(by show 2≤sizeLine;decide),fun q6 m6=>⟨(by show 3≤sizeLine;decide),fun q7 m7=>?_⟩⟩⟩⟩⟩⟩⟩;have k1:=Same.new m1 (.tup [.str (aC gs),vh]);have k2:=Same.new m2 (.tup [.non,.non]);have k3:=Same.new m3 (.lst []);have k4:=Same.new m4 (.lst []);have k5:=Same.new m5 (.tup [.ref q3,.ref q4]);have k6':=Same.new m6 (.tup [.str "",.ref q5]);have k7':=Same.new m7 (.lst [.ref q1,.ref q2,.ref q6]);have e7:upd (upd (upd (upd (upd (upd (upd HG q1 (.tup [.str (aC gs),vh])) q2 (.tup [.non,.non])) q3 (.lst [])) q4 (.lst [])) q5 (.tup [.ref q3,.ref q4])) q6 (.tup [.str "",.ref q5])) q7 (.lst [.ref q1,.ref q2,.ref q6]) q7=some (.lst [.ref q1,.ref q2,.ref q6]):=ae;have e6:=k7' _ _ (show _=some (HO.tup [.str "",.ref q5]) from ae);have e5:=k7' _ _ (k6' _ _ (show _=some (HO.tup [.ref q3,.ref q4]) from ae));have e4:=k7' _ _ (k6' _ _ (k5 _ _ (show _=some (HO.lst []) from ae)));have e3':=k7' _ _ (k6' _ _ (k5 _ _ (k4 _ _ (show _=some (HO.lst []) from ae))));have e2:=k7' _ _ (k6' _ _ (k5 _ _ (k4 _ _ (k3 _ _ (show _=some (HO.tup [.non,.non]) from ae)))));have e1:=k7' _ _ (k6' _ _ (k5 _ _ (k4 _ _ (k3 _ _ (k2 _ _ (show _=some (HO.tup [.str (aC gs),vh]) from ae))))));have kk:=(((((k1.trans k2).trans k3).trans k4).trans k5).trans k6').trans k7';generalize upd (upd (upd (upd (upd (upd (upd HG q1 (.tup [.str (aC gs),vh])) q2 (.tup [.non,.non])) q3 (.lst [])) q4 (.lst [])) q5 (.tup [.ref q3,.ref q4])) q6 (.tup [.str "",.ref q5])) q7 (.lst [.ref q1,.ref q2,.ref q6])=HH at kk e7 e6 e5 e4 e3' e2 e1 ⊢;have ZH:=ZG.same kk;have nT:∀ {p:Addr} {o:HO},HH p=some o→(∀ ps,o≠.tbl ps)→p≠T:=fun e n=>ZH.t.ne e n;have prs:∀ z∈([.ref q1,.ref q2,.ref q6]:List V),∃ t o s e h,z=.ref t∧HH t=some (.tup [o,s])∧t≠T∧(∀ H',Dat H' e o)∧PrD e∧PrD h∧∀ H',But T HH H'→Zs wl T H9 H'→Dat (off T H') h s:=fun z hz=>by
            simp only [aao,aaM,or_false] at hz;rcases hz with rfl|rfl|rfl
            · exact ⟨q1,_,_,.str (aC gs),hD ps qs,rfl,e1,nT e1 (fun _ z=>nomatch z),sgD,pS,pH,fun H' _ Z=>hdD Z⟩
            · exact ⟨q2,_,_,.none,.none,rfl,e2,nT e2 (fun _ z=>nomatch z),noD,pN,pN,fun H' _ _=>noD _⟩
            · refine ⟨q6,_,_,.str "",.tuple [.list [],.list []],rfl,e6,nT e6 (fun _ z=>nomatch z),fun _=>by simp only [Dat],j5 (by simp only [OkD];decide +kernel) (by simp [szD]) (by simp [aaj]),j5 (by simp only [OkD,OkAll];decide) (by decide) (by decide),fun H' b _=>?_⟩;have at':∀ {p:Addr} {o:HO},HH p=some o→(∀ ps,o≠.tbl ps)→off T H' p=some o:=fun e n=>(a9 (nT e n)).trans (b _ _ (nT e n) e);simp only [Dat,DatAll];exact ⟨q5,_,rfl,at' e5 (fun _ z=>nomatch z),_,_,rfl,⟨q3,_,rfl,at' e3' (fun _ z=>nomatch z),rfl⟩,_,_,rfl,⟨q4,_,rfl,at' e4 (fun _ z=>nomatch z),rfl⟩,rfl⟩
          have n7T:=nT e7 (fun _ z=>nomatch z);refine ⟨q7,rfl,⟨_,SqL.of e7⟩,gK (Trn.list (xs:=[.ref q1,.ref q2,.ref q6])) (fun i σ H'=>∃ dB dC,σ=[some (.ref a),some (.ref bo),some (.int c),some (.ref wl),some (.ref r),some (.int rs.length),some (.str (aC gs)),some vh,some x,d9,dA,dB,dC]∧But T HH H'∧Zs wl T H9 H') ⟨_,_,rfl,But.refl,ZH⟩ (fun i σ H' hi z=>?_) (fun i z' σ HL' HL hi it z=>?_) (fun σ HM z=>?_)⟩
          · obtain ⟨_,_,rfl,S,_⟩:=z;exact SqL.of (S _ _ n7T e7)
          · obtain ⟨dB,dC,rfl,bL,ZL⟩:=z;obtain ⟨rfl,hz'⟩:=it;obtain ⟨t,o,s',e,h',rfl,et,ntT,he,pe,ph,hh⟩:=prs z' (aax hz');refine ⟨t,_,rfl,SqT.of (bL _ _ ntT et),rfl,_,_,rfl,_,_,rfl,rfl,?_⟩;refine ⟨7,rfl,by decide,by decide,eV (Trn.range (lo:=0) (n:=(7:Int).toNat)) (fun i zs H'=>(But T HL H'∧LT T H')∧zs=[]) ⟨⟨But.refl,ZL.t⟩,rfl⟩ (fun i zs H' hi p=>by rw [p.2];exact ⟨trivial,aU (by decide)⟩) (fun i y zs HI' HI hi hx p Nx nx=>?_) (fun zs HI p p5 n5=>?_)⟩
            · obtain ⟨rfl,rfl⟩:=hx;obtain ⟨⟨bI,hTI⟩,rfl⟩:=p;have hi7:i < 7:=hi;refine ⟨_,rfl,_,rfl,_,rfl,_,rfl,0+(i:Int),d,x,e,o,h',s',rfl,by lia,by lia,Dat.mono (oP ((But.of kk).trans (bL.trans bI))) _ _ hd,he _,hh _ (bL.trans bI) (ZL.butT bI hTI),pd,pe,ph,(fun z=>by rw [hp] at z;cases z),hTI,fun HJ bJ hTJ=>?_⟩;rw [oo hp];exact ⟨rfl,_,rfl,dQ (fun zz=>absurd zz (by simp)) (fun _=>nx _ _ ⟨⟨bI.trans bJ,hTJ⟩,rfl⟩)⟩
            · obtain ⟨⟨bI,hTI⟩,rfl⟩:=p;refine ⟨(by show 0≤sizeLine;decide),fun pq nq=>⟨0,p5,pq,[],[],by decide,rfl,rfl,SqL.of ((Same.new nq _) _ _ ae),SqL.of ae,.inr ⟨fun _=>true,rfl,kU,?_⟩⟩⟩;rw [gM];refine ⟨false,rfl,aV ?_⟩;have kq:=(Same.new n5 (.lst [])).trans (Same.new nq (.lst []));have bQ:=bI.trans (But.of kq);have hTQ:=hTI.mono kq;exact ⟨_,_,rfl,bL.trans bQ,ZL.butT bQ hTQ⟩
          · obtain ⟨dB,dC,rfl,bM,ZM⟩:=z;exact ⟨_,_,_,_,_,rfl,bG.trans ((But.of kk).trans bM),ZM⟩
        · obtain ⟨d8,d9,dA,dB,dC,rfl,bK,ZK⟩:=z;obtain ⟨oK,eTK⟩:=ZK.t.old;refine ⟨oK,rfl,eTK,fun pz xz HL kL npz epz lxz gxz=>?_⟩;have ZL:=ZK.same kL;have npzT:pz≠T:=ZL.t.ne epz (fun _ z=>nomatch z);refine ⟨pz,rfl,⟨_,SqL.of epz⟩,gK (Trn.list (xs:=xz)) (fun i σ H'=>∃ d8 d9 dA dB dC,σ=[some (.ref a),some (.ref bo),some (.int c),some (.ref wl),some (.ref r),some (.int rs.length),some (.str (aC gs)),some vh,d8,d9,dA,dB,dC]∧But T HL H'∧Zs wl T H9 H') ⟨_,_,_,_,_,rfl,But.refl,ZL⟩ (fun i σ H' hi z=>?_) (fun i x σ HM' HM hi it z=>?_) (fun σ HR z=>?_)⟩
          · obtain ⟨_,_,_,_,_,rfl,S,_⟩:=z;exact SqL.of (S _ _ npzT epz)
          · obtain ⟨d8,d9,dA,dB,dC,rfl,bM,ZM⟩:=z;obtain ⟨rfl,hx'⟩:=it;obtain ⟨e,he,pe,hp⟩:=(gxz x (aax hx')).mono (oP bM);have hp:cE e=false:=ue hp;refine ⟨_,rfl,(by show 2≤sizeLine;decide),fun q1 m1=>?_⟩;have k1:=Same.new m1 (.lst [vh,.non]);have e1:upd HM q1 (.lst [vh,.non]) q1=some (.lst [vh,.non]):=ae;generalize upd HM q1 (.lst [vh,.non])=HN at k1 e1 ⊢;have ZN:=ZM.same k1;have n1T:q1≠T:=ZN.t.ne e1 (fun _ z=>nomatch z);refine ⟨q1,rfl,⟨_,SqL.of e1⟩,gK (Trn.list (xs:=[vh,.non])) (fun i σ H'=>∃ dC,σ=[some (.ref a),some (.ref bo),some (.int c),some (.ref wl),some (.ref r),some (.int rs.length),some (.str (aC gs)),some vh,some x,d9,dA,dB,dC]∧But T HN H'∧Zs wl T H9 H') ⟨_,rfl,But.refl,ZN⟩ (fun i σ H' hi z=>?_) (fun i z' σ HO' HO hi it z=>?_) (fun σ HP z=>?_)⟩
            · obtain ⟨_,rfl,S,_⟩:=z;exact SqL.of (S _ _ n1T e1)
            · obtain ⟨dC,rfl,bO,ZO⟩:=z;obtain ⟨rfl,hz'⟩:=it;obtain ⟨h',hh,ph⟩:∃ h',(∀ H',Zs wl T H9 H'→Dat (off T H') h' z')∧PrD h':=by
                have hm:=aax hz';simp only [aao,aaM,or_false] at hm;rcases hm with rfl|rfl
                · exact ⟨hD ps qs,fun H' Z=>hdD Z,pH⟩
                · exact ⟨.none,fun H' _=>noD _,pN⟩
              refine ⟨7,rfl,by decide,by decide,eV (Trn.range (lo:=0) (n:=(7:Int).toNat)) (fun i zs H'=>(But T HO H'∧LT T H')∧zs=[]) ⟨⟨But.refl,ZO.t⟩,rfl⟩ (fun i zs H' hi p=>by rw [p.2];exact ⟨trivial,aU (by decide)⟩) (fun i y zs HI' HI hi hx p Nx nx=>?_) (fun zs HI p p5 n5=>?_)⟩
              · obtain ⟨rfl,rfl⟩:=hx;obtain ⟨⟨bI,hTI⟩,rfl⟩:=p;have hi7:i < 7:=hi;refine ⟨_,rfl,_,rfl,_,rfl,_,rfl,0+(i:Int),(.list (rs.map PyData.int)),(.ref r),e,x,h',z',rfl,by lia,by lia,rowD (ZO.butT bI hTI),Dat.mono (oP ((But.of k1).trans (bO.trans bI))) _ _ he,hh _ (ZO.butT bI hTI),pR,pe,ph,smR (ZO.butT bI hTI),hTI,fun HJ bJ hTJ=>?_⟩;rw [jU c6' hp];exact ⟨rfl,_,rfl,dQ (fun zz=>absurd zz (by simp)) (fun _=>nx _ _ ⟨⟨bI.trans bJ,hTJ⟩,rfl⟩)⟩
              · obtain ⟨⟨bI,hTI⟩,rfl⟩:=p;refine ⟨(by show 0≤sizeLine;decide),fun pq nq=>⟨0,p5,pq,[],[],by decide,rfl,rfl,SqL.of ((Same.new nq _) _ _ ae),SqL.of ae,.inr ⟨fun _=>true,rfl,kU,?_⟩⟩⟩;rw [gM];refine ⟨false,rfl,aV ?_⟩;have kq:=(Same.new n5 (.lst [])).trans (Same.new nq (.lst []));have bQ:=bI.trans (But.of kq);have hTQ:=hTI.mono kq;exact ⟨_,rfl,bO.trans bQ,ZO.butT bQ hTQ⟩
            · obtain ⟨dC,rfl,bP,ZP⟩:=z;exact ⟨_,_,_,_,_,rfl,bM.trans ((But.of k1).trans bP),ZP⟩
          · obtain ⟨d8,d9,dA,dB,dC,rfl,bR,ZR⟩:=z;have emT:∀ y,bW (rs.length:Int) y=true→(df (.int rs.length) && bW (mnD (.int rs.length)) y)=true:=fun y hy=>by
              rw [show bW (mnD (.int rs.length)) y=true from hy,show df (.int rs.length)=true from decide_eq_true (by lia)];rfl
            refine ⟨_,rfl,_,rfl,hD ps qs,vh,.int rs.length,.int rs.length,rfl,Dat.mono off_le _ _ (hdD ZR),by simp only [Dat],fun HS s2=>?_⟩;rw [emT _ (wm Gps Gqs)];refine ⟨true,true,rfl,rfl,false,rfl,aV ?_⟩;refine ⟨(by show 0≤sizeLine;decide),fun q1 m1=>⟨(by show 0≤sizeLine;decide),fun q2 m2=>⟨(by show 2≤sizeLine;decide),fun q3 m3=>?_⟩⟩⟩;have v1:=Same.new m1 (.lst []);have v2:=Same.new m2 (.lst []);have v3:=Same.new m3 (.tup [.ref q1,.ref q2]);refine ⟨_,rfl,.tuple [.list [],.list []],.ref q3,.int rs.length,.int rs.length,rfl,by simp only [Dat,DatAll];exact ⟨q3,_,rfl,ae,_,_,rfl,⟨q1,_,rfl,v3 _ _ (v2 _ _ ae),rfl⟩,_,_,rfl,⟨q2,_,rfl,v3 _ _ ae,rfl⟩,rfl⟩,by simp only [Dat],fun HT s3=>?_⟩;rw [emT _ rfl];refine ⟨true,true,rfl,rfl,false,rfl,aV ?_⟩;have ZT:=ZR.same ((((s2.trans v1).trans v2).trans v3).trans s3);clear s2 v1 v2 v3 s3;refine ⟨_,rfl,_,_,rfl,rfl,decide ((1:Int) < rs.length),rfl,?_⟩;by_cases c1':(1:Int) < rs.length
            · refine jz c1' ?_;refine ⟨(by show 2≤sizeLine;decide),fun q1 m1=>⟨(by show 1≤sizeLine;decide),fun q2 m2=>⟨q2,40,_,rfl,rfl,ae,by decide,by decide,(by show 1 * 40≤sizeLine;decide),fun q3 m3=>?_⟩⟩⟩;have k1:=Same.new m1 (.tup [.int 0,.int 1]);have k2:=Same.new m2 (.lst [.ref q1]);have k3:=Same.new m3 (.lst (aaf (40:Int).toNat [V.ref q1]).flatten);have f3:upd (upd (upd HT q1 (.tup [.int 0,.int 1])) q2 (.lst [.ref q1])) q3 (.lst (aaf (40:Int).toNat [V.ref q1]).flatten) q3=some (.lst (aaf (40:Int).toNat [V.ref q1]).flatten):=ae;have f1:=k3 _ _ (k2 _ _ (show _=some (HO.tup [.int 0,.int 1]) from ae));have G3:=(k1.trans k2).trans k3;generalize upd (upd (upd HT q1 (.tup [.int 0,.int 1])) q2 (.lst [.ref q1])) q3 (.lst (aaf (40:Int).toNat [V.ref q1]).flatten)=HU at f3 f1 G3 ⊢;refine ⟨_,rfl,_,_,rfl,rfl,_,rfl,_,_,rfl,rfl,(by show 2≤sizeLine;decide),fun q4 m4=>⟨(by show 1≤sizeLine;decide),fun q5 m5=>⟨q5,40,_,rfl,rfl,ae,by decide,by decide,(by show 1 * 40≤sizeLine;decide),fun q6 m6=>⟨(by show 2≤sizeLine;decide),fun q7 m7=>?_⟩⟩⟩⟩;have k4:=Same.new m4 (.tup [.int ((rs.length:Int) - 2),.int ((rs.length:Int) - 1)]);have k5:=Same.new m5 (.lst [.ref q4]);have k6':=Same.new m6 (.lst (aaf (40:Int).toNat [V.ref q4]).flatten);have k7':=Same.new m7 (.tup [.ref q3,.ref q6]);have G7:=((k4.trans k5).trans k6').trans k7';have f4:=k7' _ _ (k6' _ _ (k5 _ _ (show _=some (HO.tup [.int ((rs.length:Int) - 2),.int ((rs.length:Int) - 1)]) from ae)));have f6:=k7' _ _ (show _=some (HO.lst (aaf (40:Int).toNat [V.ref q4]).flatten) from ae);refine ⟨_,rfl,.tuple [.list (aaf 40 (.tuple [.int 0,.int 1])),.list (aaf 40 (.tuple [.int ((rs.length:Int) - 2),.int ((rs.length:Int) - 1)]))],.ref q7,.int rs.length,.int rs.length,rfl,?_,by simp only [Dat],fun HV sV=>?_⟩
              · simp only [Dat,DatAll];exact ⟨q7,_,rfl,ae,_,_,rfl,⟨q3,_,rfl,G7 _ _ f3,nG (d:=.tuple [.int 0,.int 1]) (by simp only [Dat,DatAll];exact ⟨q1,_,rfl,G7 _ _ f1,_,_,rfl,rfl,_,_,rfl,rfl,rfl⟩) 40⟩,_,_,rfl,⟨q6,_,rfl,f6,nG (d:=.tuple [.int ((rs.length:Int) - 2),.int ((rs.length:Int) - 1)]) (by simp only [Dat,DatAll];exact ⟨q4,_,rfl,f4,_,_,rfl,rfl,_,_,rfl,rfl,rfl⟩) 40⟩,rfl⟩
              rw [emT _ (ym (by lia))];refine ⟨true,true,rfl,rfl,false,rfl,aV ?_⟩;have ZV:=ZT.same ((G3.trans G7).trans sV);refine ⟨7,rfl,by decide,by decide,eV (Trn.range (lo:=0) (n:=(7:Int).toNat)) (fun i zs H'=>(But T HV H'∧LT T H')∧zs=[]) ⟨⟨But.refl,ZV.t⟩,rfl⟩ (fun i zs H' hi p=>by rw [p.2];exact ⟨trivial,aU (by decide)⟩) (fun i y zs HI' HI hi hx p Nx nx=>?_) (fun zs HI p p5 n5=>?_)⟩
              · obtain ⟨rfl,rfl⟩:=hx;obtain ⟨⟨bI,hTI⟩,rfl⟩:=p;have hi7:i < 7:=hi;refine ⟨_,rfl,_,rfl,_,rfl,_,rfl,0+(i:Int),(.list (rs.map PyData.int)),(.ref r),(.str (aC gs)),(.str (aC gs)),hD ps qs,vh,rfl,by lia,by lia,rowD (ZV.butT bI hTI),sgD _,hdD (ZV.butT bI hTI),pR,pS,pH,smR (ZV.butT bI hTI),hTI,fun HJ bJ hTJ=>?_⟩;rw [i5 c6' c7' c8'];exact ⟨rfl,_,rfl,dQ (fun zz=>absurd zz (by simp)) (fun _=>nx _ _ ⟨⟨bI.trans bJ,hTJ⟩,rfl⟩)⟩
              · obtain ⟨⟨bI,hTI⟩,rfl⟩:=p;refine ⟨(by show 0≤sizeLine;decide),fun pq nq=>⟨0,p5,pq,[],[],by decide,rfl,rfl,SqL.of ((Same.new nq _) _ _ ae),SqL.of ae,.inr ⟨fun _=>true,rfl,kU,?_⟩⟩⟩;rw [gM];refine ⟨false,rfl,aV ?_⟩;have kq:=(Same.new n5 (.lst [])).trans (Same.new nq (.lst []));have bQ:=bI.trans (But.of kq);have hTQ:=hTI.mono kq;exact ⟨_,_,_,_,_,_,_,_,_,_,_,rfl,b3 (ZV.butT bQ hTQ),hTQ⟩
            · refine gJ c1' ?_;refine ⟨7,rfl,by decide,by decide,eV (Trn.range (lo:=0) (n:=(7:Int).toNat)) (fun i zs H'=>(But T HT H'∧LT T H')∧zs=[]) ⟨⟨But.refl,ZT.t⟩,rfl⟩ (fun i zs H' hi p=>by rw [p.2];exact ⟨trivial,aU (by decide)⟩) (fun i y zs HI' HI hi hx p Nx nx=>?_) (fun zs HI p p5 n5=>?_)⟩
              · obtain ⟨rfl,rfl⟩:=hx;obtain ⟨⟨bI,hTI⟩,rfl⟩:=p;have hi7:i < 7:=hi;refine ⟨_,rfl,_,rfl,_,rfl,_,rfl,0+(i:Int),(.list (rs.map PyData.int)),(.ref r),(.str (aC gs)),(.str (aC gs)),hD ps qs,vh,rfl,by lia,by lia,rowD (ZT.butT bI hTI),sgD _,hdD (ZT.butT bI hTI),pR,pS,pH,smR (ZT.butT bI hTI),hTI,fun HJ bJ hTJ=>?_⟩;rw [i5 c6' c7' c8'];exact ⟨rfl,_,rfl,dQ (fun zz=>absurd zz (by simp)) (fun _=>nx _ _ ⟨⟨bI.trans bJ,hTJ⟩,rfl⟩)⟩
              · obtain ⟨⟨bI,hTI⟩,rfl⟩:=p;refine ⟨(by show 0≤sizeLine;decide),fun pq nq=>⟨0,p5,pq,[],[],by decide,rfl,rfl,SqL.of ((Same.new nq _) _ _ ae),SqL.of ae,.inr ⟨fun _=>true,rfl,kU,?_⟩⟩⟩;rw [gM];refine ⟨false,rfl,aV ?_⟩;have kq:=(Same.new n5 (.lst [])).trans (Same.new nq (.lst []));have bQ:=bI.trans (But.of kq);have hTQ:=hTI.mono kq;exact ⟨_,_,_,_,_,_,_,_,_,_,_,rfl,b3 (ZT.butT bQ hTQ),hTQ⟩
  · obtain ⟨_,_,_,_,_,_,_,_,_,_,_,rfl,_⟩:=z;exact q _
end
open PySem L2
theorem us0 {us:List Value} (h:us.length=0):us=[]:=ab4.mp h
theorem us1 {us:List Value} (h:us.length=1):∃ a,us=[a]:=by
  cases us with
  | nil=>cases h
  | cons x us=>obtain rfl:=us0 (Nat.succ.inj h);exact ⟨x,rfl⟩
theorem us2 {us:List Value} (h:us.length=2):∃ a b,us=[a,b]:=by
  cases us with
  | nil=>cases h
  | cons x us=>obtain ⟨b,rfl⟩:=us1 (Nat.succ.inj h);exact ⟨x,b,rfl⟩
theorem us3 {us:List Value} (h:us.length=3):∃ a b c,us=[a,b,c]:=by
  cases us with
  | nil=>cases h
  | cons x us=>obtain ⟨b,c,rfl⟩:=us2 (Nat.succ.inj h);exact ⟨x,b,c,rfl⟩
theorem us4 {us:List Value} (h:us.length=4):∃ a b c d,us=[a,b,c,d]:=by
  cases us with
  | nil=>cases h
  | cons x us=>obtain ⟨b,c,d,rfl⟩:=us3 (Nat.succ.inj h);exact ⟨x,b,c,d,rfl⟩
theorem all_mk {l:PySem.W.OpenLaw} {w:World} {K:aaa} {h:Heap} {mg:Str→Option Value} {fa:Addr} (X:K.In h) (G:h.Ns mainGlobals mg) (hfa:mg "law" = some (.ref fa))
    {tMn tMs tP1 tP2 tP3 tP4 tP5 tP6 tP7:Tok} {cP:Addr} {odP:Option Addr} {nP:Nat} {slP:Array (Option Value)}
    {aP aR aS aW aN aL aF aO aA aH aT aM:Addr}
    {aPN:Addr} {aPnm aPq:Str} {aPbs aPsub:List Value} {aPhd aPab:Bool} {aPsn:List Str} {aPcol:Option Bool} {aPdd aPod:Option Addr} {aPk0 aPk1 aPk2 aPk3 aPk5:Option Value} {aPc:Value} {aPes:Array DictEntry} {aPn:Nat} {aPsl:Array (Option Value)}
    {aRN:Addr} {aRnm aRq:Str} {aRbs aRsub:List Value} {aRhd aRab:Bool} {aRsn:List Str} {aRcol:Option Bool} {aRdd aRod:Option Addr} {aRk0 aRk1 aRk2 aRk3 aRk5:Option Value} {aRc:Value} {aRes:Array DictEntry} {aRn:Nat} {aRsl:Array (Option Value)}
    {aSN:Addr} {aSnm aSq:Str} {aSbs aSsub:List Value} {aShd aSab:Bool} {aSsn:List Str} {aScol:Option Bool} {aSdd aSod:Option Addr} {aSk0 aSk1 aSk2 aSk3 aSk5:Option Value} {aSc:Value} {aSes:Array DictEntry} {aSn:Nat} {aSsl:Array (Option Value)}
    {aHN:Addr} {aHnm aHq:Str} {aHbs aHsub:List Value} {aHhd aHab:Bool} {aHsn:List Str} {aHcol:Option Bool} {aHdd aHod:Option Addr} {aHk0 aHk1 aHk2 aHk3 aHk5:Option Value} {aHc:Value} {aHes:Array DictEntry} {aHn:Nat} {aHsl:Array (Option Value)}
    {aRcd:ClassData}
    {aScd:ClassData}
    {aWcd:ClassData}
    {aNcd:ClassData}
    {aLcd:ClassData}
    {aFcd:ClassData}
    {aOcd:ClassData}
    {aAcd:ClassData}
    {aHcd:ClassData}
    {aTcd:ClassData}
    {aMcd:ClassData}
    {tD aE:Addr} {ocD:Value} {odD odE:Option Addr} {nD nE:Nat} {slD slE:Array (Option Value)}
    {T cL:Addr}
{f0:Addr}
{f1:Addr}
{f2:Addr}
{f3:Addr}
{f4:Addr}
{f5:Addr}
{f6:Addr}
{f7:Addr}
{f8:Addr}
{f9:Addr}
{f10:Addr}
{f11:Addr}
{f12:Addr}
{f13:Addr}
{od14 an14:Option Addr} {sl14:Array (Option Value)} {oc14 kV14 dc14 pm14 cd14 ct14:Value} {f14:Addr}
{f15:Addr}
{od16 an16:Option Addr} {sl16:Array (Option Value)} {oc16 kV16 dc16 pm16 ct16:Value} {f16:Addr}
{f17:Addr}
{f18:Addr}
{f19:Addr}
{f20:Addr}
{f21:Addr}
{f22:Addr}
{f23:Addr}
{f24:Addr}
{f25:Addr}
{f26:Addr}
{f27:Addr}
{f28:Addr}
{f29:Addr}
{f30:Addr}
{f31:Addr}
{f32:Addr}
{f33:Addr}
{f34:Addr}
{f35:Addr}
{f36:Addr}
{f37:Addr}
{f38:Addr}
{f39:Addr}
{f40:Addr}
{f41:Addr}
{f42:Addr}
{f43:Addr}
{f44:Addr}
{od45 an45:Option Addr} {sl45:Array (Option Value)} {oc45 kV45 dc45 pm45 cd45 ct45:Value} {f45:Addr}
    (q0:Fq K "is_whole" ij f0)
    (q1:Fq K "is_row" jZ f1)
    (q2:Fq K "is_signs" ik f2)
    (q3:Fq K "is_many" i7 f3)
    (q4:Fq K "need_row" ii f4)
    (q5:Fq K "need_signs" fM f5)
    (q6:Fq K "shorter_first" dH f6)
    (q7:Fq K "cuts_of" i9 f7)
    (q8:Fq K "is_pair" i6 f8)
    (q9:Fq K "counts_up_to" eD f9)
    (q10:Fq K "ways_by_cut" fg f10)
    (q11:Fq K "way_at" jY f11)
    (q12:Fq K "joints_of" gx f12)
    (q13:Fq K "put_sign" ie f13)
    (a14:aaw K mainGlobals "picks_by_stretch" = some (some (.ref f14))) (l14:K.lookup f14=some ⟨oc14,od14,.func (aaY "picks_by_stretch" "picks_by_stretch" (bU br) (bn br) (aj br) (.ref tD) kV14 dc14 pm14 an14 cd14 ct14),sl14⟩) (c14:abl K cd14 "picks_by_stretch" = true) (k14:aaZ K (.ref f14)=true)
    (q15:Fq K "join_picks" fP f15)
    (a16:aaw K mainGlobals "pick_three" = some (some (.ref f16))) (l16:K.lookup f16=some ⟨oc16,od16,.func (aaY "pick_three" "pick_three" (bU bz) (bn bz) (aj bz) .none kV16 dc16 pm16 an16 (.ref cL) ct16),sl16⟩) (c16:abl K (.ref cL) "pick_three" = true) (k16:aaZ K (.ref f16)=true)
    (q17:Fq K "is_holds" il f17)
    (q18:Fq K "is_list_of_stretches" cr f18)
    (q19:Fq K "how_many_held" dL f19)
    (q20:Fq K "first_held" fQ f20)
    (q21:Fq K "bounds_held" fi f21)
    (q22:Fq K "greatest_held" dM f22)
    (q23:Fq K "least_held" fO f23)
    (q24:Fq K "may_be_parts" eB f24)
    (q25:Fq K "must_be_parts" dI f25)
    (q26:Fq K "need_holds" fN f26)
    (q27:Fq K "list_may_be" fh f27)
    (q28:Fq K "list_left_out" dJ f28)
    (q29:Fq K "do_cross" im f29)
    (q30:Fq K "count_kept" fR f30)
    (q31:Fq K "picks_held" fL f31)
    (q32:Fq K "way_picked" fK f32)
    (q33:Fq K "_law_well" gA f33)
    (q34:Fq K "_law_draw" gC f34)
    (q35:Fq K "_law_row" io f35)
    (q36:Fq K "_law_signs" fS f36)
    (q37:Fq K "_law_word" gz f37)
    (q38:Fq K "_law_no_rows" eF f38)
    (q39:Fq K "_law_no_signs" dN f39)
    (q40:Fq K "_law_stretch" eE f40)
    (q41:Fq K "_law_holds" fT f41)
    (q42:Fq K "_law_asked" fU f42)
    (q43:Fq K "_law_said" gB f43)
    (q44:Fq K "_law_no_holds" dO f44)
    (a45:aaw K mainGlobals "law" = some (some (.ref f45))) (l45:K.lookup f45=some ⟨oc45,od45,.func (aaY "law" "law" (bU iB) (bn iB) (aj iB) .none kV45 dc45 pm45 an45 cd45 ct45),sl45⟩) (c45:abl K cd45 "law" = true) (k45:aaZ K (.ref f45)=true)
    (dR:aaw K mainGlobals "len" = some none)
    (dQ : aaw K mainGlobals "isinstance" = some none)
    (dP:aaw K mainGlobals "int" = some none)
    (dE:aaw K mainGlobals "bool" = some none)
    (d0:aaw K mainGlobals "str" = some none)
    (d2:aaw K mainGlobals "tuple" = some none)
    (dS:aaw K mainGlobals "list" = some none)
    (dZ:aaw K mainGlobals "sorted" = some none)
    (dV:aaw K mainGlobals "range" = some none)
    (dW:aaw K mainGlobals "repr" = some none)
    (dK:aaw K mainGlobals "enumerate" = some none)
    (d1:aaw K mainGlobals "sum" = some none)
    (dC:aaw K mainGlobals "all" = some none)
    (dU:aaw K mainGlobals "min" = some none)
    (dT:aaw K mainGlobals "max" = some none)
    (dB:aaw K mainGlobals "abs" = some none)
    (dG:aaw K mainGlobals "divmod" = some none)
    (dF:aaw K mainGlobals "dict" = some none)
    (dY:aaw K mainGlobals "set" = some none)
    (dX:aaw K mainGlobals "reversed" = some none)
    (dD:aaw K mainGlobals "any" = some none)
    (d3:aaw K mainGlobals "zip" = some none)
    (gMn:aaw K mainGlobals "MOST_NUMBERS" = some (some (.int 9 tMn)))
    (gMs:aaw K mainGlobals "MOST_STRETCHES" = some (some (.int 40 tMs)))
    (gP:aaw K mainGlobals "SIGNS_TO_PUT" = some (some (.ref cP)))
    (lP:K.lookup cP=some ⟨.type "tuple",odP,.seq #[.str "+" tP1,.str "-" tP2,.str "*" tP3,.str "+-" tP4,.str "+*" tP5,.str "-*" tP6,.str "+-*" tP7] nP,slP⟩)
    (n_PutError:aaw K mainGlobals "PutError" = some (some (.ref aP)))
    (n_NoRow:aaw K mainGlobals "NoRow" = some (some (.ref aR)))
    (n_NoSigns:aaw K mainGlobals "NoSigns" = some (some (.ref aS)))
    (n_NoWay:aaw K mainGlobals "NoWay" = some (some (.ref aW)))
    (n_NoNumber:aaw K mainGlobals "NoNumber" = some (some (.ref aN)))
    (n_NoPlace:aaw K mainGlobals "NoPlace" = some (some (.ref aL)))
    (n_NoFit:aaw K mainGlobals "NoFit" = some (some (.ref aF)))
    (n_NoForm:aaw K mainGlobals "NoForm" = some (some (.ref aO)))
    (n_NoAsk:aaw K mainGlobals "NoAsk" = some (some (.ref aA)))
    (n_NoHolds:aaw K mainGlobals "NoHolds" = some (some (.ref aH)))
    (n_NoText:aaw K mainGlobals "NoText" = some (some (.ref aT)))
    (n_TooMany:aaw K mainGlobals "TooMany" = some (some (.ref aM)))
    (dA:aaw K mainGlobals "ValueError" = some none)
    (l_PutError:K.lookup aP=some (excClassObj aPnm aPq aP aPN aPbs mE aPhd aPsn aPsub aPab aPcol aPdd aPk0 aPk1 aPk2 aPk3 aPk5 "ValueError.__new__"))
    (s_PutError:K.lookup aPN=some ⟨aPc,aPod,.dict aPes aPn,aPsl⟩)
    (t_PutError:jy aPes=true)
    (i_PutError:nsFind aPes "__init__" = none)
    (l_NoRow:K.lookup aR=some (excClassObj aRnm aRq aR aRN aRbs (.ref aP :: mE) aRhd aRsn aRsub aRab aRcol aRdd aRk0 aRk1 aRk2 aRk3 aRk5 "ValueError.__new__"))
    (s_NoRow:K.lookup aRN=some ⟨aRc,aRod,.dict aRes aRn,aRsl⟩)
    (t_NoRow:jy aRes=true)
    (i_NoRow:nsFind aRes "__init__" = none)
    (l_NoSigns:K.lookup aS=some (excClassObj aSnm aSq aS aSN aSbs (.ref aP :: mE) aShd aSsn aSsub aSab aScol aSdd aSk0 aSk1 aSk2 aSk3 aSk5 "ValueError.__new__"))
    (s_NoSigns:K.lookup aSN=some ⟨aSc,aSod,.dict aSes aSn,aSsl⟩)
    (t_NoSigns:jy aSes=true)
    (i_NoSigns:nsFind aSes "__init__" = none)
    (l_NoHolds:K.lookup aH=some (excClassObj aHnm aHq aH aHN aHbs (.ref aP :: mE) aHhd aHsn aHsub aHab aHcol aHdd aHk0 aHk1 aHk2 aHk3 aHk5 "ValueError.__new__"))
    (s_NoHolds:K.lookup aHN=some ⟨aHc,aHod,.dict aHes aHn,aHsl⟩)
    (t_NoHolds:jy aHes=true)
    (i_NoHolds:nsFind aHes "__init__" = none)
    (f1_NoRow:aaW K (.ref aR) "__getattribute__" = some (some (.builtin "BaseException.__getattribute__")))
    (f2_NoRow:aaW K (.ref aR) "__getattr__" = some none)
    (f3_NoRow:aaW K (.ref aR) "__class__" = some (some (.builtin "object.__class__")))
    (f4_NoRow:aaq K (.ref aR) (.type "BaseException")=some true)
    (f5_NoRow:aaq K (.ref aR) (.type "object")=some true)
    (f6_NoRow:aaq K (.ref aR) (.type "ValueError")=some true)
    (f1_NoSigns:aaW K (.ref aS) "__getattribute__" = some (some (.builtin "BaseException.__getattribute__")))
    (f2_NoSigns:aaW K (.ref aS) "__getattr__" = some none)
    (f3_NoSigns:aaW K (.ref aS) "__class__" = some (some (.builtin "object.__class__")))
    (f4_NoSigns:aaq K (.ref aS) (.type "BaseException")=some true)
    (f5_NoSigns:aaq K (.ref aS) (.type "object")=some true)
    (f6_NoSigns:aaq K (.ref aS) (.type "ValueError")=some true)
    (f1_NoHolds:aaW K (.ref aH) "__getattribute__" = some (some (.builtin "BaseException.__getattribute__")))
    (f2_NoHolds:aaW K (.ref aH) "__getattr__" = some none)
    (f3_NoHolds:aaW K (.ref aH) "__class__" = some (some (.builtin "object.__class__")))
    (f4_NoHolds:aaq K (.ref aH) (.type "BaseException")=some true)
    (f5_NoHolds:aaq K (.ref aH) (.type "object")=some true)
    (f6_NoHolds:aaq K (.ref aH) (.type "ValueError")=some true)
    (c_NoRow:aa0 K aR=some aRcd)
    (y_NoRow:abb K (.ref aR)=some (.type "type"))
    (c_NoSigns:aa0 K aS=some aScd)
    (y_NoSigns:abb K (.ref aS)=some (.type "type"))
    (c_NoWay:aa0 K aW=some aWcd)
    (y_NoWay:abb K (.ref aW)=some (.type "type"))
    (c_NoNumber:aa0 K aN=some aNcd)
    (y_NoNumber:abb K (.ref aN)=some (.type "type"))
    (c_NoPlace:aa0 K aL=some aLcd)
    (y_NoPlace:abb K (.ref aL)=some (.type "type"))
    (c_NoFit:aa0 K aF=some aFcd)
    (y_NoFit:abb K (.ref aF)=some (.type "type"))
    (c_NoForm:aa0 K aO=some aOcd)
    (y_NoForm:abb K (.ref aO)=some (.type "type"))
    (c_NoAsk:aa0 K aA=some aAcd)
    (y_NoAsk:abb K (.ref aA)=some (.type "type"))
    (c_NoHolds:aa0 K aH=some aHcd)
    (y_NoHolds:abb K (.ref aH)=some (.type "type"))
    (c_NoText:aa0 K aT=some aTcd)
    (y_NoText:abb K (.ref aT)=some (.type "type"))
    (c_TooMany:aa0 K aM=some aMcd)
    (y_TooMany:abb K (.ref aM)=some (.type "type"))
    (u_NoRow_NoSigns:aaq K (.ref aR) (.ref aS)=some false)
    (d_NoRow_NoSigns:(Value.ref aR == Value.ref aS)=false)
    (u_NoRow_NoWay:aaq K (.ref aR) (.ref aW)=some false)
    (d_NoRow_NoWay:(Value.ref aR == Value.ref aW)=false)
    (u_NoRow_NoNumber:aaq K (.ref aR) (.ref aN)=some false)
    (d_NoRow_NoNumber:(Value.ref aR == Value.ref aN)=false)
    (u_NoRow_NoPlace:aaq K (.ref aR) (.ref aL)=some false)
    (d_NoRow_NoPlace:(Value.ref aR == Value.ref aL)=false)
    (u_NoRow_NoFit:aaq K (.ref aR) (.ref aF)=some false)
    (d_NoRow_NoFit:(Value.ref aR == Value.ref aF)=false)
    (u_NoRow_NoForm:aaq K (.ref aR) (.ref aO)=some false)
    (d_NoRow_NoForm:(Value.ref aR == Value.ref aO)=false)
    (u_NoRow_NoAsk:aaq K (.ref aR) (.ref aA)=some false)
    (d_NoRow_NoAsk:(Value.ref aR == Value.ref aA)=false)
    (u_NoRow_NoHolds:aaq K (.ref aR) (.ref aH)=some false)
    (d_NoRow_NoHolds:(Value.ref aR == Value.ref aH)=false)
    (u_NoRow_NoText:aaq K (.ref aR) (.ref aT)=some false)
    (d_NoRow_NoText:(Value.ref aR == Value.ref aT)=false)
    (u_NoRow_TooMany:aaq K (.ref aR) (.ref aM)=some false)
    (d_NoRow_TooMany:(Value.ref aR == Value.ref aM)=false)
    (u_NoSigns_NoRow:aaq K (.ref aS) (.ref aR)=some false)
    (d_NoSigns_NoRow:(Value.ref aS == Value.ref aR)=false)
    (u_NoSigns_NoWay:aaq K (.ref aS) (.ref aW)=some false)
    (d_NoSigns_NoWay:(Value.ref aS == Value.ref aW)=false)
    (u_NoSigns_NoNumber:aaq K (.ref aS) (.ref aN)=some false)
    (d_NoSigns_NoNumber:(Value.ref aS == Value.ref aN)=false)
    (u_NoSigns_NoPlace:aaq K (.ref aS) (.ref aL)=some false)
    (d_NoSigns_NoPlace:(Value.ref aS == Value.ref aL)=false)
    (u_NoSigns_NoFit:aaq K (.ref aS) (.ref aF)=some false)
    (d_NoSigns_NoFit:(Value.ref aS == Value.ref aF)=false)
    (u_NoSigns_NoForm:aaq K (.ref aS) (.ref aO)=some false)
    (d_NoSigns_NoForm:(Value.ref aS == Value.ref aO)=false)
    (u_NoSigns_NoAsk:aaq K (.ref aS) (.ref aA)=some false)
    (d_NoSigns_NoAsk:(Value.ref aS == Value.ref aA)=false)
    (u_NoSigns_NoHolds:aaq K (.ref aS) (.ref aH)=some false)
    (d_NoSigns_NoHolds:(Value.ref aS == Value.ref aH)=false)
    (u_NoSigns_NoText:aaq K (.ref aS) (.ref aT)=some false)
    (d_NoSigns_NoText:(Value.ref aS == Value.ref aT)=false)
    (u_NoSigns_TooMany:aaq K (.ref aS) (.ref aM)=some false)
    (d_NoSigns_TooMany:(Value.ref aS == Value.ref aM)=false)
    (u_NoHolds_NoRow:aaq K (.ref aH) (.ref aR)=some false)
    (d_NoHolds_NoRow:(Value.ref aH == Value.ref aR)=false)
    (u_NoHolds_NoSigns:aaq K (.ref aH) (.ref aS)=some false)
    (d_NoHolds_NoSigns:(Value.ref aH == Value.ref aS)=false)
    (u_NoHolds_NoWay:aaq K (.ref aH) (.ref aW)=some false)
    (d_NoHolds_NoWay:(Value.ref aH == Value.ref aW)=false)
    (u_NoHolds_NoNumber:aaq K (.ref aH) (.ref aN)=some false)
    (d_NoHolds_NoNumber:(Value.ref aH == Value.ref aN)=false)
    (u_NoHolds_NoPlace:aaq K (.ref aH) (.ref aL)=some false)
    (d_NoHolds_NoPlace:(Value.ref aH == Value.ref aL)=false)
    (u_NoHolds_NoFit:aaq K (.ref aH) (.ref aF)=some false)
    (d_NoHolds_NoFit:(Value.ref aH == Value.ref aF)=false)
    (u_NoHolds_NoForm:aaq K (.ref aH) (.ref aO)=some false)
    (d_NoHolds_NoForm:(Value.ref aH == Value.ref aO)=false)
    (u_NoHolds_NoAsk:aaq K (.ref aH) (.ref aA)=some false)
    (d_NoHolds_NoAsk:(Value.ref aH == Value.ref aA)=false)
    (u_NoHolds_NoText:aaq K (.ref aH) (.ref aT)=some false)
    (d_NoHolds_NoText:(Value.ref aH == Value.ref aT)=false)
    (u_NoHolds_TooMany:aaq K (.ref aH) (.ref aM)=some false)
    (d_NoHolds_TooMany:(Value.ref aH == Value.ref aM)=false)
    (lD:K.lookup tD=some ⟨ocD,odD,.seq #[.ref aE] nD,slD⟩)
    (lE:K.lookup aE=some ⟨.type "tuple",odE,.seq #[] nE,slE⟩)
    (hC:PySem.W.codeHdIn K cL T=true) :
    ∃ fd:FuncData,(∀ (s:Shared) (v:Value),BindsTo s fd ⟨[v],[]⟩ [("script",v)])∧∀ base:Heap,K.In base→base.Ns mainGlobals mg→base.BuiltinsAt mg T→FnOk l.prog w K mg base CX0 16 fa fd ["script"] (qN K T):=by
  have e:=hfa.symm.trans (aaN X G a45);cases e;obtain ⟨_,bE,cq,df⟩:=q0.use X G (ps:=["thing"]) fun _ _ _ _ _ _ us hl=>by obtain ⟨_,rfl⟩:=us1 hl;rfl
  obtain ⟨_,bC,co,dd⟩:=q1.use X G (ps:=["thing"]) fun _ _ _ _ _ _ us hl=>by obtain ⟨_,rfl⟩:=us1 hl;rfl
  obtain ⟨_,bD,cp,de⟩:=q2.use X G (ps:=["thing"]) fun _ _ _ _ _ _ us hl=>by obtain ⟨_,rfl⟩:=us1 hl;rfl
  obtain ⟨_,bA,cm,da⟩:=q3.use X G (ps:=["thing"]) fun _ _ _ _ _ _ us hl=>by obtain ⟨_,rfl⟩:=us1 hl;rfl
  obtain ⟨_,bO,cA,dp⟩:=q4.use X G (ps:=["thing"]) fun _ _ _ _ _ _ us hl=>by obtain ⟨_,rfl⟩:=us1 hl;rfl
  obtain ⟨_,bP,cB,dq⟩:=q5.use X G (ps:=["thing"]) fun _ _ _ _ _ _ us hl=>by obtain ⟨_,rfl⟩:=us1 hl;rfl
  obtain ⟨_,bV,cG,dw⟩:=q6.use X G (ps:=["many"]) fun _ _ _ _ _ _ us hl=>by obtain ⟨_,rfl⟩:=us1 hl;rfl
  obtain ⟨_,bq,cf,c3⟩:=q7.use X G (ps:=["stretch"]) fun _ _ _ _ _ _ us hl=>by obtain ⟨_,rfl⟩:=us1 hl;rfl
  obtain ⟨_,bB,cn,dc⟩:=q8.use X G (ps:=["thing"]) fun _ _ _ _ _ _ us hl=>by obtain ⟨_,rfl⟩:=us1 hl;rfl
  obtain ⟨_,bp,ce,c2⟩:=q9.use X G (ps:=["signs","many"]) fun _ _ _ _ _ _ us hl=>by obtain ⟨_,_,rfl⟩:=us2 hl;rfl
  obtain ⟨_,bY,cJ,dz⟩:=q10.use X G (ps:=["signs","counts","left","right"]) fun _ _ _ _ _ _ us hl=>by obtain ⟨_,_,_,_,rfl⟩:=us4 hl;rfl
  obtain ⟨_,bW,cH,dx⟩:=q11.use X G (ps:=["row","signs","counts","number"]) fun _ _ _ _ _ _ us hl=>by obtain ⟨_,_,_,_,rfl⟩:=us4 hl;rfl
  obtain ⟨_,bG,ct,dh⟩:=q12.use X G (ps:=["signs","counts","stretch"]) fun _ _ _ _ _ _ us hl=>by obtain ⟨_,_,_,rfl⟩:=us3 hl;rfl
  obtain ⟨_,bT,cF,dv⟩:=q13.use X G (ps:=["left","sign","right"]) fun _ _ _ _ _ _ us hl=>by obtain ⟨_,_,_,rfl⟩:=us3 hl;rfl
  have bR:=vQ (st:=br) l14 c14 k14;have cD:=bR.binds (ps:=["row","signs","left_out"]) (ds:=[]) fun _ _ _ _ _ _ s us KX hl=>match us,hl with|[_,_,_],_=>BindsTo.of_defaults rfl (KX _ _ lD) rfl rfl rfl
  have bZ:=bR.binds (ps:=["row","signs","left_out"]) (ds:=[.ref aE]) fun _ _ _ _ _ _ s us KX hl=>by obtain ⟨a,b,rfl⟩:=wC hl;exact BindsTo.of_defaults rfl (KX _ _ lD) rfl rfl rfl
  have dt:=aaN X G a14;obtain ⟨_,bF,cs,dg⟩:=q15.use X G (ps:=["picks","joints"]) fun _ _ _ _ _ _ us hl=>by obtain ⟨_,_,rfl⟩:=us2 hl;rfl
  have bQ:=vR (st:=bz) l16 c16 k16;have cC:Binds K _ ["found"] []:=.all (fun us hl=>match us,hl with|[_],_=>(rfl:bindArgs (aaY "pick_three" "pick_three" (bU bz) (bn bz) (aj bz) .none kV16 dc16 pm16 an16 (.ref cL) ct16) _=_));have dr:=aaN X G a16;obtain ⟨_,bw,ck,c8⟩:=q17.use X G (ps:=["thing","many"]) fun _ _ _ _ _ _ us hl=>by obtain ⟨_,_,rfl⟩:=us2 hl;rfl
  obtain ⟨_,bx,cl,c9⟩:=q18.use X G (ps:=["thing","many"]) fun _ _ _ _ _ _ us hl=>by obtain ⟨_,_,rfl⟩:=us2 hl;rfl
  obtain ⟨_,bv,cj,c7⟩:=q19.use X G (ps:=["row","signs","holds"]) fun _ _ _ _ _ _ us hl=>by obtain ⟨_,_,_,rfl⟩:=us3 hl;rfl
  obtain ⟨_,bt,ch,c5⟩:=q20.use X G (ps:=["row","signs","holds"]) fun _ _ _ _ _ _ us hl=>by obtain ⟨_,_,_,rfl⟩:=us3 hl;rfl
  obtain ⟨_,bm,cc,c0⟩:=q21.use X G (ps:=["row","signs","holds"]) fun _ _ _ _ _ _ us hl=>by obtain ⟨_,_,_,rfl⟩:=us3 hl;rfl
  obtain ⟨_,bu,ci,c6⟩:=q22.use X G (ps:=["row","signs","holds"]) fun _ _ _ _ _ _ us hl=>by obtain ⟨_,_,_,rfl⟩:=us3 hl;rfl
  obtain ⟨_,bI,cu,di⟩:=q23.use X G (ps:=["row","signs","holds"]) fun _ _ _ _ _ _ us hl=>by obtain ⟨_,_,_,rfl⟩:=us3 hl;rfl
  obtain ⟨_,bL,cx,dl⟩:=q24.use X G (ps:=["row","signs","holds"]) fun _ _ _ _ _ _ us hl=>by obtain ⟨_,_,_,rfl⟩:=us3 hl;rfl
  obtain ⟨_,bM,cy,dm⟩:=q25.use X G (ps:=["row","signs","holds"]) fun _ _ _ _ _ _ us hl=>by obtain ⟨_,_,_,rfl⟩:=us3 hl;rfl
  obtain ⟨_,bN,cz,dn⟩:=q26.use X G (ps:=["row","signs","thing"]) fun _ _ _ _ _ _ us hl=>by obtain ⟨_,_,_,rfl⟩:=us3 hl;rfl
  obtain ⟨_,bK,cw,dk⟩:=q27.use X G (ps:=["many","signs","holds"]) fun _ _ _ _ _ _ us hl=>by obtain ⟨_,_,_,rfl⟩:=us3 hl;rfl
  obtain ⟨_,bJ,cv,dj⟩:=q28.use X G (ps:=["many","holds"]) fun _ _ _ _ _ _ us hl=>by obtain ⟨_,_,rfl⟩:=us2 hl;rfl
  obtain ⟨_,bs,cg,c4⟩:=q29.use X G (ps:=["one","other"]) fun _ _ _ _ _ _ us hl=>by obtain ⟨_,_,rfl⟩:=us2 hl;rfl
  obtain ⟨_,bo,cd,c1⟩:=q30.use X G (ps:=["many","signs","left_out"]) fun _ _ _ _ _ _ us hl=>by obtain ⟨_,_,_,rfl⟩:=us3 hl;rfl
  obtain ⟨_,bS,cE,du⟩:=q31.use X G (ps:=["row","signs","holds"]) fun _ _ _ _ _ _ us hl=>by obtain ⟨_,_,_,rfl⟩:=us3 hl;rfl
  obtain ⟨_,bX,cI,dy⟩:=q32.use X G (ps:=["row","signs","pick"]) fun _ _ _ _ _ _ us hl=>by obtain ⟨_,_,_,rfl⟩:=us3 hl;rfl
  obtain ⟨_,bk,ca,cY⟩:=q33.use X G (ps:=["cell"]) fun _ _ _ _ _ _ us hl=>by obtain ⟨_,rfl⟩:=us1 hl;rfl
  obtain ⟨_,bb,b1,cM⟩:=q34.use X G (ps:=["well","many"]) fun _ _ _ _ _ _ us hl=>by obtain ⟨_,_,rfl⟩:=us2 hl;rfl
  obtain ⟨_,bg,b6,cT⟩:=q35.use X G (ps:=["well","many"]) fun _ _ _ _ _ _ us hl=>by obtain ⟨_,_,rfl⟩:=us2 hl;rfl
  obtain ⟨_,bi,b8,cV⟩:=q36.use X G (ps:=["well"]) fun _ _ _ _ _ _ us hl=>by obtain ⟨_,rfl⟩:=us1 hl;rfl
  obtain ⟨_,bl,cb,cZ⟩:=q37.use X G (ps:=["caught"]) fun _ _ _ _ _ _ us hl=>by obtain ⟨_,rfl⟩:=us1 hl;rfl
  obtain ⟨_,be,b4,cQ⟩:=q38.use X G (ps:=["well","row"]) fun _ _ _ _ _ _ us hl=>by obtain ⟨_,_,rfl⟩:=us2 hl;rfl
  obtain ⟨_,bf,b5,cS⟩:=q39.use X G (ps:=[]) fun _ _ _ _ _ _ us hl=>by obtain rfl:=us0 hl;rfl
  obtain ⟨_,bj,b9,cW⟩:=q40.use X G (ps:=["well","many"]) fun _ _ _ _ _ _ us hl=>by obtain ⟨_,_,rfl⟩:=us2 hl;rfl
  obtain ⟨_,bc,b2,cN⟩:=q41.use X G (ps:=["well","many"]) fun _ _ _ _ _ _ us hl=>by obtain ⟨_,_,rfl⟩:=us2 hl;rfl
  obtain ⟨_,ba,b0,cK⟩:=q42.use X G (ps:=["way","row","signs","holds"]) fun _ _ _ _ _ _ us hl=>by obtain ⟨_,_,_,_,rfl⟩:=us4 hl;rfl
  obtain ⟨_,bh,b7,cU⟩:=q43.use X G (ps:=["way","row","signs","holds"]) fun _ _ _ _ _ _ us hl=>by obtain ⟨_,_,_,_,rfl⟩:=us4 hl;rfl
  obtain ⟨_,bd,b3,cO⟩:=q44.use X G (ps:=["well","many","holds"]) fun _ _ _ _ _ _ us hl=>by obtain ⟨_,_,_,rfl⟩:=us3 hl;rfl
  have bH:=uH (st:=iB) l45 c45 k45;have B:Bu K mg:=⟨aaA X G dR,aaA X G dQ,aaA X G dP,aaA X G dE,aaA X G d0,aaA X G d2,aaA X G dS,aaA X G dZ,aaA X G dV,aaA X G dW,aaA X G dK,aaA X G d1,aaA X G dC,aaA X G dU,aaA X G dT,aaA X G dB,aaA X G dG,aaA X G dF,aaA X G dY,aaA X G dX,aaA X G dD,aaA X G d3⟩
  have B3:Ch K mg tMn tMs cP:=⟨aaN X G gMn,aaN X G gMs,aaN X G gP,fun H=>.inr ⟨_,_,_,lP,rfl,rfl,by show 7≤sizeLine;decide,.cons ⟨_,rfl⟩ (.cons ⟨_,rfl⟩ (.cons ⟨_,rfl⟩ (.cons ⟨_,rfl⟩ (.cons ⟨_,rfl⟩ (.cons ⟨_,rfl⟩ (.cons ⟨_,rfl⟩ .nil))))))⟩⟩
  have XC:Xc K mg aP aR aS aH:=⟨aaN X G n_PutError,aaN X G n_NoRow,aaN X G n_NoSigns,aaN X G n_NoHolds,qA l_NoRow s_NoRow t_NoRow i_NoRow l_PutError s_PutError t_PutError i_PutError,qA l_NoSigns s_NoSigns t_NoSigns i_NoSigns l_PutError s_PutError t_PutError i_PutError,qA l_NoHolds s_NoHolds t_NoHolds i_NoHolds l_PutError s_PutError t_PutError i_PutError,mG l_NoRow l_PutError,mG l_NoSigns l_PutError,mG l_NoHolds l_PutError⟩
  have XK:Xk mg aR aS aW aN aL aF aO aA aH aT aM:=⟨aaN X G n_NoRow,aaN X G n_NoSigns,aaN X G n_NoWay,aaN X G n_NoNumber,aaN X G n_NoPlace,aaN X G n_NoFit,aaN X G n_NoForm,aaN X G n_NoAsk,aaN X G n_NoHolds,aaN X G n_NoText,aaN X G n_TooMany,aaA X G dA⟩
  have E0:Kg K aR aS aW aN aL aF aO aA aH aT aM (.ref aR) 0:=⟨kI,(aZ d_NoRow_NoSigns c_NoSigns y_NoSigns u_NoRow_NoSigns),(aZ d_NoRow_NoWay c_NoWay y_NoWay u_NoRow_NoWay),(aZ d_NoRow_NoNumber c_NoNumber y_NoNumber u_NoRow_NoNumber),(aZ d_NoRow_NoHolds c_NoHolds y_NoHolds u_NoRow_NoHolds),(aZ d_NoRow_TooMany c_TooMany y_TooMany u_NoRow_TooMany),(aZ d_NoRow_NoText c_NoText y_NoText u_NoRow_NoText),kJ (aZ d_NoRow_NoAsk c_NoAsk y_NoAsk u_NoRow_NoAsk) (aZ d_NoRow_NoFit c_NoFit y_NoFit u_NoRow_NoFit) (aZ d_NoRow_NoForm c_NoForm y_NoForm u_NoRow_NoForm) (aZ d_NoRow_NoPlace c_NoPlace y_NoPlace u_NoRow_NoPlace)⟩
  have X0:Kx K aR:=⟨qz l_NoRow f1_NoRow f2_NoRow f3_NoRow f4_NoRow f5_NoRow,nz f6_NoRow⟩
  have E1:Kg K aR aS aW aN aL aF aO aA aH aT aM (.ref aS) 1:=⟨(aZ d_NoSigns_NoRow c_NoRow y_NoRow u_NoSigns_NoRow),kI,(aZ d_NoSigns_NoWay c_NoWay y_NoWay u_NoSigns_NoWay),(aZ d_NoSigns_NoNumber c_NoNumber y_NoNumber u_NoSigns_NoNumber),(aZ d_NoSigns_NoHolds c_NoHolds y_NoHolds u_NoSigns_NoHolds),(aZ d_NoSigns_TooMany c_TooMany y_TooMany u_NoSigns_TooMany),(aZ d_NoSigns_NoText c_NoText y_NoText u_NoSigns_NoText),kJ (aZ d_NoSigns_NoAsk c_NoAsk y_NoAsk u_NoSigns_NoAsk) (aZ d_NoSigns_NoFit c_NoFit y_NoFit u_NoSigns_NoFit) (aZ d_NoSigns_NoForm c_NoForm y_NoForm u_NoSigns_NoForm) (aZ d_NoSigns_NoPlace c_NoPlace y_NoPlace u_NoSigns_NoPlace)⟩
  have X1:Kx K aS:=⟨qz l_NoSigns f1_NoSigns f2_NoSigns f3_NoSigns f4_NoSigns f5_NoSigns,nz f6_NoSigns⟩
  have E4:Kg K aR aS aW aN aL aF aO aA aH aT aM (.ref aH) 4:=⟨(aZ d_NoHolds_NoRow c_NoRow y_NoRow u_NoHolds_NoRow),(aZ d_NoHolds_NoSigns c_NoSigns y_NoSigns u_NoHolds_NoSigns),(aZ d_NoHolds_NoWay c_NoWay y_NoWay u_NoHolds_NoWay),(aZ d_NoHolds_NoNumber c_NoNumber y_NoNumber u_NoHolds_NoNumber),kI,(aZ d_NoHolds_TooMany c_TooMany y_TooMany u_NoHolds_TooMany),(aZ d_NoHolds_NoText c_NoText y_NoText u_NoHolds_NoText),kJ (aZ d_NoHolds_NoAsk c_NoAsk y_NoAsk u_NoHolds_NoAsk) (aZ d_NoHolds_NoFit c_NoFit y_NoFit u_NoHolds_NoFit) (aZ d_NoHolds_NoForm c_NoForm y_NoForm u_NoHolds_NoForm) (aZ d_NoHolds_NoPlace c_NoPlace y_NoPlace u_NoHolds_NoPlace)⟩
  have X4:Kx K aH:=⟨qz l_NoHolds f1_NoHolds f2_NoHolds f3_NoHolds f4_NoHolds f5_NoHolds,nz f6_NoHolds⟩
  have hE:∀ H,SqT K H aE []:=fun H=>.inr ⟨_,_,_,lE,rfl,rfl,by show 0≤sizeLine;decide,.nil⟩;refine ⟨aaY "law" "law" (bU iB) (bn iB) (aj iB) .none kV45 dc45 pm45 an45 cd45 ct45,fun s v=>.of_eq rfl,fun base KB _ HB=>?_⟩;have Cd:=PySem.W.codeHd_of_K KB hC;have aG:Cal l.prog w K mg base "is_whole" 1 ["thing"] (iz K):=⟨_,_,oH bE B,cq,bE.kp,df⟩
  have al:Cal l.prog w K mg base "_law_well" 1 ["cell"] pP:=⟨_,_,vC bk B,ca,bk.kp,cY⟩
  have ab:Cal l.prog w K mg base "_law_draw" 2 ["well","many"] fI:=⟨_,_,vE bb,b1,bb.kp,cM⟩
  have ag:Cal l.prog w K mg base "_law_row" 3 ["well","many"] tq:=⟨_,_,xf bg B ab,b6,bg.kp,cT⟩
  have ai:Cal l.prog w K mg base "_law_signs" 3 ["well"] ia:=⟨_,_,mZ bi ab,b8,bi.kp,cV⟩
  have a6:Cal l.prog w K mg base "shorter_first" 1 ["many"] rO:=⟨_,_,jf bV B,cG,bV.kp,dw⟩
  have aC:Cal l.prog w K mg base "is_row" 2 ["thing"] mK:=⟨_,_,r_ bC B B3 aG,co,bC.kp,dd⟩
  have aD:Cal l.prog w K mg base "is_signs" 1 ["thing"] iU:=⟨_,_,oJ bD B B3,cp,bD.kp,de⟩
  have a9:Cal l.prog w K mg base "ways_by_cut" 1 ["signs","counts","left","right"] qM:=⟨_,_,ke bY B,cJ,bY.kp,dz⟩
  have ap:Cal l.prog w K mg base "counts_up_to" 2 ["signs","many"] qO:=⟨_,_,jF bp B a9,ce,bp.kp,c2⟩
  have aq:Cal l.prog w K mg base "cuts_of" 1 ["stretch"] mO:=⟨_,_,qj bq B,cf,bq.kp,c3⟩
  have a5:Cal l.prog w K mg base "put_sign" 1 ["left","sign","right"] iT:=⟨_,_,oB bT,cF,bT.kp,dv⟩
  have aJ:Cal l.prog w K mg base "joints_of" 2 ["signs","counts","stretch"] jR:=⟨_,_,ng bG B aq,ct,bG.kp,dh⟩
  have aI:Cal l.prog w K mg base "join_picks" 2 ["picks","joints"] wM:=⟨_,_,lQ bF a5,cs,bF.kp,dg⟩
  have a2:Cal l.prog w K mg base "pick_three" 4 ["found"] (pT T):=⟨_,_,lO bQ Cd HB B.imin,cC,bQ.kp,dr⟩
  have a3:Cal l.prog w K mg base "picks_by_stretch" 5 ["row","signs","left_out"] (tu (K:=K) T):=⟨_,_,gX bR B ap a6 aJ aI a2,cD,bR.kp,dt⟩
  have a0:db l.prog w K mg base "need_row" 3 ["thing"] (h_ aR):=⟨_,_,mY bO XC aC,cA,bO.kp,dp⟩
  have a1:db l.prog w K mg base "need_signs" 2 ["thing"] (fG aS):=⟨_,_,ki bP XC aD,cB,bP.kp,dq⟩
  have aB:Cal l.prog w K mg base "is_pair" 2 ["thing"] iV:=⟨_,_,oM bB B aG,cn,bB.kp,dc⟩
  have az:Cal l.prog w K mg base "is_many" 2 ["thing"] iW:=⟨_,_,oN bA B B3 aG,cm,bA.kp,da⟩
  have ay:Cal l.prog w K mg base "is_list_of_stretches" 3 ["thing","many"] mL:=⟨_,_,tZ bx B B3 aB,cl,bx.kp,c9⟩
  have ax:Cal l.prog w K mg base "is_holds" 4 ["thing","many"] fH:=⟨_,_,nh bw B B3 az ay,ck,bw.kp,c8⟩
  have aY:db l.prog w K mg base "need_holds" 5 ["row","signs","thing"] (cR aR aS aH):=⟨_,_,km bN B XC a0 a1 ax,cz,bN.kp,dn⟩
  have a7:Cal l.prog w K mg base "way_at" 11 ["row","signs","counts","number"] (mI 9):=⟨_,_,rZ bW cH dx B a9 9,cH,bW.kp,dx⟩
  have ar:Cal l.prog w K mg base "do_cross" 1 ["one","other"] mP:=⟨_,_,oO bs,cg,bs.kp,c4⟩
  have aQ:Cal l.prog w K mg base "list_left_out" 2 ["many","holds"] rP:=⟨_,_,oG bJ B a6 ar,cv,bJ.kp,dj⟩
  have ao:Cal l.prog w K mg base "count_kept" 2 ["many","signs","left_out"] tz:=⟨_,_,lR bo B a6 aq,cd,bo.kp,c1⟩
  have aw:db l.prog w K mg base "how_many_held" 6 ["row","signs","holds"] (cX aR aS aH T):=⟨_,_,iJ bv B aY ao aQ,cj,bv.kp,c7⟩
  have a4:db l.prog w K mg base "picks_held" 6 ["row","signs","holds"] (l4 aR aS aH T):=⟨_,_,kh bS B aY aQ a3,cE,bS.kp,du⟩
  have a8:Cal l.prog w K mg base "way_picked" 12 ["row","signs","pick"] gu:=⟨_,_,lN bX B a7 ap,cI,bX.kp,dy⟩
  have au:db l.prog w K mg base "first_held" 13 ["row","signs","holds"] (cX aR aS aH T):=⟨_,_,kw bt B a4 a8,ch,bt.kp,c5⟩
  have av:db l.prog w K mg base "greatest_held" 13 ["row","signs","holds"] (cX aR aS aH T):=⟨_,_,iK bu B a4 a8,ci,bu.kp,c6⟩
  have aK:db l.prog w K mg base "least_held" 13 ["row","signs","holds"] (cX aR aS aH T):=⟨_,_,ku bI B a4 a8,cu,bI.kp,di⟩
  have an:db l.prog w K mg base "bounds_held" 7 ["row","signs","holds"] (cX aR aS aH T):=⟨_,_,jG bm B a4,cc,bm.kp,c0⟩
  have aU:Cal l.prog w K mg base "list_may_be" 3 ["many","signs","holds"] mJ:=⟨_,_,kn bK B a6 aQ ao,cw,bK.kp,dk⟩
  have aV:db l.prog w K mg base "may_be_parts" 6 ["row","signs","holds"] (cX aR aS aH T):=⟨_,_,jg bL B aY aU,cx,bL.kp,dl⟩
  have aX:db l.prog w K mg base "must_be_parts" 6 ["row","signs","holds"] (cX aR aS aH T):=⟨_,_,iI bM B aY aU aQ ao,cy,bM.kp,dm⟩
  have aa:db l.prog w K mg base "_law_asked" 14 ["way","row","signs","holds"] (tE aR aS aH T):=⟨_,_,t_ ba aw au an av aK aV aX,b0,ba.kp,cK⟩
  have am:Cal l.prog w K mg base "_law_word" 1 ["caught"] (tj K aR aS aW aN aL aF aO aA aH aT aM):=⟨_,_,vB bl B XK,cb,bl.kp,cZ⟩
  have ah:Cal l.prog w K mg base "_law_said" 15 ["way","row","signs","holds"] (pQ T):=⟨_,_,vD bh B XC E0 E1 E4 X0 X1 X4 aa am,b7,bh.kp,cU⟩
  have af:Cal l.prog w K mg base "_law_no_signs" 1 [] (pU T):=⟨_,_,oD bf,b5,bf.kp,cS⟩
  have ae:Cal l.prog w K mg base "_law_no_rows" 3 ["well","row"] (pV T):=⟨_,_,qi be B ab,b4,be.kp,cQ⟩
  have ad:Cal l.prog w K mg base "_law_no_holds" 3 ["well","many","holds"] (pW T):=⟨_,_,oF bd B ab,b3,bd.kp,cO⟩
  have ak:Cal l.prog w K mg base "_law_stretch" 3 ["well","many"] tm:=⟨_,_,qh bj ab,b9,bj.kp,cW⟩
  have ac:Cal l.prog w K mg base "_law_holds" 4 ["well","many"] mM:=⟨_,_,m_ bc B ab ak,b2,bc.kp,cN⟩
  exact xg bH B al ab ag ai ac ad ax ae af ah
theorem walk {T c:Addr} {l:PySem.W.OpenLaw} {q:Program} {loose:List Str} {XP:(Str→Option Value)→Heap→Prop} {YP:World→Heap→Prop} {d:DefRec} {K:Params→aaa} (hn:l.most=some 63) (hdf:d.params.defaults=[]) (hi:PyProof.Rows.importsNone q=true)
    (hY:∀ (w:World) (h:Heap),YP w h→(K w.params).In h∧h.get? T=some (PySem.W.tabObj #[])) (hC:∀ w:World,PySem.W.codeHdIn (K w.params) c T=true) (hKT:∀ w:World,(K w.params).lookup T=none)
    (F:∀ (w:World) (mg:Str→Option Value) (fa:Addr) (h:Heap),(K w.params).In h→h.Ns mainGlobals mg→mg d.name=some (.ref fa) →
      ∃ fd:FuncData,(∀ (s:Shared) (u:Value),BindsTo s fd ⟨[u],[]⟩ [("script",u)])∧∀ base:Heap,(K w.params).In base→base.Ns mainGlobals mg→base.BuiltinsAt mg T→FnOk l.prog w (K w.params) mg base CX0 16 fa fd ["script"] (qN (K w.params) T)) :
    PySem.W.WalkO q loose XP YP l.row.toRowW d [] (fun f vs=>PySem.call f vs) :=
  L2.walk_ofT (T:=T) (c:=c) (qual:=yf) (n:=63) (k:=16) (x:="script") (CX:=fun _=>CX0) (sp:=fun w=>qN (K w.params) T) hn (by decide) hdf ⟨rfl,by decide,by decide,rfl⟩ hi hY hC hKT F (fun _ _ a ns hl hT hS=>⟨a,ns,rfl,hS,hl,⟨_,hT⟩,fun _=>rfl⟩) fun _ _ _ _ _ z=>z
end Put
namespace PySem.W.Fast
def tw9040321037397491823:=0
def tw3245362825260997098:=0
def tw9014256184876634580:=0
def tw14761973738583518246:=0
def tw7978813861073110127:=0
def tw77081851584966624:=0
def tw5631465008157257231:=0
def tw17728052503259378156:=0
def tw17130783240523102765:=0
def tw10364513311852958982:=0
def tw15053666760435447455:=0
def tw3258906544657943368:=0
def tw930355252456305786:=0
def tw18380598798287397065:=0
def tw2520499105056371984:=0
def tw7454775074886346730:=0
def tw1189541679813658225:=0
def tw8865954909550067206:=0
def tw5199575061397149831:=0
def tw12806092849334289728:=0
def tw18032774360357663867:=0
def tw9985095398324747741:=0
def tw7616835071412083828:=0
def tw16257704211999615172:=0
def tw8247441088071305425:=0
def tw12605201147447079392:=0
def tw10067233615863974096:=0
def tw8839475061549692758:=0
def tw17002164371473759765:=0
def tw8530300628013483633:=0
def tw1112887714943368580:=0
def tw7939323733734771798:=0
def tw11097972947271539057:=0
def tw1068408665679788898:=0
def tw17890020697140287908:=0
def tw7895251644298133001:=0
def tw2878161833331769737:=0
def tw1554378572458623025:=0
def tw13547613161612171514:=0
def tw6230039993398916720:=0
def tw8174969221483524424:=0
def tw3686212623650097144:=0
def tw10453111504829259887:=0
def tw1083617931187369495:=0
def tw15957592873793847187:=0
def tw5379560705423039176:=0
def tw10937733368875604254:=0
def tw8670922115253641322:=0
def tw11691473227610622574:=0
def tw5789163908002368949:=0
def tw1533344611649771550:=0
def tw16747370633657134740:=0
def tw2049883330182959435:=0
def tw319702789950482980:=0
def tw10266184518162087647:=0
def tw10208750337039852569:=0
def tw2382618831974423905:=0
def tw1511759131188588262:=0
def tw11622044653122805042:=0
def tw6676612158148722930:=0
def tw12219711809194573642:=0
def tw4302860600437171211:=0
def tw18079155184973296637:=0
def tw14932099173926272339:=0
def tw1467787141222952639:=0
def tw16897932827031638478:=0
def tw12247895306079999437:=0
def tw3689142918463394122:=0
def tw14231157145860166108:=0
def tw10449358683776682771:=0
def tw13564356658582819624:=0
def tw9907415698760844886:=0
def tw15658161223099015368:=0
def tw5122711805878533066:=0
def tw2699243790870906487:=0
def tw5318954765610547423:=0
def tw11275129734935118391:=0
def tw15420894063608357119:=0
def tw15929496591181859661:=0
def tw17725376969347872403:=0
def tw15507821951894002874:=0
def tw5111956861420768923:=0
def tw17301964513162818297:=0
def tw7594165045203072163:=0
def tw12194915705326476455:=0
def tw11718070290833988403:=0
def tw16756139185279291759:=0
def tw7622451507207500579:=0
def tw12390828443259566265:=0
def tw10066699073311517273:=0
def tw1735472274746788189:=0
def tw2524151456395532333:=0
def tw275060887652081356:=0
def tw8896421495016467297:=0
def tw8845821133675008756:=0
def tw4484028657233484180:=0
def tw15033938123490103918:=0
def tw7432383213282194233:=0
def tw4694781588969806961:=0
def tw9174394795731824655:=0
def tw17946325212140994082:=0
def tw9229312799782389511:=0
def tw11522411486862836798:=0
def tw8842486556055911440:=0
def tw5907680453931574157:=0
def tw10493974905254362638:=0
def tw9627485380457577918:=0
def tw846442199734788843:=0
def tw715899703352384169:=0
def tw7248135879946291435:=0
def tw18439331723147813360:=0
def tw16702970616280304172:=0
def tw11591516708595499806:=0
def tw1812920207828366471:=0
def tw3541806921385911293:=0
def tw14783175981422960598:=0
def tw9004175343233847640:=0
def tw5534929382530535103:=0
def tw6123139975461895532:=0
def tw8588742774405872404:=0
def tw11778886320153965440:=0
def tw10033014994278460031:=0
def tw2151482385598588051:=0
def tw18227003426363128330:=0
def tw12605239955829047681:=0
def tw4760256572477467679:=0
def tw10040574280831942805:=0
def tw11432136720226938324:=0
def tw3952811058144175487:=0
def tw9169056090101742620:=0
def tw3791039522534774470:=0
def tw439741269756666230:=0
def tw16458417225084462640:=0
def tw5130034944479194072:=0
def tw16856155020235670510:=0
def tw9010589893500745556:=0
def tw15504934647764348263:=0
def tw15837226580905540297:=0
def tw5989907852467811006:=0
def tw18161089209476982013:=0
def tw3360259477954446633:=0
def tw6587587196029371732:=0
def tw9654298406847407002:=0
def tw11658818639511076044:=0
def tw2010258175741991378:=0
def tw431685100587167973:=0
def tw9349233445699780142:=0
def tw6752163105608291159:=0
def tw5782904296439366061:=0
def tw13156457227724980495:=0
def tw13167310354432710912:=0
def tw2964765035480827255:=0
def tw4666532516450898214:=0
def tw18388714982951420537:=0
def tw16854368607121234656:=0
def tw419420907510531248:=0
def tw2338972995514695987:=0
def tw5025988863280144602:=0
def tw3188089245149187174:=0
def tw7921792280933933464:=0
def tw150894845335042489:=0
def tw2196541794208803207:=0
def tw7946179825349000389:=0
def tw7474088028144700127:=0
def tw12684466552732082688:=0
def tw5319277410766944297:=0
def tw12949190635647931415:=0
def tw13853272338081762981:=0
def tw5596466329435252409:=0
def tw2133012118358004532:=0
def tw1650203595501631483:=0
def tw10125915239138708511:=0
def tw1055750180377471883:=0
def tw10517234947338930982:=0
def tw508155053334305247:=0
def tw4770632141763069820:=0
def tw9505778164883643209:=0
def tw1502439351477768330:=0
def tw9559028865032604879:=0
def tw6698023048785594287:=0
def tw3405727320481341551:=0
def tw10631978816775852435:=0
def tw16481383489402570682:=0
def tw676890126231209577:=0
def tw87876668782012451:=0
def tw10717624431671885000:=0
def tw18158235287788384250:=0
def tw15462303271369769171:=0
def tw295630488720222661:=0
def tw7208065211427695500:=0
def tw8862022793462541306:=0
def tw6639076867335166398:=0
def tw10084945553550784277:=0
def tw4765630745161420075:=0
def tw7053931409543650958:=0
def tw377031505590412191:=0
def tw11018635513999799902:=0
def tw8005878455033681770:=0
def tw425840197449008238:=0
def tw11155118283957752838:=0
def tw7555790883009622799:=0
def tw258487850803407690:=0
def tw7585138841604731970:=0
def tw16668091546529475973:=0
def tw568180610063514148:=0
def tw16938280147879203419:=0
def tw16332686173117986734:=0
def tw12890071571347995411:=0
def tw8158537073912697403:=0
def tw8962682274564425503:=0
def tw2353459998456628204:=0
def tw13401345992953118753:=0
def tw13946893405014583287:=0
def tw11773130955469769862:=0
def tw3503018594374764391:=0
def tw4717442264378984873:=0
def tw5856700348812219000:=0
def tw2781058948537252740:=0
def tw11352267854401615768:=0
def tw5321733619734511892:=0
def tw1072689928128525892:=0
def tw17267923933044900385:=0
def tw13686085490066799274:=0
def tw5167173412599367891:=0
def tw5973880489262849374:=0
def tw9945703856208791900:=0
def tw9148475701848014605:=0
def tw12205043917773520690:=0
def tw12088314793490668170:=0
def tw18129962871899120674:=0
def tw3713886288261829208:=0
def tw13163839601315218786:=0
def tw9209380781116799557:=0
def tw4014872093560696769:=0
def tw14296147870762915686:=0
def tw5462099611610098992:=0
def tw4956170620602913302:=0
def tw6222210316286058863:=0
def tw14822037061890010226:=0
def tw550487881776579788:=0
def tw9851080867406350999:=0
def tw13735000628118699932:=0
def tw6061071741225855597:=0
def tw8022734907796979764:=0
def tw12281739660498746989:=0
def tw5097832849892854106:=0
def tw14984439505857710297:=0
def tw4321948826518524935:=0
def tw1125064873760816186:=0
def tw16300399670248451924:=0
def tw14863459489937552969:=0
def tw14459831741651335645:=0
def tw12718547136718278146:=0
def tw9980967737555662086:=0
def tw15645496051494789583:=0
def tw3179182429397430783:=0
def tw10494425830297954858:=0
def tw9329335360472498331:=0
def tw11314923105757220518:=0
def tw17505045342187037689:=0
def tw8928194395919569354:=0
def tw16704934141617942263:=0
def tw10499230555038620588:=0
def tw15962752253312967569:=0
def tw11599867799711145122:=0
def tw14170143883480939257:=0
def tw16186781561212679918:=0
def tw7420470959169310144:=0
def tw11848660043580529719:=0
def tw4263682583458994845:=0
def tw5583206477593164921:=0
def tw8205963018217456217:=0
def tw6277351274674451723:=0
def tw1436504916252667162:=0
def tw17696053718862350353:=0
def tw11575867812059906721:=0
def tw16485219655263262396:=0
def tw10470461448094601023:=0
def tw11704618198110605608:=0
def tw8045827184376992338:=0
def tw16836384862270904848:=0
def tw6945717949613975345:=0
def tw8278744070098295862:=0
def tw11328702209900446135:=0
def tw841669849756463012:=0
def tw6233687120351119041:=0
def tw13443995143154571562:=0
def tw12035135251584736967:=0
def tw5463672837785910250:=0
def tw16836208881507888544:=0
def tw8617583219996650070:=0
def tw15195835387062345822:=0
def tw2832634055721220942:=0
def tw8708648625655416846:=0
def tw4808353112281678765:=0
def tw2161174644644311423:=0
def tw15954372051833269671:=0
def tw6411421039547840745:=0
def tw16938826591776609594:=0
end PySem.W.Fast
open PySem PySem.W PyProof.Rows
set_option maxRecDepth 100000 in
set_option maxHeartbeats 0 in
theorem PySem.Challenge.cw_putsigns_k42_what_are_holds_holds : PySem.Challenge.rw_putsigns_k42_what_are_holds.Holds := by
  w_on;o_law;k_head;(case hw=>w_witness2)
  k_fill
  refine Put.walk (T:=266) (c:=270) (l:=PySem.Challenge.rw_putsigns_k42_what_are_holds) rfl rfl ?hi (fun w h Y=>⟨PySem.W.km_in_of Y,PySem.W.km_tabs_of Y 266 (by simp)⟩) (fun w=>rfl) (fun w=>rfl) ?F
  case hi=>first|rfl|decide +kernel
  case F =>
    intro w mg fa h KX G hmg;refine' Put.all_mk (T:=266) (cL:=270) KX G hmg ?q0 ?q1 ?q2 ?q3 ?q4 ?q5 ?q6 ?q7 ?q8 ?q9 ?q10 ?q11 ?q12 ?q13 ?a14 ?l14 ?c14 ?k14 ?q15 ?a16 ?l16 ?c16 ?k16 ?q17 ?q18 ?q19 ?q20 ?q21 ?q22 ?q23 ?q24 ?q25 ?q26 ?q27 ?q28 ?q29 ?q30 ?q31 ?q32 ?q33 ?q34 ?q35 ?q36 ?q37 ?q38 ?q39 ?q40 ?q41 ?q42 ?q43 ?q44 ?a45 ?l45 ?c45 ?k45 ?z_len ?z_isinstance ?z_int ?z_bool ?z_str ?z_tuple ?z_list ?z_sorted ?z_range ?z_repr ?z_enumerate ?z_sum ?z_all ?z_min ?z_max ?z_abs ?z_divmod ?z_dict ?z_set ?z_reversed ?z_any ?z_zip ?gMn ?gMs ?gP ?lP ?n_PutError ?n_NoRow ?n_NoSigns ?n_NoWay ?n_NoNumber ?n_NoPlace ?n_NoFit ?n_NoForm ?n_NoAsk ?n_NoHolds ?n_NoText ?n_TooMany ?z_ValueError ?l_PutError ?s_PutError ?t_PutError ?i_PutError ?l_NoRow ?s_NoRow ?t_NoRow ?i_NoRow ?l_NoSigns ?s_NoSigns ?t_NoSigns ?i_NoSigns ?l_NoHolds ?s_NoHolds ?t_NoHolds ?i_NoHolds ?f1_NoRow ?f2_NoRow ?f3_NoRow ?f4_NoRow ?f5_NoRow ?f6_NoRow ?f1_NoSigns ?f2_NoSigns ?f3_NoSigns ?f4_NoSigns ?f5_NoSigns ?f6_NoSigns ?f1_NoHolds ?f2_NoHolds ?f3_NoHolds ?f4_NoHolds ?f5_NoHolds ?f6_NoHolds ?c_NoRow ?y_NoRow ?c_NoSigns ?y_NoSigns ?c_NoWay ?y_NoWay ?c_NoNumber ?y_NoNumber ?c_NoPlace ?y_NoPlace ?c_NoFit ?y_NoFit ?c_NoForm ?y_NoForm ?c_NoAsk ?y_NoAsk ?c_NoHolds ?y_NoHolds ?c_NoText ?y_NoText ?c_TooMany ?y_TooMany ?u_NoRow_NoSigns ?d_NoRow_NoSigns ?u_NoRow_NoWay ?d_NoRow_NoWay ?u_NoRow_NoNumber ?d_NoRow_NoNumber ?u_NoRow_NoPlace ?d_NoRow_NoPlace ?u_NoRow_NoFit ?d_NoRow_NoFit ?u_NoRow_NoForm ?d_NoRow_NoForm ?u_NoRow_NoAsk ?d_NoRow_NoAsk ?u_NoRow_NoHolds ?d_NoRow_NoHolds ?u_NoRow_NoText ?d_NoRow_NoText ?u_NoRow_TooMany ?d_NoRow_TooMany ?u_NoSigns_NoRow ?d_NoSigns_NoRow ?u_NoSigns_NoWay ?d_NoSigns_NoWay ?u_NoSigns_NoNumber ?d_NoSigns_NoNumber ?u_NoSigns_NoPlace ?d_NoSigns_NoPlace ?u_NoSigns_NoFit ?d_NoSigns_NoFit ?u_NoSigns_NoForm ?d_NoSigns_NoForm ?u_NoSigns_NoAsk ?d_NoSigns_NoAsk ?u_NoSigns_NoHolds ?d_NoSigns_NoHolds ?u_NoSigns_NoText ?d_NoSigns_NoText ?u_NoSigns_TooMany ?d_NoSigns_TooMany ?u_NoHolds_NoRow ?d_NoHolds_NoRow ?u_NoHolds_NoSigns ?d_NoHolds_NoSigns ?u_NoHolds_NoWay ?d_NoHolds_NoWay ?u_NoHolds_NoNumber ?d_NoHolds_NoNumber ?u_NoHolds_NoPlace ?d_NoHolds_NoPlace ?u_NoHolds_NoFit ?d_NoHolds_NoFit ?u_NoHolds_NoForm ?d_NoHolds_NoForm ?u_NoHolds_NoAsk ?d_NoHolds_NoAsk ?u_NoHolds_NoText ?d_NoHolds_NoText ?u_NoHolds_TooMany ?d_NoHolds_TooMany ?lD ?lE ?hC
    (case q0=>exact L2.Fq.mk4 (by k_is) (by k_is) (by k_is) (by k_is))
    (case q1=>exact L2.Fq.mk4 (by k_is) (by k_is) (by k_is) (by k_is))
    (case q2=>exact L2.Fq.mk4 (by k_is) (by k_is) (by k_is) (by k_is))
    (case q3=>exact L2.Fq.mk4 (by k_is) (by k_is) (by k_is) (by k_is))
    (case q4=>exact L2.Fq.mk4 (by k_is) (by k_is) (by k_is) (by k_is))
    (case q5=>exact L2.Fq.mk4 (by k_is) (by k_is) (by k_is) (by k_is))
    (case q6=>exact L2.Fq.mk4 (by k_is) (by k_is) (by k_is) (by k_is))
    (case q7=>exact L2.Fq.mk4 (by k_is) (by k_is) (by k_is) (by k_is))
    (case q8=>exact L2.Fq.mk4 (by k_is) (by k_is) (by k_is) (by k_is))
    (case q9=>exact L2.Fq.mk4 (by k_is) (by k_is) (by k_is) (by k_is))
    (case q10=>exact L2.Fq.mk4 (by k_is) (by k_is) (by k_is) (by k_is))
    (case q11=>exact L2.Fq.mk4 (by k_is) (by k_is) (by k_is) (by k_is))
    (case q12=>exact L2.Fq.mk4 (by k_is) (by k_is) (by k_is) (by k_is))
    (case q13=>exact L2.Fq.mk4 (by k_is) (by k_is) (by k_is) (by k_is))
    (case a14=>k_is)
    (case l14=>k_is)
    (case c14=>k_is)
    (case k14=>k_is)
    (case q15=>exact L2.Fq.mk4 (by k_is) (by k_is) (by k_is) (by k_is))
    (case a16=>k_is)
    (case l16=>k_is)
    (case c16=>k_is)
    (case k16=>k_is)
    (case q17=>exact L2.Fq.mk4 (by k_is) (by k_is) (by k_is) (by k_is))
    (case q18=>exact L2.Fq.mk4 (by k_is) (by k_is) (by k_is) (by k_is))
    (case q19=>exact L2.Fq.mk4 (by k_is) (by k_is) (by k_is) (by k_is))
    (case q20=>exact L2.Fq.mk4 (by k_is) (by k_is) (by k_is) (by k_is))
    (case q21=>exact L2.Fq.mk4 (by k_is) (by k_is) (by k_is) (by k_is))
    (case q22=>exact L2.Fq.mk4 (by k_is) (by k_is) (by k_is) (by k_is))
    (case q23=>exact L2.Fq.mk4 (by k_is) (by k_is) (by k_is) (by k_is))
    (case q24=>exact L2.Fq.mk4 (by k_is) (by k_is) (by k_is) (by k_is))
    (case q25=>exact L2.Fq.mk4 (by k_is) (by k_is) (by k_is) (by k_is))
    (case q26=>exact L2.Fq.mk4 (by k_is) (by k_is) (by k_is) (by k_is))
    (case q27=>exact L2.Fq.mk4 (by k_is) (by k_is) (by k_is) (by k_is))
    (case q28=>exact L2.Fq.mk4 (by k_is) (by k_is) (by k_is) (by k_is))
    (case q29=>exact L2.Fq.mk4 (by k_is) (by k_is) (by k_is) (by k_is))
    (case q30=>exact L2.Fq.mk4 (by k_is) (by k_is) (by k_is) (by k_is))
    (case q31=>exact L2.Fq.mk4 (by k_is) (by k_is) (by k_is) (by k_is))
    (case q32=>exact L2.Fq.mk4 (by k_is) (by k_is) (by k_is) (by k_is))
    (case q33=>exact L2.Fq.mk4 (by k_is) (by k_is) (by k_is) (by k_is))
    (case q34=>exact L2.Fq.mk4 (by k_is) (by k_is) (by k_is) (by k_is))
    (case q35=>exact L2.Fq.mk4 (by k_is) (by k_is) (by k_is) (by k_is))
    (case q36=>exact L2.Fq.mk4 (by k_is) (by k_is) (by k_is) (by k_is))
    (case q37=>exact L2.Fq.mk4 (by k_is) (by k_is) (by k_is) (by k_is))
    (case q38=>exact L2.Fq.mk4 (by k_is) (by k_is) (by k_is) (by k_is))
    (case q39=>exact L2.Fq.mk4 (by k_is) (by k_is) (by k_is) (by k_is))
    (case q40=>exact L2.Fq.mk4 (by k_is) (by k_is) (by k_is) (by k_is))
    (case q41=>exact L2.Fq.mk4 (by k_is) (by k_is) (by k_is) (by k_is))
    (case q42=>exact L2.Fq.mk4 (by k_is) (by k_is) (by k_is) (by k_is))
    (case q43=>exact L2.Fq.mk4 (by k_is) (by k_is) (by k_is) (by k_is))
    (case q44=>exact L2.Fq.mk4 (by k_is) (by k_is) (by k_is) (by k_is))
    (case a45=>k_is)
    (case l45=>k_is)
    (case c45=>k_is)
    (case k45=>k_is)
    (case z_len=>k_is)
    (case z_isinstance=>k_is)
    (case z_int=>k_is)
    (case z_bool=>k_is)
    (case z_str=>k_is)
    (case z_tuple=>k_is)
    (case z_list=>k_is)
    (case z_sorted=>k_is)
    (case z_range=>k_is)
    (case z_repr=>k_is)
    (case z_enumerate=>k_is)
    (case z_sum=>k_is)
    (case z_all=>k_is)
    (case z_min=>k_is)
    (case z_max=>k_is)
    (case z_abs=>k_is)
    (case z_divmod=>k_is)
    (case z_dict=>k_is)
    (case z_set=>k_is)
    (case z_reversed=>k_is)
    (case z_any=>k_is)
    (case z_zip=>k_is)
    (case gMn=>k_is)
    (case gMs=>k_is)
    (case gP=>k_is)
    (case lP=>k_is)
    (case n_PutError=>k_is)
    (case n_NoRow=>k_is)
    (case n_NoSigns=>k_is)
    (case n_NoWay=>k_is)
    (case n_NoNumber=>k_is)
    (case n_NoPlace=>k_is)
    (case n_NoFit=>k_is)
    (case n_NoForm=>k_is)
    (case n_NoAsk=>k_is)
    (case n_NoHolds=>k_is)
    (case n_NoText=>k_is)
    (case n_TooMany=>k_is)
    (case z_ValueError=>k_is)
    (case l_PutError=>k_is)
    (case s_PutError=>k_is)
    (case t_PutError=>rfl)
    (case i_PutError=>rfl)
    (case l_NoRow=>k_is)
    (case s_NoRow=>k_is)
    (case t_NoRow=>rfl)
    (case i_NoRow=>rfl)
    (case l_NoSigns=>k_is)
    (case s_NoSigns=>k_is)
    (case t_NoSigns=>rfl)
    (case i_NoSigns=>rfl)
    (case l_NoHolds=>k_is)
    (case s_NoHolds=>k_is)
    (case t_NoHolds=>rfl)
    (case i_NoHolds=>rfl)
    (case f1_NoRow=>k_is)
    (case f2_NoRow=>k_is)
    (case f3_NoRow=>k_is)
    (case f4_NoRow=>k_is)
    (case f5_NoRow=>k_is)
    (case f6_NoRow=>k_is)
    (case f1_NoSigns=>k_is)
    (case f2_NoSigns=>k_is)
    (case f3_NoSigns=>k_is)
    (case f4_NoSigns=>k_is)
    (case f5_NoSigns=>k_is)
    (case f6_NoSigns=>k_is)
    (case f1_NoHolds=>k_is)
    (case f2_NoHolds=>k_is)
    (case f3_NoHolds=>k_is)
    (case f4_NoHolds=>k_is)
    (case f5_NoHolds=>k_is)
    (case f6_NoHolds=>k_is)
    (case c_NoRow=>k_is)
    (case y_NoRow=>k_is)
    (case c_NoSigns=>k_is)
    (case y_NoSigns=>k_is)
    (case c_NoWay=>k_is)
    (case y_NoWay=>k_is)
    (case c_NoNumber=>k_is)
    (case y_NoNumber=>k_is)
    (case c_NoPlace=>k_is)
    (case y_NoPlace=>k_is)
    (case c_NoFit=>k_is)
    (case y_NoFit=>k_is)
    (case c_NoForm=>k_is)
    (case y_NoForm=>k_is)
    (case c_NoAsk=>k_is)
    (case y_NoAsk=>k_is)
    (case c_NoHolds=>k_is)
    (case y_NoHolds=>k_is)
    (case c_NoText=>k_is)
    (case y_NoText=>k_is)
    (case c_TooMany=>k_is)
    (case y_TooMany=>k_is)
    (case u_NoRow_NoSigns=>k_is)
    (case d_NoRow_NoSigns=>rfl)
    (case u_NoRow_NoWay=>k_is)
    (case d_NoRow_NoWay=>rfl)
    (case u_NoRow_NoNumber=>k_is)
    (case d_NoRow_NoNumber=>rfl)
    (case u_NoRow_NoPlace=>k_is)
    (case d_NoRow_NoPlace=>rfl)
    (case u_NoRow_NoFit=>k_is)
    (case d_NoRow_NoFit=>rfl)
    (case u_NoRow_NoForm=>k_is)
    (case d_NoRow_NoForm=>rfl)
    (case u_NoRow_NoAsk=>k_is)
    (case d_NoRow_NoAsk=>rfl)
    (case u_NoRow_NoHolds=>k_is)
    (case d_NoRow_NoHolds=>rfl)
    (case u_NoRow_NoText=>k_is)
    (case d_NoRow_NoText=>rfl)
    (case u_NoRow_TooMany=>k_is)
    (case d_NoRow_TooMany=>rfl)
    (case u_NoSigns_NoRow=>k_is)
    (case d_NoSigns_NoRow=>rfl)
    (case u_NoSigns_NoWay=>k_is)
    (case d_NoSigns_NoWay=>rfl)
    (case u_NoSigns_NoNumber=>k_is)
    (case d_NoSigns_NoNumber=>rfl)
    (case u_NoSigns_NoPlace=>k_is)
    (case d_NoSigns_NoPlace=>rfl)
    (case u_NoSigns_NoFit=>k_is)
    (case d_NoSigns_NoFit=>rfl)
    (case u_NoSigns_NoForm=>k_is)
    (case d_NoSigns_NoForm=>rfl)
    (case u_NoSigns_NoAsk=>k_is)
    (case d_NoSigns_NoAsk=>rfl)
    (case u_NoSigns_NoHolds=>k_is)
    (case d_NoSigns_NoHolds=>rfl)
    (case u_NoSigns_NoText=>k_is)
    (case d_NoSigns_NoText=>rfl)
    (case u_NoSigns_TooMany=>k_is)
    (case d_NoSigns_TooMany=>rfl)
    (case u_NoHolds_NoRow=>k_is)
    (case d_NoHolds_NoRow=>rfl)
    (case u_NoHolds_NoSigns=>k_is)
    (case d_NoHolds_NoSigns=>rfl)
    (case u_NoHolds_NoWay=>k_is)
    (case d_NoHolds_NoWay=>rfl)
    (case u_NoHolds_NoNumber=>k_is)
    (case d_NoHolds_NoNumber=>rfl)
    (case u_NoHolds_NoPlace=>k_is)
    (case d_NoHolds_NoPlace=>rfl)
    (case u_NoHolds_NoFit=>k_is)
    (case d_NoHolds_NoFit=>rfl)
    (case u_NoHolds_NoForm=>k_is)
    (case d_NoHolds_NoForm=>rfl)
    (case u_NoHolds_NoAsk=>k_is)
    (case d_NoHolds_NoAsk=>rfl)
    (case u_NoHolds_NoText=>k_is)
    (case d_NoHolds_NoText=>rfl)
    (case u_NoHolds_TooMany=>k_is)
    (case d_NoHolds_TooMany=>rfl)
    (case lD=>k_is)
    (case lE=>k_is)
    (case hC=>exact rfl)

