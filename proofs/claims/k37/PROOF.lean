import PyProof.Rows.All
import Wide.All
import OpenK.AllK
import Wide.FinOn
import Lean
import PyProof.EqAt
import PyProof.EqKinds
import PyProof.TupleCall
import PySem.Challenge.RW_putsigns_k37_papers_of_bounds_refused
open List renaming mem_append_right → aaa, getElem?_eq_getElem → aad, size_toArray → aaf, mem_cons → aai, getElem?_eq_some_iff → aaj, length_map → aak, mem_cons_of_mem → aal, length_append → aan, mem_singleton → aar, mem_append → aau, mem_cons_self → aav, replicate → aaw, getD_eq_getElem?_getD → aay, mem_append_left → aaz, length_cons → aaD, length_take → aaE, map_cons → aaF, all_eq_true → aaH, map_append → aaL, mem_of_getElem? → aaP, mem_map → aaT, getElem?_map → aaU, Nodup → aa2, take_add_one → aa8, length_nil → aba, not_mem_nil → abb, mem_range → abe, filterMap_cons → abi, range → abj, length_singleton → abm, getElem_mem → abp, take_length → abq, find?_cons → abw, take_of_length_le → abx, length_drop → abA, map_nil → abB, pairwise_iff_getElem → abD, append_assoc → abF, getElem?_take_of_lt → abG, getElem_of_mem → abI, length_eq_zero_iff → abJ, replicate_succ → abK, cons_append → abL, length_pos_iff → ab0, eq_of_mem_replicate → ab2, any_cons → ab3, append_nil → ab4, flatten_cons → ach, length_replicate → acl, mem_iff_getElem? → acm, mem_flatMap → acp, nodup_cons → acs
open PySem.W renaming Frag → aab, subIn → aam, nsIn → aat, mg_none_of → aax, kitOne → aaG, mg_of → aaJ, clsIn → aaN, fnOf → aaQ, keepIn → aaS, typeIn → aaX, kia_one → aa1, findIn → aa3, codeIn → abf, kitAny → abE, cellsFrom_some → acb, Looks → acq
open PySem.Heap renaming get?_push_of_some → aac, lt_size → aag, get?_push_size → aap, SameBut → abc, size_push → abM
open Bool renaming false_ne_true → aae, and_eq_true → abz, false_eq_true → abP, eq_iff_iff → abR
open Nat renaming le_refl → aah, lt_of_lt_of_le → aao, ne_of_lt → aas, le_trans → aaK, ne_of_gt → aaO, zero_le → aaR, lt_irrefl → aaZ, lt_succ_of_lt → abk, mul_le_mul → abN, lt_of_le_of_lt → abQ, le_succ → abT, mul_le_mul_right → abW, lt_succ_self → abX, not_lt → aci
open PyProof.Rows renaming boot_isinstance → aaq, boot_all → abC, boot_min → abU, callWith_type1 → abV, boot_tuple → ab7, boot_str → aco
open PySem.PyData renaming depth → aaA, depthAll → aaB, showable → abg, shownAll → abH, showableAll → ab6, depthKv → acj, shown → acn
open PySem.F renaming plain_min_loop → aaC, plainAttrs_list → aaI, slot_list_append → aaV, type_list_append → aaW, entry_min_loop → abh, slot_dict_valueiterator_next → abl, slot_dict_itemiterator_next → abo, args_dict_valueiterator_next_1 → ab9, args_dict_itemiterator_next_1 → acd, entry_dict_valueiterator_next → ace, typeOf_object_class → ack
open Option.some renaming inj → aaM
open PySem renaming boot_len → aaY, mem_of_lookup → aa0
open PySem.Builtin.Dict_items renaming ownsTuple → aa4, ownedTupleFields → abY, ownedTupleIsFree → abZ, pairFromOwner → ab8
open PySem.Obj renaming mapSeq → aa5
open PySem.Heap.SameBut renaming update → aa6
open False renaming elim → aa7
open PySem.Paired renaming length → aa9
open Option renaming isSome_iff_exists → abd, map_eq_some_iff → aby, map_some → ab5
open PySem.PassesOwn renaming never → abn
open PySem.Around renaming under_plainId → abr
open Ne renaming symm → abt
open PySem.Str renaming ofString → abu
open PySem.Builtin.Builtins renaming bindParams → abv
open PySem.Calls renaming callWith_builtin → abO
open PySem.Builtin.Dict renaming showsAll → abS
open PySem.Builtin.List renaming listTooLong → ab1
open Array renaming getElem?_eq_none → aca
open Int renaming le_refl → acf, toNat_natCast → acg
open PySem.Walks renaming list → acr
set_option Elab.async false
set_option linter.all false
set_option maxRecDepth 100000
namespace L2
open PySem PySem.Spec PyProof.Rows
abbrev Key:=Sum Int Str
def iG:Key→Value→Bool
  | .inl k,v=>Value.isInt k v
  | .inr x,v=>Value.isStrOf x v
def wE (w:World):Key→Int
  | .inl k=>hashInt k
  | .inr x=>hashStr w x
theorem a5:∀ {k:Key} {v:Value},iG k v=true→(∃ i t,k=Sum.inl i∧v=Value.int i t)∨(∃ x t,k=Sum.inr x∧v=Value.str x t)
  | .inl i,v,h=>by
    obtain ⟨t,e⟩:=Value.isInt_shape (k:=i) (v:=v) h;exact .inl ⟨i,t,rfl,e⟩
  | .inr x,v,h=>by
    obtain ⟨t,e⟩:=Value.isStrOf_shape (x:=x) (v:=v) h;exact .inr ⟨x,t,rfl,e⟩
theorem pw (i:Int) (t:Tok):iG (.inl i) (.int i t)=true:=by simp [iG,Value.isInt]
theorem pi (x:Str) (t:Tok):iG (.inr x) (.str x t)=true:=by simp [iG,Value.isStrOf]
theorem uJ (a b:Int):decide ((Sum.inl a:Key)=Sum.inl b)=(a == b):=by
  by_cases e:a=b
  · subst e;simp
  · have h:¬ (Sum.inl a:Key)=Sum.inl b:=fun q=>e (Sum.inl.inj q);rw [decide_eq_false h];exact (beq_eq_false_iff_ne.mpr e).symm
theorem uG (a b:Str):decide ((Sum.inr a:Key)=Sum.inr b)=decide (a=b):=by
  by_cases e:a=b
  · subst e;simp
  · have h:¬ (Sum.inr a:Key)=Sum.inr b:=fun q=>e (Sum.inr.inj q);rw [decide_eq_false h,decide_eq_false e]
theorem uI (a:Int) (b:Str):decide ((Sum.inl a:Key)=Sum.inr b)=false:=decide_eq_false (fun q=>nomatch q)
theorem uH (a:Str) (b:Int):decide ((Sum.inr a:Key)=Sum.inl b)=false:=decide_eq_false (fun q=>nomatch q)
def aD (prog:Program) (w:World):PySem.KeyKind prog w Key where
  is:=iG
  hash:=wE w
  inj:=fun v a b ha hb=>by
    rcases a5 ha with ⟨i,t,rfl,rfl⟩|⟨x,t,rfl,rfl⟩
    · rcases a5 hb with ⟨j,u,rfl,e⟩|⟨y,u,rfl,e⟩
      · injection e with e1 _;rw [e1]
      · exact nomatch e
    · rcases a5 hb with ⟨j,u,rfl,e⟩|⟨y,u,rfl,e⟩
      · exact nomatch e
      · injection e with e1 _;rw [e1]
  byValue:=fun k v h=>by
    rcases a5 h with ⟨i,t,rfl,rfl⟩|⟨x,t,rfl,rfl⟩ <;> rfl
  pyHash:=fun hv h=>by
    rcases a5 hv with ⟨i,t,rfl,rfl⟩|⟨x,t,rfl,rfl⟩
    · exact wpAny_pyHash_int h
    · exact wpAny_pyHash_str h
  eqBool:=fun hu hv h=>by
    rcases a5 hu with ⟨i,t,rfl,rfl⟩|⟨x,t,rfl,rfl⟩
    · rcases a5 hv with ⟨j,u,rfl,rfl⟩|⟨y,u,rfl,rfl⟩
      · rw [uJ] at h;exact wpAny_eqBool_int h
      · rw [uI] at h;exact SeqAt.EqAt.int_str i t y u _ _ _ _ h
    · rcases a5 hv with ⟨j,u,rfl,rfl⟩|⟨y,u,rfl,rfl⟩
      · rw [uH] at h;exact SeqAt.EqAt.str_int x t j u _ _ _ _ h
      · rw [uG] at h;exact wpAny_eqBool_str h
  «strs»:=fun k x t v h=>by
    rcases a5 h with ⟨i,u,rfl,e⟩|⟨y,u,rfl,e⟩
    · exact nomatch e
    · injection e with e1 _
      subst e1;cases v <;> rfl
theorem mU (prog:Program) (w:World) (k:Key) (v:Value):(aD prog w).is k v=iG k v:=rfl
theorem lR (prog:Program) (w:World) (i:Int) (t:Tok):(aD prog w).is (.inl i) (.int i t)=true:=pw i t
theorem lQ (prog:Program) (w:World) (x:Str) (t:Tok):(aD prog w).is (.inr x) (.str x t)=true:=pi x t
open PySem PySem.Spec PyProof.Rows
inductive V where
  | non|bl (b:Bool)|int (i:Int)|str (x:Str)|byt (b:Array UInt8)|flt (b:UInt64)|ref (a:Addr)|ty (n:String)
  deriving DecidableEq
def RelV:V→Value→Prop
  | .non,u=>u=Value.none
  | .bl b,u=>u=Value.bool b
  | .int i,u=>∃ t,u=Value.int i t
  | .str x,u=>∃ t,u=Value.str x t
  | .byt b,u=>∃ t,u=Value.bytes b t
  | .flt b,u=>∃ t,u=Value.float b t
  | .ref a,u=>u=Value.ref a
  | .ty n,u=>u=Value.type n
abbrev Vals:List V→List Value→Prop:=Paired RelV
theorem Vals.length {xs:List V} {us:List Value} (r:Vals xs us):xs.length=us.length:=aa9 r
theorem Vals.get:∀ {xs:List V} {us:List Value} {i:Nat} {x:V},Vals xs us→xs[i]?=some x→∃ u,us[i]?=some u∧RelV x u
  | _,_,_,_,.nil,e=>by simp at e
  | _,_,0,_,.cons r _,e=>by simp at e;subst e;exact ⟨_,rfl,r⟩
  | _,_,i+1,x,.cons _ t,e=>by
    obtain ⟨u,h1,h2⟩:=Vals.get (i:=i) (x:=x) t (by simpa using e);exact ⟨u,by simpa using h1,h2⟩
theorem Vals.set {x:V} {u:Value} (r:RelV x u):∀ {xs:List V} {us:List Value} (i:Nat),Vals xs us→Vals (xs.set i x) (us.set i u)
  | _,_,_,.nil=>.nil
  | _,_,0,.cons _ t=>.cons r t
  | _,_,i+1,.cons q t=>.cons q (Vals.set r i t)
theorem Vals.append:∀ {xs ys:List V} {us ws:List Value},Vals xs us→Vals ys ws→Vals (xs++ys) (us++ws)
  | _,_,_,_,.nil,s=>s
  | _,_,_,_,.cons r t,s=>.cons r (Vals.append t s)
theorem Vals.take:∀ {xs:List V} {us:List Value} (n:Nat),Vals xs us→Vals (xs.take n) (us.take n)
  | _,_,0,_=>.nil
  | _,_,_+1,.nil=>.nil
  | _,_,n+1,.cons r t=>.cons r (Vals.take n t)
theorem Vals.drop:∀ {xs:List V} {us:List Value} (n:Nat),Vals xs us→Vals (xs.drop n) (us.drop n)
  | _,_,0,r=>r
  | _,_,_+1,.nil=>.nil
  | _,_,n+1,.cons _ t=>Vals.drop n t
def RelO:Option V→Option Value→Prop
  | some v,some u=>RelV v u
  | none,none=>True
  | _,_=>False
def KV {κ:Type}:List (κ × V)→List (κ × Value)→Prop:=Paired fun (p:κ × V) (q:κ × Value)=>p.1=q.1∧RelV p.2 q.2
def kV:Key→V
  | .inl i=>.int i
  | .inr x=>.str x
inductive HO where
  | lst (xs:List V)
  | tup (xs:List V)
  | dK (kvs:List (Key × V))|dT (kvs:List (List Key × V))
  | set (S:Int→Bool) (n:Nat)
  | ins (C dx:Addr) (fs:List (Str × V))
  | own (x:Addr)
  | xd (fs:List (Str × V))
  | met (f x:Addr)
  | rng (lo hi:Int)
  | frz (o:Obj) (u:HO)
  | tbl (ps:Array Value)
  | ext (φ:Heap→Prop)
abbrev Hp:=Addr→Option HO
def upd (H:Hp) (a:Addr) (o:HO):Hp:=fun b=>if b=a then some o else H b
theorem ac {H:Hp} {a:Addr} {o:HO}:upd H a o a=some o:=by unfold upd;rw [if_pos rfl]
theorem aj {H:Hp} {a b:Addr} {o:HO} (h:b≠a):upd H a o b=H b:=by unfold upd;rw [if_neg h]
theorem qO {H:Hp} {a b:Addr} {o u:HO} (h:H a=some o) (h':H b=some u) (d:o≠u):a≠b:=by
  intro e;subst e;rw [h] at h';exact d (aaM h')
theorem ap {H:Hp} {a b:Addr} {o:HO} (h:H a=some o) (h':H b=none):a≠b:=by
  intro e;subst e;rw [h] at h';cases h'
section
variable (P:Program) (w:World)
def ObjOk (H:Hp) (h:Heap) (a:Addr):HO→Prop
  | .lst xs=>xs.length≤sizeLine∧∃ (its:List Value) (n:Nat),Vals xs its∧h.get? a=some { cls:=.type "list",data:=.seq its.toArray n }
  | .tup xs=>xs.length≤sizeLine∧∃ its:List Value,Vals xs its∧IsTup h a its.toArray
  | .dK kvs=>kvs.length≤sizeLine∧(a == sysModules)=false∧∃ vs,KV kvs vs∧h.DictOf (aD P w) a vs
  | .dT kvs=>kvs.length≤sizeLine∧(a == sysModules)=false∧∃ xs:List (List Key × Addr × Value),
      Paired (fun (p:List Key × V) (q:List Key × Addr × Value)=>p.1=q.1∧H q.2.1=some (.tup (p.1.map kV))∧RelV p.2 q.2.2) kvs xs ∧
      ∃ o es ep,h.get? a=some o∧o.ExactDict∧o.data=.dict es ep∧es.toList=xs.map (entryOfKey (tupleKind (aD P w)))∧(xs.map (·.1)).Nodup
  | .set S n=>h.SetOf (intKind P w) a S n
  | .ins C dx fs=>H dx=some (.own a)∧fs.length≤1000∧dx≠a∧h.get? a=some (PySem.W.instObj C dx) ∧
      ∃ mA,h.Ns1 dx mA∧(∀ f,RelO (fs.lookup f) (mA f))∧PySem.Within mA (fs.map (·.1))
  | .own _=>∃ o,h.get? a=some o
  | .xd fs=>∃ mA,h.Ns1 a mA∧∀ f,RelO (fs.lookup f) (mA f)
  | .rng lo hi=>∃ t u v,h.get? a=some { cls:=.type "range",data:=.fields #[.int lo t,.int hi u,.int 1 v] }
  | .frz o u=>h.get? a=some o∧ObjOk H h a u
  | .tbl ps=>h.get? a=some { cls:=.none,data:=.fields ps }
  | .met f x=>h.get? a=some (PySem.W.methodObj (.ref f) (.ref x))
  | .ext φ=>φ h∧(∃ o,h.get? a=some o)∧∀ h1 h2:Heap,φ h1→(∀ o,h1.get? a=some o→h2.get? a=some o)→φ h2
def HOk (H:Hp) (h:Heap):Prop:=∀ a o,H a=some o→ObjOk P w H h a o
end
section
variable {P:Program} {w:World} {H H':Hp} {h h':Heap} {a:Addr} {o:HO}
theorem ObjOk.lt (x:ObjOk P w H h a o):a < h.objs.size:=by
  cases o with
  | lst xs=>obtain ⟨_,_,_,_,e⟩:=x;exact aag e
  | tup xs=>obtain ⟨_,_,_,p⟩:=x;exact p.lt
  | dK kvs=>obtain ⟨_,_,_,_,o,_,_,e,_⟩:=x;exact aag e
  | dT kvs=>obtain ⟨_,_,_,_,o,_,_,e,_⟩:=x;exact aag e
  | set S n=>obtain ⟨o,_,_,_,e,_⟩:=x;exact aag e
  | ins C dx fs=>obtain ⟨_,_,_,e,_⟩:=x;exact aag e
  | own y=>obtain ⟨_,e⟩:=x;exact aag e
  | xd fs=>obtain ⟨_,⟨_,_,_,e,_⟩,_⟩:=x;exact aag e
  | rng lo hi=>obtain ⟨_,_,_,e⟩:=x;exact aag e
  | frz ob u=>obtain ⟨e,_⟩:=x;exact aag e
  | tbl ps=>exact aag (show h.get? a=some _ from x)
  | met f y=>exact aag (show h.get? a=some _ from x)
  | ext φ=>obtain ⟨_,⟨_,e⟩,_⟩:=x;exact aag e
theorem Paired.mapP {α β:Type} {F G:α→β→Prop}:∀ {l₁:List α} {l₂:List β},Paired F l₁ l₂→(∀ a b,F a b→G a b)→Paired G l₁ l₂
  | _,_,.nil,_=>.nil
  | _,_,.cons r t,f=>.cons (f _ _ r) (Paired.mapP t f)
theorem ObjOk.stay (x:ObjOk P w H h a o) (k:∀ b u,(b=a∨H b=some (.own a))→h.get? b=some u→h'.get? b=some u)
    (ho:∀ b,H b=some (.own a)→H' b=some (.own a)) (ht:∀ b xs,H b=some (.tup xs)→H' b=some (.tup xs)):ObjOk P w H' h' a o:=by
  induction o with
  | lst xs=>obtain ⟨z,its,n,r,e⟩:=x;exact ⟨z,its,n,r,k _ _ (.inl rfl) e⟩
  | tup xs=>obtain ⟨z,its,r,ob,e,c⟩:=x;exact ⟨z,its,r,ob,k _ _ (.inl rfl) e,c⟩
  | dK kvs=>obtain ⟨z,y,vs,r,ob,es,ep,e,c⟩:=x;exact ⟨z,y,vs,r,ob,es,ep,k _ _ (.inl rfl) e,c⟩
  | dT kvs =>
    obtain ⟨z,y,xs,r,ob,es,ep,e,c⟩:=x;exact ⟨z,y,xs,Paired.mapP r fun p q z=>⟨z.1,ht _ _ z.2.1,z.2.2⟩,ob,es,ep,k _ _ (.inl rfl) e,c⟩
  | set S n=>obtain ⟨ob,es,ep,t,e,c⟩:=x;exact ⟨ob,es,ep,t,k _ _ (.inl rfl) e,c⟩
  | ins C dx fs =>
    obtain ⟨d,z,ne,e,mA,⟨od,es,ep,e2,c⟩,r⟩:=x;exact ⟨ho _ d,z,ne,k _ _ (.inl rfl) e,mA,⟨od,es,ep,k _ _ (.inr d) e2,c⟩,r⟩
  | own y=>obtain ⟨ob,e⟩:=x;exact ⟨ob,k _ _ (.inl rfl) e⟩
  | xd fs=>obtain ⟨mA,⟨od,es,ep,e,c⟩,r⟩:=x;exact ⟨mA,⟨od,es,ep,k _ _ (.inl rfl) e,c⟩,r⟩
  | rng lo hi=>obtain ⟨t,u,v,e⟩:=x;exact ⟨t,u,v,k _ _ (.inl rfl) e⟩
  | frz ob u ih=>obtain ⟨e,q⟩:=x;exact ⟨k _ _ (.inl rfl) e,ih q⟩
  | tbl ps =>
    have e:h.get? a=some { cls:=.none,data:=.fields ps }:=x;show h'.get? a=some { cls:=.none,data:=.fields ps };exact k a _ (.inl rfl) e
  | met f y =>
    have e:h.get? a=some (PySem.W.methodObj (.ref f) (.ref y)):=x;show h'.get? a=some (PySem.W.methodObj (.ref f) (.ref y));exact k a _ (.inl rfl) e
  | ext φ=>obtain ⟨p,⟨o,e⟩,st⟩:=x;exact ⟨st _ _ p fun o q=>k _ _ (.inl rfl) q,⟨o,k _ _ (.inl rfl) e⟩,st⟩
theorem HOk.lt (x:HOk P w H h) (e:H a=some o):a < h.objs.size:=(x a o e).lt
theorem HOk.fresh (x:HOk P w H h) (e:h.objs.size≤a):H a=none:=by
  cases q:H a with
  | none=>rfl
  | some u=>exact absurd (aao (x.lt q) e) (aaZ _)
theorem HOk.kept (x:HOk P w H h) (k:∀ b u,h.get? b=some u→h'.get? b=some u):HOk P w H h':=fun a o e =>
  (x a o e).stay (fun b u _ q=>k b u q) (fun _ q=>q) fun _ _ q=>q
theorem HOk.laid (x:HOk P w H h) (k:∀ b u,h.get? b=some u→h'.get? b=some u) (hp:h.objs.size≤a) (new:ObjOk P w (upd H a o) h' a o):HOk P w (upd H a o) h':=fun b u e=>by
  have hn:=x.fresh hp;by_cases hb:b=a
  · subst hb;rw [ac] at e;cases e;exact new
  · rw [aj hb] at e;exact (x b u e).stay (fun c v _ q=>k c v q) (fun c q=>by rw [aj (ap q hn)];exact q) fun c xs q=>by rw [aj (ap q hn)];exact q
end
def Rd (H:Hp) (a:Addr) (u:HO):Prop:=H a=some u∨∃ o,H a=some (.frz o u)
theorem Rd.ok {P:Program} {w:World} {H:Hp} {h:Heap} {a:Addr} {u:HO} (r:Rd H a u) (x:HOk P w H h):ObjOk P w H h a u:=by
  rcases r with r|⟨o,r⟩
  · exact x a u r
  · obtain ⟨_,q⟩:=x a _ r;exact q
def Mut:Option HO→Prop
  | some (.lst _)=>True
  | some (.dK _)=>True
  | some (.dT _)=>True
  | some (.set _ _)=>True
  | some (.ins _ _ _)=>True
  | some (.ext _)=>True
  | _=>False
section
variable {P:Program} {w:World} {H:Hp} {h h':Heap} {x e:Addr} {o':HO}
theorem HOk.write (ok:HOk P w H h) (mu:Mut (H x)) (he:e=x∨H e=some (.own x)) (k:∀ b u,b≠e→h.get? b=some u→h'.get? b=some u) (heo:∃ u,h'.get? e=some u)
    (new:ObjOk P w (upd H x o') h' x o'):HOk P w (upd H x o') h':=fun b u q=>by
  have nown:∀ c y,H c=some (.own y)→c≠x:=fun c y r z=>by subst z;rw [r] at mu;exact mu
  have ntup:∀ c xs,H c=some (.tup xs)→c≠x:=fun c xs r z=>by subst z;rw [r] at mu;exact mu
  by_cases hb:b=x
  · subst hb;rw [ac] at q;cases q;exact new
  · rw [aj hb] at q;by_cases hbe:b=e
    · have q':H b=some (.own x):=by
        rcases he with z|z
        · exact absurd (hbe.trans z) hb
        · rw [hbe];exact z
      rw [q] at q';cases q';obtain ⟨v,hv⟩:=heo;exact ⟨v,by rw [hbe];exact hv⟩
    · refine (ok b u q).stay (fun c v hc r=>k c v ?_ r) (fun c r=>by rw [aj (nown c b r)];exact r) fun c xs r=>by rw [aj (ntup c xs r)];exact r
      rcases hc with rfl|hc
      · exact hbe
      · rintro rfl;rcases he with z|z
        · exact nown c b hc z
        · rw [hc] at z;cases z;exact hb rfl
end
structure Un (fs ex:List Addr) (H H':Hp) (h h':Heap):Prop where
  keep:∀ b o,h.get? b=some o→H b=none→b∉fs→b∉ex→h'.get? b=some o
  slot:∀ b o,h.get? b=some o→H b=none→b∈fs→b∉ex→∃ sl,h'.get? b=some { o with slots:=sl }
  free:∀ b o,h.get? b=some o→H b=none→b∉ex→H' b=none
  there:∀ b o,h.get? b=some o→b∉ex→∃ o',h'.get? b=some o'
  tups:∀ b xs,H b=some (.tup xs)→H' b=some (.tup xs)
  frzs:∀ b o u,H b=some (.frz o u)→H' b=some (.frz o u)
  tbls:∀ b ps,H b=some (.tbl ps)→∃ more,H' b=some (.tbl (ps++more))
section
variable {fs fs' ex ex':List Addr} {H H1 H2:Hp} {h h1 h2 h':Heap} {a x e:Addr} {o:HO}
theorem Un.any (u:Un fs ex H H1 h h1) {b:Addr} {ob:Obj} (q:h.get? b=some ob) (n:H b=none) (hx:b∉ex):∃ sl,h1.get? b=some { ob with slots:=sl }:=by
  by_cases hb:b∈fs
  · exact u.slot b ob q n hb hx
  · exact ⟨ob.slots,u.keep b ob q n hb hx⟩
theorem Un.trans (a:Un fs ex H H1 h h1) (b:Un fs ex H1 H2 h1 h2):Un fs ex H H2 h h2 where
  keep:=fun c ob q n hc hx=>b.keep c ob (a.keep c ob q n hc hx) (a.free c ob q n hx) hc hx
  slot:=fun c ob q n hc hx=>by
    obtain ⟨sl,e1⟩:=a.slot c ob q n hc hx;obtain ⟨sl',e2⟩:=b.slot c _ e1 (a.free c ob q n hx) hc hx;exact ⟨sl',e2⟩
  free:=fun c ob q n hx=>by
    obtain ⟨o',e1⟩:=a.there c ob q hx;exact b.free c o' e1 (a.free c ob q n hx) hx
  there:=fun c ob q hx=>by
    obtain ⟨o',e1⟩:=a.there c ob q hx;exact b.there c o' e1 hx
  tups:=fun c xs q=>b.tups c xs (a.tups c xs q)
  frzs:=fun c ob xs q=>b.frzs c ob xs (a.frzs c ob xs q)
  tbls:=fun c ps q=>by
    obtain ⟨m1,e1⟩:=a.tbls c ps q;obtain ⟨m2,e2⟩:=b.tbls c _ e1;exact ⟨m1++m2,by rw [e2,Array.append_assoc]⟩
theorem Un.kept (k:∀ b u,h.get? b=some u→h'.get? b=some u):Un fs ex H H h h' :=
  ⟨fun b ob q _ _ _=>k b ob q,fun b ob q _ _ _=>⟨ob.slots,k b ob q⟩,fun _ _ _ n _=>n,fun b ob q _=>⟨ob,k b ob q⟩,fun _ _ q=>q,fun _ _ _ q=>q,fun _ ps q=>⟨#[],by rw [q];simp⟩⟩
theorem Un.refl:Un fs ex H H h h:=Un.kept fun _ _ q=>q
theorem Un.laid (k:∀ b u,h.get? b=some u→h'.get? b=some u) (hp:h.objs.size≤a) (hn:H a=none):Un fs ex H (upd H a o) h h' where
  keep:=fun b u q _ _ _=>k b u q
  slot:=fun b u q _ _ _=>⟨u.slots,k b u q⟩
  free:=fun b u q n _=>by rw [aj (aas (aao (aag q) hp))];exact n
  there:=fun b u q _=>⟨u,k b u q⟩
  tups:=fun b xs q=>by rw [aj (ap q hn)];exact q
  frzs:=fun b u xs q=>by rw [aj (ap q hn)];exact q
  tbls:=fun b ps q=>⟨#[],by rw [aj (ap q hn),q];simp⟩
theorem Un.write (mu:Mut (H x)) (he:e=x∨H e=some (.own x)) (k:∀ b u,b≠e→h.get? b=some u→h'.get? b=some u) (heo:∃ u,h'.get? e=some u):Un fs ex H (upd H x o) h h':=by
  have hx:∀ b,H b=none→b≠x:=fun b n z=>by subst z;rw [n] at mu;exact mu
  have hb:∀ b,H b=none→b≠e:=fun b n z=>by
    subst z;rcases he with r|r
    · exact hx b n r
    · rw [n] at r;cases r
  have hm:∀ b u,H b=some u→¬ Mut (some u)→b≠x:=fun b u q nm z=>by subst z;rw [q] at mu;exact nm mu
  refine ⟨fun b u q n _ _=>k b u (hb b n) q,fun b u q n _ _=>⟨u.slots,k b u (hb b n) q⟩,fun b u q n _=>by rw [aj (hx b n)];exact n,fun b u q _=>?_,
    fun b xs q=>by rw [aj (hm b _ q fun z=>z)];exact q,fun b u xs q=>by rw [aj (hm b _ q fun z=>z)];exact q,fun b ps q=>⟨#[],by rw [aj (hm b _ q fun z=>z),q];simp⟩⟩
  by_cases hbe:b=e
  · subst hbe;exact heo
  · exact ⟨u,k b u hbe q⟩
theorem Un.mono (u:Un fs ex H H1 h h1) (hs:∀ b∈fs,b∈fs') (hx:∀ b∈ex,b∈ex'):Un fs' ex' H H1 h h1 :=
  ⟨fun b ob q n hb he=>u.keep b ob q n (fun z=>hb (hs b z)) fun z=>he (hx b z),fun _ _ q n _ he=>u.any q n fun z=>he (hx _ z),fun b ob q n he=>u.free b ob q n fun z=>he (hx b z),fun b ob q he=>u.there b ob q fun z=>he (hx b z),u.tups,u.frzs,u.tbls⟩
end
def trk (h:Heap) (H:Hp):List Addr:=(abj h.objs.size).filter fun a=>(H a).isSome
def ji (h:Heap) (H:Hp):Heap:=PySem.W.hideAll h (trk h H)
theorem pF (h:Heap) (H:Hp):(ji h H).objs.size=h.objs.size:=PySem.W.hideAll_size _ _
theorem qY {h:Heap} {H:Hp} {b:Addr} {o:Obj} (e:h.get? b=some o) (n:H b=none):(ji h H).get? b=some o :=
  PySem.W.hideAll_get _ e fun hm=>by
    have q:(H b).isSome=true:=(List.mem_filter.mp hm).2;rw [n] at q;simp at q
theorem sx {h:Heap} {H:Hp} {b:Addr} {o:Obj} (e:(ji h H).get? b=some o):h.get? b=some o∧H b=none:=by
  have e':h.get? b=some o:=PySem.W.of_hideAll (trk h H) e;refine ⟨e',?_⟩;cases q:H b with
  | none=>rfl
  | some x =>
    have hm:b∈trk h H:=List.mem_filter.mpr ⟨abe.mpr (aag e'),by simp [q]⟩;have z:(ji h H).get? b=none:=PySem.W.hideAll_none (trk h H) hm;rw [z] at e;cases e
def sT (g h:Heap) (L:Addr):List (Addr × Obj):=(abj h.objs.size).filterMap fun a=>if a=L∨(g.get? a).isSome=true then none else (h.get? a).map fun o=>(a,o)
def df (g h:Heap) (L d:Addr):List (Addr × Obj):=(sT g h L).filter fun p=>decide (p.1≠d)
open PySem PySem.Spec PyProof.Rows
structure Mod (K:aab) (mg:Str→Option Value) (base:Heap):Prop where
  kin:K.In base
  glob:base.Ns mainGlobals mg
  blt:∃ mb,base.Ns builtinsNs mb∧∀ x:Str,x ≠ "__name__"→mb x=bootBuiltins x
  nolimit:base.NoLimit
  sysm:∃ mm,base.Ns sysModules mm
structure Cx where
  prog:Program
  w:World
  K:aab
  mg:Str→Option Value
  base:Heap
  A:Around
  N:List Str
  s₀:Shared
  H₀:Hp
  env:Env
  outer:List Env
  stack:List Env
  ex:List Addr
  fn:Str→Bool
  calm:Bool
  pn:List (Addr × Obj)
  xe:Value→Shared→Prop
def frs (l:List Env):List Addr:=l.filterMap (·.frame)
abbrev Cx.fs (X:Cx):List Addr:=frs X.outer
def Vis (sc:Scope) (x:Str):Prop:=sc.names.lookup x=some .local∨sc.names.lookup x=some .cell∨sc.names.lookup x=some .free
def Loc (sc:Scope) (x:Str):Prop:=sc.names.lookup x=some .local∨sc.names.lookup x=some .cell
def vR (env:Env) (h:Heap) (m:Str→Option Value) (x:Str) (u:Value):Prop :=
  (env.kindOf x=some .local∧m x=some u)∨((env.kindOf x=some .cell∨env.kindOf x=some .free)∧∃ c,env.cells.lookup x=some c∧h.IsCell c (some u))
structure Cx.Ok (X:Cx):Prop where
  mod:Mod X.K X.mg X.base
  kind:X.env.scope.kind=.function
  glob:X.env.globals=mainGlobals
  blt:X.env.builtins=builtinsNs
  above:X.s₀.heap.objs.size≤X.env.locals
  inj:∀ x y c,X.env.cells.lookup x=some c→X.env.cells.lookup y=some c→x=y
  has:∀ x,(X.env.kindOf x=some .cell∨X.env.kindOf x=some .free)→∃ c,X.env.cells.lookup x=some c
  cab:∀ x c,X.fn x=true→X.env.cells.lookup x=some c→X.s₀.heap.objs.size≤c
  hd:X.calm=true→X.A.handled=none
  frames:X.A.frames=some X.stack
  stk:X.stack=X.outer∨(X.stack=X.env :: X.outer∧X.env.frame=some X.env.locals)
  exf:∀ b∈X.ex,b≠X.env.locals∧∀ x c,X.env.cells.lookup x=some c→c≠b
  bs:∀ b o,X.base.get? b=some o→X.s₀.heap.get? b=some o∧X.H₀ b=none
  bsz:X.base.objs.size≤X.s₀.heap.objs.size
  noex:∀ b o,X.base.get? b=some o→b∉X.ex
  exfs:∀ b∈X.ex,b∉X.fs
  funs:X.s₀.heap.FunFrames X.base X.outer
  frf:∀ b∈X.fs,X.H₀ b=none
structure Inv (X:Cx) (pins:List (Addr × Obj)) (σ:List (Option V)) (H:Hp) (s:Shared):Prop where
  ok:X.Ok
  os:s.os=X.s₀.os
  bare:AllBare s.gens
  base:Un X.fs X.ex X.H₀ H X.s₀.heap s.heap
  loc:∃ m,s.heap.Ns X.env.locals m∧∀ (i:Nat) (x:Str) (v:V),X.N[i]?=some x→σ[i]?=some (some v)→Vis X.env.scope x→∃ u,RelV v u∧vR X.env s.heap m x u
  cell:∀ x c,X.env.cells.lookup x=some c→∃ v,s.heap.IsCell c v
  free:H X.env.locals=none
  freeC:∀ x c,X.env.cells.lookup x=some c→H c=none
  pin:∀ p∈X.pn++pins,s.heap.get? p.1=some p.2∧H p.1=none∧p.1≠X.env.locals∧p.1∉X.fs∧∀ v,p.2.data≠.cell v
  hok:HOk X.prog X.w H s.heap
  len:σ.length=X.N.length
section
variable {X:Cx} {pins:List (Addr × Obj)} {σ:List (Option V)} {H H':Hp} {s:Shared} {h':Heap}
theorem Cx.Ok.nofr (ok:X.Ok) {b:Addr} {o:Obj} (e:X.base.get? b=some o):b∉X.fs:=fun hb=>by
  have:=(ok.funs.mem hb).1;rw [e] at this;cases this
theorem Inv.bs (I:Inv X pins σ H s):∀ b o,X.base.get? b=some o→s.heap.get? b=some o∧H b=none:=fun b o e =>
  ⟨I.base.keep b o (I.ok.bs b o e).1 (I.ok.bs b o e).2 (I.ok.nofr e) (I.ok.noex b o e),I.base.free b o (I.ok.bs b o e).1 (I.ok.bs b o e).2 (I.ok.noex b o e)⟩
theorem Inv.bk (I:Inv X pins σ H s):∀ b o,X.base.get? b=some o→s.heap.get? b=some o:=fun b o e=>(I.bs b o e).1
theorem Inv.mod (I:Inv X pins σ H s):Mod X.K X.mg X.base:=I.ok.mod
theorem Inv.kIn (I:Inv X pins σ H s):X.K.In s.heap:=I.ok.mod.kin.keeps I.bk
theorem Inv.lt (I:Inv X pins σ H s):X.env.locals < s.heap.objs.size:=let ⟨_,hn,_⟩:=I.loc;hn.lt
theorem Inv.sz (I:Inv X pins σ H s):X.s₀.heap.objs.size≤s.heap.objs.size:=aaK I.ok.above (Nat.le_of_lt I.lt)
theorem Inv.nofs (I:Inv X pins σ H s) {a:Addr} (h:s.heap.objs.size≤a):a∉X.fs:=fun hb=>by
  obtain ⟨_,o,ho,_⟩:=I.ok.funs.mem hb;exact absurd (aao (aag ho) (aaK I.sz h)) (aaZ _)
theorem Inv.cne (I:Inv X pins σ H s):∀ x c,X.env.cells.lookup x=some c→c≠X.env.locals:=fun x c e z=>by
  obtain ⟨v,o,ho,hd⟩:=I.cell x c e;obtain ⟨m,⟨o',es,ep,ho',hd',_⟩,_⟩:=I.loc;rw [z,ho'] at ho;cases ho;rw [hd'] at hd;cases hd
theorem Inv.funs (I:Inv X pins σ H s):s.heap.FunFrames X.base X.outer:=by
  have all:∀ (l:List Env),(∀ b∈frs l,b∈X.fs)→X.s₀.heap.FunFrames X.base l→s.heap.FunFrames X.base l:=by
    intro l
    induction l with
    | nil=>intro _ _;trivial
    | cons env r ih =>
      intro hs hl;obtain ⟨hk,⟨L,o,hf,hn,ho,hd⟩,hr⟩:=hl;have hL:L∈X.fs:=hs L (by unfold frs;rw [abi,hf];exact aav);obtain ⟨sl,e⟩:=I.base.slot L o ho (I.ok.frf L hL) hL fun z=>I.ok.exfs L z hL;exact ⟨hk,⟨L,_,hf,hn,e,hd⟩,ih (fun b hb=>hs b (by unfold frs;rw [abi,hf];exact aal _ hb)) hr⟩
  exact all X.outer (fun _ hb=>hb) I.ok.funs
theorem Inv.stack (I:Inv X pins σ H s):s.heap.FunFrames X.base X.stack:=by
  rcases I.ok.stk with e|⟨e,hf⟩
  · rw [e];exact I.funs
  · rw [e];obtain ⟨m,hn,_⟩:=I.loc;refine .cons (by rw [I.ok.kind];decide) hf hn ?_ I.funs;exact Heap.get?_none_of_le (aaK I.ok.bsz I.ok.above)
theorem Inv.stkSub (I:Inv X pins σ H s):∀ b∈frs X.stack,b∈X.env.locals :: X.fs:=fun b hb=>by
  rcases I.ok.stk with e|⟨e,hf⟩
  · rw [e] at hb;exact aal _ hb
  · rw [e] at hb;unfold frs at hb;rw [abi,hf] at hb;exact hb
theorem Inv.stkFree (I:Inv X pins σ H s):∀ b∈frs X.stack,H b=none:=fun b hb=>by
  rcases aai.mp (I.stkSub b hb) with e|hb
  · rw [e];exact I.free
  · obtain ⟨_,o,ho,_⟩:=I.ok.funs.mem hb;exact I.base.free b o ho (I.ok.frf b hb) fun z=>I.ok.exfs b z hb
theorem Inv.step {g':Array GenState} {t':Nat} {d':Drawn} {ch:List Addr} (I:Inv X pins σ H s)
    (hch:∀ b∈ch,(b∈X.ex∨X.s₀.heap.objs.size≤b)∧b≠X.env.locals∧(∀ x c,X.env.cells.lookup x=some c→c≠b)∧∀ p∈X.pn++pins,p.1≠b)
    (keep:∀ b o,b≠X.env.locals→b∉X.fs→b∉ch→s.heap.get? b=some o→H b=none→h'.get? b=some o)
    (slot:∀ b o,b≠X.env.locals→b∈X.fs→b∉ch→s.heap.get? b=some o→H b=none→∃ sl,h'.get? b=some { o with slots:=sl }) (free:∀ b o,b∉ch→s.heap.get? b=some o→H b=none→H' b=none)
    (there:∀ b o,b∉ch→s.heap.get? b=some o→∃ o',h'.get? b=some o')
    (tups:∀ b xs,H b=some (.tup xs)→H' b=some (.tup xs)) (frzs:∀ b o u,H b=some (.frz o u)→H' b=some (.frz o u)) (tbls:∀ b ps,H b=some (.tbl ps)→∃ more,H' b=some (.tbl (ps++more)))
    (ns:∀ m,s.heap.Ns X.env.locals m→h'.Ns X.env.locals m) (hok:HOk X.prog X.w H' h') (hg:AllBare g') :
    Inv X pins σ H' { s with heap:=h',gens:=g',drawn:=d',toks:=t' }:=by
  have neL:∀ b o,X.s₀.heap.get? b=some o→b≠X.env.locals:=fun b o e=>aas (aao (aag e) I.ok.above);have neC:∀ b o,X.s₀.heap.get? b=some o→b∉X.ex→b∉ch:=fun b o e hx hb=>by
    rcases (hch b hb).1 with z|z
    · exact hx z
    · exact absurd (aao (aag e) z) (aaZ _)
  have cellK:∀ x c,X.env.cells.lookup x=some c→∀ v,s.heap.IsCell c v→h'.IsCell c v:=fun x c e v ⟨o,ho,hd⟩=>by
    have nch:c∉ch:=fun z=>(hch c z).2.2.1 x c e rfl;by_cases hc:c∈X.fs
    · obtain ⟨sl,q⟩:=slot c o (I.cne x c e) hc nch ho (I.freeC x c e);exact ⟨_,q,hd⟩
    · exact ⟨o,keep c o (I.cne x c e) hc nch ho (I.freeC x c e),hd⟩
  refine ⟨I.ok,I.os,hg,⟨fun b o e n hb hx=>?_,fun b o e n hb hx=>?_,fun b o e n hx=>?_,fun b o e hx=>?_,fun b xs e=>tups b xs (I.base.tups b xs e),fun b o xs e=>frzs b o xs (I.base.frzs b o xs e),fun b ps e=>?_⟩,?_,fun x c e=>?_,?_,fun x c e=>?_,fun p hp=>?_,hok,I.len⟩
  · exact keep b o (neL b o e) hb (neC b o e hx) (I.base.keep b o e n hb hx) (I.base.free b o e n hx)
  · obtain ⟨sl,e1⟩:=I.base.slot b o e n hb hx;obtain ⟨sl',e2⟩:=slot b _ (neL b o e) hb (neC b o e hx) e1 (I.base.free b o e n hx);exact ⟨sl',e2⟩
  · obtain ⟨o',e1⟩:=I.base.there b o e hx;exact free b o' (neC b o e hx) e1 (I.base.free b o e n hx)
  · obtain ⟨o',e1⟩:=I.base.there b o e hx;exact there b o' (neC b o e hx) e1
  · obtain ⟨m1,e1⟩:=I.base.tbls b ps e;obtain ⟨m2,e2⟩:=tbls b _ e1;exact ⟨m1++m2,by rw [e2,Array.append_assoc]⟩
  · obtain ⟨m,hn,hl⟩:=I.loc;refine ⟨m,ns m hn,fun i x v e1 e2 e3=>?_⟩;obtain ⟨u,r,l⟩:=hl i x v e1 e2 e3;refine ⟨u,r,?_⟩;rcases l with l|⟨k,c,e,z⟩
    · exact .inl l
    · exact .inr ⟨k,c,e,cellK x c e _ z⟩
  · obtain ⟨v,z⟩:=I.cell x c e;exact ⟨v,cellK x c e v z⟩
  · obtain ⟨m,⟨o,_,_,ho,_⟩,_⟩:=I.loc;exact free _ o (fun z=>(hch _ z).2.1 rfl) ho I.free
  · obtain ⟨v,o,ho,hd⟩:=I.cell x c e;exact free c o (fun z=>(hch c z).2.2.1 x c e rfl) ho (I.freeC x c e)
  · obtain ⟨e,n,ne,nf,d⟩:=I.pin p hp;have nch:p.1∉ch:=fun z=>(hch p.1 z).2.2.2 p hp rfl;exact ⟨keep p.1 p.2 ne nf nch e n,free p.1 p.2 nch e n,ne,nf,d⟩
theorem Inv.un {t':Nat} (I:Inv X pins σ H s) (u:Un X.fs [] H H' s.heap h') (hok:HOk X.prog X.w H' h'):Inv X pins σ H' { s with heap:=h',toks:=t' }:=by
  obtain ⟨m,⟨o,es,ep,ho,r⟩,_⟩:=id I.loc;obtain ⟨sl,hL⟩:=u.any ho I.free (by simp);exact I.step (g':=s.gens) (d':=s.drawn) (ch:=[]) (fun _ z=>nomatch z) (fun b o _ hb _ e n=>u.keep b o e n hb (by simp)) (fun b o _ hb _ e n=>u.slot b o e n hb (by simp)) (fun b o _ e n=>u.free b o e n (by simp)) (fun b o _ e=>u.there b o e (by simp)) u.tups u.frzs u.tbls (fun m' hm=>by
    obtain ⟨o',es',ep',ho',r'⟩:=hm;rw [ho] at ho';cases ho';exact ⟨_,es',ep',hL,r'⟩) hok I.bare
theorem Inv.call {g':Array GenState} {t':Nat} {d':Drawn} {ch:List Addr} (I:Inv X pins σ H s) (u:Un (frs X.stack) ch H H' s.heap h') (hok:HOk X.prog X.w H' h') (hg:AllBare g')
    (hch:∀ b∈ch,(b∈X.ex∨X.s₀.heap.objs.size≤b)∧b≠X.env.locals∧(∀ x c,X.env.cells.lookup x=some c→c≠b)∧∀ p∈X.pn++pins,p.1≠b) :
    Inv X pins σ H' { s with heap:=h',gens:=g',drawn:=d',toks:=t' }:=by
  obtain ⟨m,⟨o,es,ep,ho,r⟩,_⟩:=id I.loc;obtain ⟨sl,hL⟩:=u.any ho I.free fun z=>(hch _ z).2.1 rfl;exact I.step (ch:=ch) hch (fun b o hL hb hc e n=>u.keep b o e n (fun z=>(aai.mp (I.stkSub b z)).elim hL hb) hc) (fun b o _ _ hc e n=>u.any e n hc) (fun b o hc e n=>u.free b o e n hc) (fun b o hc e=>u.there b o e hc) u.tups u.frzs u.tbls (fun m' hm=>by
    obtain ⟨o',es',ep',ho',r'⟩:=hm;rw [ho] at ho';cases ho';exact ⟨_,es',ep',hL,r'⟩) hok hg
theorem Inv.turned {t':Nat} {it:Addr} (I:Inv X pins σ H s) (k:∀ b o,b≠it→s.heap.get? b=some o→h'.get? b=some o) (hn:H it=none) (hL:it≠X.env.locals)
    (h1:it∈X.ex∨X.s₀.heap.objs.size≤it) (h2:∀ x c,X.env.cells.lookup x=some c→c≠it) (h3:∀ p∈X.pn++pins,p.1≠it):Inv X pins σ H { s with heap:=h',toks:=t' }:=by
  have nit:∀ b u,H b=some u→b≠it:=fun b u e z=>by rw [z,hn] at e;cases e
  refine I.step (g':=s.gens) (d':=s.drawn) (ch:=[it]) (fun b hb=>?_) (fun b o _ _ hc e _=>k b o (fun z=>hc (by simp [z])) e) (fun b o _ _ hc e _=>⟨o.slots,k b o (fun z=>hc (by simp [z])) e⟩) (fun _ _ _ _ n=>n)
    (fun b o hc e=>⟨o,k b o (fun z=>hc (by simp [z])) e⟩) (fun _ _ e=>e) (fun _ _ _ e=>e) (fun b ps e=>⟨#[],by rw [e];simp⟩) (fun m hm=>?_) (fun b u e=>?_) I.bare
  · have e:b=it:=by simpa using hb
    subst e;exact ⟨h1,hL,h2,h3⟩
  · obtain ⟨o,es,ep,ho,r⟩:=hm;exact ⟨o,es,ep,k _ o (abt hL) ho,r⟩
  · refine (I.hok b u e).stay (fun c v hc q=>k c v ?_ q) (fun _ q=>q) fun _ _ q=>q;rcases hc with z|z
    · rw [z];exact nit b u e
    · exact nit c _ z
theorem Inv.tok (I:Inv X pins σ H s) (t:Nat):Inv X pins σ H { s with toks:=t }:=I.un (h':=s.heap) (t':=t) Un.refl I.hok
theorem Inv.kept {t':Nat} (I:Inv X pins σ H s) (k:∀ b u,s.heap.get? b=some u→h'.get? b=some u):Inv X pins σ H { s with heap:=h',toks:=t' }:=I.un (Un.kept k) (I.hok.kept k)
theorem Inv.laid {a:Addr} {o:HO} {t':Nat} (I:Inv X pins σ H s) (k:∀ b u,s.heap.get? b=some u→h'.get? b=some u) (hp:s.heap.objs.size≤a) (new:ObjOk X.prog X.w (upd H a o) h' a o) :
    Inv X pins σ (upd H a o) { s with heap:=h',toks:=t' }:=I.un (Un.laid k hp (I.hok.fresh hp)) (I.hok.laid k hp new)
theorem Inv.write {x e:Addr} {o:HO} {t':Nat} (I:Inv X pins σ H s) (mu:Mut (H x)) (he:e=x∨H e=some (.own x)) (k:∀ b u,b≠e→s.heap.get? b=some u→h'.get? b=some u) (heo:∃ u,h'.get? e=some u)
    (new:ObjOk X.prog X.w (upd H x o) h' x o):Inv X pins σ (upd H x o) { s with heap:=h',toks:=t' }:=I.un (Un.write mu he k heo) (I.hok.write mu he k heo new)
theorem Inv.pins_of {pins':List (Addr × Obj)} (I:Inv X pins σ H s) (h:∀ p∈pins',s.heap.get? p.1=some p.2∧H p.1=none∧p.1≠X.env.locals∧p.1∉X.fs∧∀ v,p.2.data≠.cell v):Inv X pins' σ H s :=
  ⟨I.ok,I.os,I.bare,I.base,I.loc,I.cell,I.free,I.freeC,fun p hp=>(aau.mp hp).elim (fun z=>I.pin p (aaz _ z)) (h p),I.hok,I.len⟩
theorem iw {N:List Str} (hN:N.Nodup) {i j:Nat} {x:Str} (a:N[i]?=some x) (b:N[j]?=some x):i=j:=by
  obtain ⟨h1,e1⟩:=aaj.mp a;obtain ⟨h2,e2⟩:=aaj.mp b;exact (List.getElem_inj hN).mp (e1.trans e2.symm)
theorem oH {M:Model} {A:Around} {E:Value→Shared→Prop} {i:Nat} {x:Str} {v:V} {u:Value} {Q:Unit→Shared→Prop} (I:Inv X pins σ H s) (hN:X.N.Nodup) (hi:X.N[i]?=some x) (hx:Loc X.env.scope x) (r:RelV v u)
    (h:∀ s',Inv X pins (σ.set i (some v)) H s'→(∃ a,abc a s.heap s'.heap∧(a=X.env.locals∨X.env.cells.lookup x=some a))→Q () s') (hf:X.fn x=true∨X.env.scope.names.lookup x=some .local:=by first|exact .inl rfl|exact .inr rfl|assumption):wpAny M A (storeName X.env x u) Q E s:=by
  obtain ⟨m,hn,hl⟩:=id I.loc;have hcls:(X.env.scope.kind == .class || (X.env.scope.kind == .module && X.env.locals != X.env.globals))=false:=by rw [I.ok.kind];rfl
  have hiσ:i < σ.length:=by rw [I.len];exact (aaj.mp hi).1
  have cne:=I.cne;have tracked:∀ {a:Addr} {h':Heap},(∃ o,s.heap.get? a=some o∧H a=none)→abc a s.heap h'→HOk X.prog X.w H h':=fun {a h'} ha hs b ob e=>by
    obtain ⟨_,_,hfree⟩:=ha;refine (I.hok b ob e).stay (fun c w' hc q=>(hs.2 c ?_).trans q) (fun _ q=>q) fun _ _ q=>q;rintro rfl;rcases hc with rfl|hc
    · rw [hfree] at e;cases e
    · rw [hfree] at hc;cases hc
  rcases hx with hk|hk
  · refine wpAny_storeName_local hk hn (fun h' hn' hs=>?_) hcls;obtain ⟨oL,_,_,hoL,_⟩:=id hn;refine h _ ⟨I.ok,I.os,I.bare,⟨fun b o e n hb hx=>?_,fun b o e n hb hx=>?_,I.base.free,fun b o e hx=>?_,I.base.tups,I.base.frzs,I.base.tbls⟩,⟨_,hn',fun j y v' e1 e2 e3=>?_⟩,fun y c e=>?_,I.free,I.freeC,fun p hp=>?_,tracked ⟨oL,hoL,I.free⟩ hs,by simpa using I.len⟩ ⟨_,hs,.inl rfl⟩
    · exact (hs.2 b (aas (aao (aag e) I.ok.above))).trans (I.base.keep b o e n hb hx)
    · obtain ⟨sl,e1⟩:=I.base.slot b o e n hb hx;exact ⟨sl,(hs.2 b (aas (aao (aag e) I.ok.above))).trans e1⟩
    · obtain ⟨o',e1⟩:=I.base.there b o e hx;exact ⟨o',(hs.2 b (aas (aao (aag e) I.ok.above))).trans e1⟩
    · by_cases hj:j=i
      · subst hj;rw [hi] at e1;cases e1;rw [List.getElem?_set_self hiσ] at e2;cases e2;exact ⟨u,r,.inl ⟨hk,by simp⟩⟩
      · rw [List.getElem?_set_ne (abt hj)] at e2;obtain ⟨u',r',q⟩:=hl j y v' e1 e2 e3;refine ⟨u',r',?_⟩;rcases q with ⟨k,e⟩|⟨k,c,e,z⟩
        · refine .inl ⟨k,?_⟩;have : y≠x:=fun e=>hj (iw hN e1 (e ▸ hi));simp [this,e]
        · exact .inr ⟨k,c,e,z.sameBut hs (cne y c e)⟩
    · obtain ⟨w',z⟩:=I.cell y c e;exact ⟨w',z.sameBut hs (cne y c e)⟩
    · obtain ⟨e,n,ne,nf,d⟩:=I.pin p hp;exact ⟨(hs.2 p.1 ne).trans e,n,ne,nf,d⟩
  · have hfn:X.fn x=true:=by
      rcases hf with z|z
      · exact z
      · rw [z] at hk;cases hk
    obtain ⟨c,hc⟩:=I.ok.has x (.inl hk);obtain ⟨w',z⟩:=I.cell x c hc;refine wpAny_storeName_cell I.ok.kind hk hc z (fun h' hc' hs=>?_);obtain ⟨oc,hoc,hocd⟩:=id z;refine h { s with heap:=h' } ⟨I.ok,I.os,I.bare,⟨fun b o e n hb hx=>?_,fun b o e n hb hx=>?_,I.base.free,fun b o e hx=>?_,I.base.tups,I.base.frzs,I.base.tbls⟩,⟨m,hn.sameBut hs (abt (cne x c hc)),fun j y v' e1 e2 e3=>?_⟩,fun y c' e=>?_,I.free,I.freeC,fun p hp=>?_,tracked ⟨oc,hoc,I.freeC x c hc⟩ hs,by simpa using I.len⟩ ⟨c,hs,.inr hc⟩
    · exact (hs.2 b (aas (aao (aag e) (I.ok.cab x c hfn hc)))).trans (I.base.keep b o e n hb hx)
    · obtain ⟨sl,e1⟩:=I.base.slot b o e n hb hx;exact ⟨sl,(hs.2 b (aas (aao (aag e) (I.ok.cab x c hfn hc)))).trans e1⟩
    · obtain ⟨o',e1⟩:=I.base.there b o e hx;exact ⟨o',(hs.2 b (aas (aao (aag e) (I.ok.cab x c hfn hc)))).trans e1⟩
    · by_cases hj:j=i
      · subst hj;rw [hi] at e1;cases e1;rw [List.getElem?_set_self hiσ] at e2;cases e2;exact ⟨u,r,.inr ⟨.inl hk,c,hc,hc'⟩⟩
      · rw [List.getElem?_set_ne (abt hj)] at e2;obtain ⟨u',r',q⟩:=hl j y v' e1 e2 e3;refine ⟨u',r',?_⟩;rcases q with q|⟨k,c',e,z'⟩
        · exact .inl q
        · refine .inr ⟨k,c',e,z'.sameBut hs ?_⟩;rintro rfl;exact hj (iw hN e1 (I.ok.inj _ _ _ e hc ▸ hi))
    · by_cases hcc:c'=c
      · subst hcc;exact ⟨_,hc'⟩
      · obtain ⟨w2,z2⟩:=I.cell y c' e;exact ⟨w2,z2.sameBut hs hcc⟩
    · obtain ⟨e,n,ne,nf,d⟩:=I.pin p hp;refine ⟨(hs.2 p.1 ?_).trans e,n,ne,nf,d⟩;intro q;rw [q,hoc] at e;have q':oc=p.2:=aaM e;exact d w' (by rw [← q'];exact hocd)
theorem cY {M:Model} {A:Around} {E:Value→Shared→Prop} {i:Nat} {x:Str} {v:V} {u:Value} {Q:Unit→Shared→Prop} (I:Inv X pins σ H s) (hN:X.N.Nodup) (hi:X.N[i]?=some x) (hx:Loc X.env.scope x) (r:RelV v u)
    (h:∀ s',Inv X pins (σ.set i (some v)) H s'→Q () s') (hf:X.fn x=true∨X.env.scope.names.lookup x=some .local:=by first|exact .inl rfl|exact .inr rfl|assumption):wpAny M A (storeName X.env x u) Q E s :=
  oH I hN hi hx r (fun s' I' _=>h s' I') hf
theorem Inv.call' {s':Shared} {ch:List Addr} (I:Inv X pins σ H s) (ho:s'.os=s.os) (u:Un (frs X.stack) ch H H' s.heap s'.heap) (hok:HOk X.prog X.w H' s'.heap) (hg:AllBare s'.gens)
    (hch:∀ b∈ch,(b∈X.ex∨X.s₀.heap.objs.size≤b)∧b≠X.env.locals∧(∀ x c,X.env.cells.lookup x=some c→c≠b)∧∀ p∈X.pn++pins,p.1≠b):Inv X pins σ H' s':=by
  obtain ⟨h',g',d',t',o'⟩:=s';have e:o'=s.os:=ho;subst e;exact I.call (g':=g') (t':=t') (d':=d') u hok hg hch
end
abbrev XK:=Value→Option Addr→Hp→Prop
abbrev St:=List (Option V)
abbrev VK:=V→Hp→Prop
abbrev TE:=St→Hp→VK→Prop
abbrev TT:=St→Hp→(Bool→Hp→Prop)→Prop
abbrev TA:=St→Hp→(List V→Hp→Prop)→Prop
structure Ends where
  nx:St→Hp→Prop
  rt:VK
  bk:St→Hp→Prop:=fun _ _=>False
  ct:St→Hp→Prop:=fun _ _=>False
abbrev TS:=Ends→St→Hp→Prop
def EP (X:Cx) (pins:List (Addr × Obj)) (σ:St) (Q:VK) (u:Value) (s':Shared):Prop:=∃ v H',Inv X pins σ H' s'∧RelV v u∧Q v H'
def TP (X:Cx) (pins:List (Addr × Obj)) (σ:St) (Q:Bool→Hp→Prop) (b:Bool) (s':Shared):Prop:=∃ H',Inv X pins σ H' s'∧Q b H'
def AP (X:Cx) (pins:List (Addr × Obj)) (σ:St) (Q:List V→Hp→Prop) (us:List Value) (s':Shared):Prop:=∃ vs H',Inv X pins σ H' s'∧Vals vs us∧Q vs H'
def SP (X:Cx) (pins:List (Addr × Obj)) (D:Ends) (f:Flow) (s':Shared):Prop :=
  match f with
  | .next=>∃ σ' H',Inv X pins σ' H' s'∧D.nx σ' H'
  | .brk=>∃ σ' H',Inv X pins σ' H' s'∧D.bk σ' H'
  | .cont=>∃ σ' H',Inv X pins σ' H' s'∧D.ct σ' H'
  | .ret u=>∃ v σ' H',Inv X pins σ' H' s'∧RelV v u∧D.rt v H'
def PE (X:Cx) (e:Expr) (t:TE):Prop :=
  ∀ (pins:List (Addr × Obj)) (s:Shared) (σ:St) (H:Hp) (Q:VK),Inv X pins σ H s→t σ H Q→wpAny (model X.prog X.w) X.A (eval e X.env) (EP X pins σ Q) X.xe s
def PT (X:Cx) (e:Expr) (t:TT):Prop :=
  ∀ (pins:List (Addr × Obj)) (s:Shared) (σ:St) (H:Hp) (Q:Bool→Hp→Prop),Inv X pins σ H s→t σ H Q→wpAny (model X.prog X.w) X.A (isTrue e X.env (eval e X.env)) (TP X pins σ Q) X.xe s
def PW (X:Cx) (e:Expr) (t:TT):Prop :=
  ∀ (whole:Sem Value) (pins:List (Addr × Obj)) (s:Shared) (σ:St) (H:Hp) (Q:Bool→Hp→Prop),Inv X pins σ H s→t σ H Q→wpAny (model X.prog X.w) X.A (isTrue e X.env whole) (TP X pins σ Q) X.xe s
theorem PW.pt {X:Cx} {e:Expr} {t:TT} (h:PW X e t):PT X e t:=h _
def PA (X:Cx) (es:List Expr) (t:TA):Prop :=
  ∀ (pos:Pos) (pins:List (Addr × Obj)) (s:Shared) (σ:St) (H:Hp) (Q:List V→Hp→Prop),Inv X pins σ H s→t σ H Q→wpAny (model X.prog X.w) X.A (spliced (backTo pos (starEach es X.env))) (AP X pins σ Q) X.xe s
def PS (X:Cx) (st:Stmt) (t:TS):Prop :=
  ∀ (pins:List (Addr × Obj)) (s:Shared) (σ:St) (H:Hp) (D:Ends),Inv X pins σ H s→t D σ H→wpAny (model X.prog X.w) X.A (exec st X.env) (SP X pins D) X.xe s
def PSs (X:Cx) (st:List Stmt) (t:TS):Prop :=
  ∀ (pins:List (Addr × Obj)) (s:Shared) (σ:St) (H:Hp) (D:Ends),Inv X pins σ H s→t D σ H→wpAny (model X.prog X.w) X.A (execs st X.env) (SP X pins D) X.xe s
theorem thn {α:Type} {t:Sem α} {Q Q':α→Shared→Prop} {M:Model} {A:Around} {E:Value→Shared→Prop} {s:Shared} (h:wpAny M A t Q E s) (hQ:∀ a s,Q a s→Q' a s):wpAny M A t Q' E s:=wpAny_mono h hQ fun _ _ x=>x
open PySem PySem.Spec PyProof.Rows
section
variable {X:Cx}
def tJ (i:Nat):TE:=fun σ H Q=>∃ v,σ[i]?=some (some v)∧Q v H
def tC (v:V):TE:=fun _ H Q=>Q v H
theorem ub {i:Nat} {x:Str} {pos:Pos} (hN:X.N[i]?=some x) (hv:Vis X.env.scope x) (hd:(x == ("__debug__":Str))=false:=by decide) (hcd:(x == ("__classdict__":Str))=false:=by decide):PE X (.Name x pos) (tJ i):=by
  intro pins s σ H Q I h;obtain ⟨v,e,h⟩:=h;obtain ⟨m,hn,hl⟩:=I.loc;obtain ⟨u,r,l⟩:=hl i x v hN e hv;have fin:EP X pins σ Q u s:=⟨v,H,I,r,h⟩
  rcases l with ⟨hk,hm⟩|⟨hk,c,hc,hcell⟩
  · exact wpAny_Name (wpAny_loadName_local I.ok.kind hk hn hm fin) hd
  · rcases hk with hk|hk
    · exact wpAny_Name (wpAny_loadName_cell I.ok.kind hk hc hcell fin) hd
    · exact wpAny_Name (wpAny_loadName_free I.ok.kind hk hc hcell fin hcd) hd
theorem ae {i j pos}:PE X (.Constant (.int i) j pos) (tC (.int i)):=fun _ _ _ H _ I h=>wpAny_Constant_int ⟨.int i,H,I.tok _,⟨_,rfl⟩,h⟩
theorem eV {b j pos}:PE X (.Constant (.bool b) j pos) (tC (.bl b)):=fun _ _ _ H _ I h=>Constant_bool ⟨.bl b,H,I,rfl,h⟩
theorem dc {j pos}:PE X (.Constant .none j pos) (tC .non):=fun _ _ _ H _ I h=>Constant_none ⟨.non,H,I,rfl,h⟩
theorem ax {x j pos}:PE X (.Constant (.str x) j pos) (tC (.str x)):=fun _ _ _ H _ I h=>Calls.Constant_str ⟨.str x,H,I.tok _,⟨_,rfl⟩,h⟩
def Gl (X:Cx) (x:Str):Prop:=X.env.kindOf x=some .globalImplicit
theorem gi {E:Value→Shared→Prop} {pins:List (Addr × Obj)} {s:Shared} {σ:St} {H:Hp} {x:Str} {u:Value} {pos:Pos} {Q:Value→Shared→Prop} (I:Inv X pins σ H s) (hg:Gl X x) (hm:X.mg x=some u) (h:Q u s)
    (hd:(x == ("__debug__":Str))=false:=by decide):wpAny (model X.prog X.w) X.A (eval (.Name x pos) X.env) Q E s :=
  Calls.Name_function_global I.ok.kind hg (Calls.loadGlobal_global (by rw [I.ok.glob];exact I.mod.glob.keeps I.bk) hm h) hd
theorem gC {E:Value→Shared→Prop} {pins:List (Addr × Obj)} {s:Shared} {σ:St} {H:Hp} {x:Str} {u:Value} {pos:Pos} {Q:Value→Shared→Prop} (I:Inv X pins σ H s) (hg:Gl X x) (hm:X.mg x=none) (hv:bootBuiltins x=some u) (h:Q u s)
    (hn:x ≠ "__name__":=by decide) (hd:(x == ("__debug__":Str))=false:=by decide):wpAny (model X.prog X.w) X.A (eval (.Name x pos) X.env) Q E s:=by
  obtain ⟨mb,h1,h2⟩:=I.mod.blt;exact Calls.Name_function_global I.ok.kind hg (Calls.loadGlobal_builtin (by rw [I.ok.glob];exact I.mod.glob.keeps I.bk) hm (by rw [I.ok.blt];exact h1.keeps I.bk) ((h2 x hn).trans hv) h) hd
theorem bt {x:Str} {v:V} {u:Value} {pos:Pos} (hg:Gl X x) (hm:X.mg x=some u) (r:RelV v u) (hd:(x == ("__debug__":Str))=false:=by decide):PE X (.Name x pos) (tC v) :=
  fun _ _ _ H _ I h=>gi I hg hm ⟨v,H,I,r,h⟩ hd
theorem cE {x:Str} {v:V} {u:Value} {pos:Pos} (hg:Gl X x) (hm:X.mg x=none) (hv:bootBuiltins x=some u) (r:RelV v u) (hn:x ≠ "__name__":=by decide) (hd:(x == ("__debug__":Str))=false:=by decide):PE X (.Name x pos) (tC v) :=
  fun _ _ _ H _ I h=>gC I hg hm hv ⟨v,H,I,r,h⟩ hn hd
variable {a b:Expr} {ta tb:TE} {pos:Pos}
def PC (X:Cx) (op:CmpOp) (a b:Expr) (t:TE):Prop :=
  ∀ (pins:List (Addr × Obj)) (s:Shared) (σ:St) (H:Hp) (Q:VK),Inv X pins σ H s→t σ H Q →
    wpAny (model X.prog X.w) X.A (eval a X.env) (fun v s₁=>wpAny (model X.prog X.w) X.A (eval b X.env) (fun u s₂=>wpAny (model X.prog X.w) X.A (compareOp op v u) (EP X pins σ Q) X.xe s₂) X.xe s₁) X.xe s
def tB (t:TE):TT:=fun σ H Q=>t σ H fun x H1=>∃ c,x=.bl c∧Q c H1
theorem uh {op:CmpOp} {t:TE} (h:PC X op a b t) (h1:behindInMarks op b=false:=by first|exact nobehind _ (by decide) (by decide)|rfl):PE X (.Compare a [op] [b] pos) t:=fun pins s σ H Q I hw=>wpAny_Compare1 (h pins s σ H Q I hw) h1
theorem cr {e:Expr} {t:TE} (h:PE X e t) (he:∀ whole,isTrue e X.env whole=(do let v ← whole;standAt e.pos;holding [v] (truthy v)):=by intro _;rfl):PT X e (tB t):=by
  intro pins s σ H Q I hw;refine isTrue_plain (thn (h pins s σ H _ I hw) fun v s1 ⟨x,H1,I1,r1,q1⟩=>?_) (he _);obtain ⟨d,rfl,q⟩:=q1;cases r1;exact wpAny_truthy_bool ⟨H1,I1,q⟩
variable {tA tB':TT} {df:List Expr}
def wj (t u:TT):TT:=fun σ H Q=>t σ H fun c H1=>if c=true then u σ H1 Q else Q false H1
def tOr (t u:TT):TT:=fun σ H Q=>t σ H fun c H1=>if c=true then Q true H1 else u σ H1 Q
def vY (t:TT):TT:=fun σ H Q=>t σ H fun c H1=>Q (!c) H1
theorem ki (ha:PT X a tA):PW X (.BoolOp .And [a] pos) tA:=by
  intro wh pins s σ H Q I h;refine isTrue_and (thn (ha pins s σ H Q I h) fun c s1 e=>?_);cases c with
  | true=>exact isTrue_and_nil e
  | false=>exact e
theorem kh (ha:PT X a tA):PW X (.BoolOp .Or [a] pos) tA:=by
  intro wh pins s σ H Q I h;refine isTrue_or (thn (ha pins s σ H Q I h) fun c s1 e=>?_);cases c with
  | false=>exact isTrue_or_nil e
  | true=>exact e
theorem km (ha:PT X a tA) (hb:PW X (.BoolOp .And (b :: df) pos) tB'):PW X (.BoolOp .And (a :: b :: df) pos) (wj tA tB'):=by
  intro wh pins s σ H Q I h;refine isTrue_and (thn (ha pins s σ H _ I h) fun c s1 ⟨H1,I1,q1⟩=>?_);cases c with
  | true=>exact hb wh pins s1 σ H1 Q I1 q1
  | false=>exact ⟨H1,I1,q1⟩
theorem nQ (ha:PT X a tA) (hb:PW X (.BoolOp .Or (b :: df) pos) tB'):PW X (.BoolOp .Or (a :: b :: df) pos) (tOr tA tB'):=by
  intro wh pins s σ H Q I h;refine isTrue_or (thn (ha pins s σ H _ I h) fun c s1 ⟨H1,I1,q1⟩=>?_);cases c with
  | true=>exact ⟨H1,I1,q1⟩
  | false=>exact hb wh pins s1 σ H1 Q I1 q1
theorem eo (ha:PT X a tA):PT X (.UnaryOp .Not a pos) (vY tA):=by
  intro pins s σ H Q I h;exact isTrue_not (ha pins s σ H (fun c H1=>Q (!c) H1) I h)
def ve (ta tb:TE):TE:=fun σ H Q=>ta σ H fun x H1=>∃ c,x=.bl c∧if c=true then tb σ H1 Q else Q (.bl false) H1
def u7 (ta:TE):TE:=fun σ H Q=>ta σ H fun x H1=>∃ c,x=.bl c∧Q (.bl (!c)) H1
theorem eE {op} {t:TE} (h:PE X a t):PE X (.BoolOp op [a] pos) t:=fun pins s σ H Q I hw=>BoolOp_one (h pins s σ H Q I hw)
theorem cu (ha:PE X a ta) (hb:PE X (.BoolOp .And (b :: df) pos) tb):PE X (.BoolOp .And (a :: b :: df) pos) (ve ta tb):=by
  intro pins s σ H Q I h;refine BoolOp_and (thn (ha pins s σ H _ I h) fun v s1 ⟨x,H1,I1,r1,q1⟩=>?_);obtain ⟨c,rfl,q1⟩:=q1;cases r1;refine wpAny_truthy_bool ?_;cases c with
  | true=>exact hb pins s1 σ H1 Q I1 q1
  | false=>exact ⟨.bl false,H1,I1,rfl,q1⟩
theorem uc (ha:PE X a ta):PE X (.UnaryOp .Not a pos) (u7 ta):=by
  intro pins s σ H Q I h;refine UnaryOp_ (thn (ha pins s σ H _ I h) fun v s1 ⟨x,H1,I1,r1,q1⟩=>?_);obtain ⟨c,rfl,q1⟩:=q1;cases r1;exact not_of (wpAny_truthy_bool ⟨.bl (!c),H1,I1,rfl,q1⟩)
def tIf (t:TT) (ta tb:TE):TE:=fun σ H Q=>t σ H fun c H1=>if c=true then ta σ H1 Q else tb σ H1 Q
theorem il {c:Expr} (hc:PT X c tA) (ha:PE X a ta) (hb:PE X b tb):PE X (.IfExp c a b pos) (tIf tA ta tb):=by
  intro pins s σ H Q I h;refine wpAny_IfExp (thn (hc pins s σ H _ I h) fun d s1 ⟨H1,I1,q1⟩=>?_);cases d with
  | true=>exact ha pins s1 σ H1 Q I1 q1
  | false=>exact hb pins s1 σ H1 Q I1 q1
end
open PySem PySem.Spec PyProof.Rows
def SqL (K:aab) (H:Hp) (a:Addr) (xs:List V):Prop :=
  Rd H a (.lst xs) ∨
    ∃ (o:Obj) (its:Array Value) (n:Nat),K.lookup a=some o∧o.cls=.type "list"∧o.dict=none∧o.data=.seq its n∧its.size≤sizeLine∧Vals xs its.toList
def SqT (K:aab) (H:Hp) (a:Addr) (xs:List V):Prop :=
  Rd H a (.tup xs) ∨
    ∃ (o:Obj) (its:Array Value) (n:Nat),K.lookup a=some o∧o.cls=.type "tuple"∧o.data=.seq its n∧its.size≤sizeLine∧Vals xs its.toList
def wO:Value→Option V
  | .none=>some .non
  | .bool b=>some (.bl b)
  | .int i _=>some (.int i)
  | .str x _=>some (.str x)
  | .bytes b _=>some (.byt b)
  | .float b _=>some (.flt b)
  | .ref a=>some (.ref a)
  | .type n=>some (.ty n)
  | _=>none
theorem RelV.abs {x:V} {u:Value} (r:RelV x u):wO u=some x:=by
  cases x with
  | non=>cases r;rfl
  | bl _=>cases r;rfl
  | int _=>obtain ⟨t,rfl⟩:=r;rfl
  | str _=>obtain ⟨t,rfl⟩:=r;rfl
  | byt _=>obtain ⟨t,rfl⟩:=r;rfl
  | flt _=>obtain ⟨t,rfl⟩:=r;rfl
  | ref _=>cases r;rfl
  | ty _=>cases r;rfl
theorem RelV.inj {x y:V} {u:Value} (r:RelV x u) (q:RelV y u):x=y:=aaM (r.abs.symm.trans q.abs)
theorem Vals.inj:∀ {xs ys:List V} {us:List Value},Vals xs us→Vals ys us→xs=ys
  | _,_,_,.nil,.nil=>rfl
  | _,_,_,.cons r t,.cons r' t'=>by rw [r.inj r',Vals.inj t t']
section
variable {X:Cx} {pins:List (Addr × Obj)} {σ:St} {H:Hp} {s:Shared} {a:Addr} {xs ys:List V}
theorem SqL.of {K:aab} (h:H a=some (.lst xs)):SqL K H a xs:=.inl (.inl h)
theorem SqT.of {K:aab} (h:H a=some (.tup xs)):SqT K H a xs:=.inl (.inl h)
theorem Inv.list (I:Inv X pins σ H s) (h:SqL X.K H a xs):∃ its:List Value,Vals xs its∧PlainL s.heap a its.toArray∧xs.length≤sizeLine:=by
  rcases h with h|⟨o,its,n,hk,hc,hd,hs,hz,r⟩
  · obtain ⟨z,its,n,r,e⟩:=h.ok I.hok;exact ⟨its,r,⟨_,n,e,rfl,rfl,rfl⟩,z⟩
  · refine ⟨its.toList,r,⟨o,n,I.kIn a o hk,hc,hd,by simpa using hs⟩,?_⟩;have e:=r.length;simp only [Array.length_toList] at e;lia
theorem Inv.tuple (I:Inv X pins σ H s) (h:SqT X.K H a xs):∃ its:List Value,Vals xs its∧IsTup s.heap a its.toArray∧xs.length≤sizeLine:=by
  rcases h with h|⟨o,its,n,hk,hc,hs,hz,r⟩
  · obtain ⟨z,its,r,p⟩:=h.ok I.hok;exact ⟨its,r,p,z⟩
  · refine ⟨its.toList,r,⟨o,I.kIn a o hk,hc,n,by simpa using hs⟩,?_⟩;have e:=r.length;simp only [Array.length_toList] at e;lia
theorem Inv.list_inj (I:Inv X pins σ H s) (h:SqL X.K H a xs) (h':SqL X.K H a ys):xs=ys:=by
  obtain ⟨its,r,⟨o,n,e,_,_,d⟩,_⟩:=I.list h;obtain ⟨its',r',⟨o',n',e',_,_,d'⟩,_⟩:=I.list h';rw [e] at e';cases e';rw [d] at d';injection d' with d1 _
  have : its=its':=by simpa using congrArg Array.toList d1
  subst this;exact r.inj r'
theorem Inv.tuple_inj (I:Inv X pins σ H s) (h:SqT X.K H a xs) (h':SqT X.K H a ys):xs=ys:=by
  obtain ⟨its,r,⟨o,e,_,n,d⟩,_⟩:=I.tuple h;obtain ⟨its',r',⟨o',e',_,n',d'⟩,_⟩:=I.tuple h';rw [e] at e';cases e';rw [d] at d';injection d' with d1 _
  have : its=its':=by simpa using congrArg Array.toList d1
  subst this;exact r.inj r'
end
abbrev Cx.wish (X:Cx) (E:Value→Shared→Prop):Cx:={ X with xe:=E }
abbrev Cx.nox (X:Cx):Cx:=X.wish fun _ _=>False
theorem Cx.Ok.wish {X:Cx} (ok:X.Ok) (E:Value→Shared→Prop):(X.wish E).Ok :=
  ⟨ok.mod,ok.kind,ok.glob,ok.blt,ok.above,ok.inj,ok.has,ok.cab,ok.hd,ok.frames,ok.stk,ok.exf,ok.bs,ok.bsz,ok.noex,ok.exfs,ok.funs,ok.frf⟩
theorem Cx.Ok.unwish {X:Cx} {E:Value→Shared→Prop} (ok:(X.wish E).Ok):X.Ok :=
  ⟨ok.mod,ok.kind,ok.glob,ok.blt,ok.above,ok.inj,ok.has,ok.cab,ok.hd,ok.frames,ok.stk,ok.exf,ok.bs,ok.bsz,ok.noex,ok.exfs,ok.funs,ok.frf⟩
section
variable {X:Cx} {pins:List (Addr × Obj)} {σ:St} {H:Hp} {s:Shared} {E:Value→Shared→Prop}
theorem Inv.wish (I:Inv X pins σ H s) (E:Value→Shared→Prop):Inv (X.wish E) pins σ H s:=⟨I.ok.wish E,I.os,I.bare,I.base,I.loc,I.cell,I.free,I.freeC,I.pin,I.hok,I.len⟩
theorem Inv.unwish (I:Inv (X.wish E) pins σ H s):Inv X pins σ H s:=⟨I.ok.unwish,I.os,I.bare,I.base,I.loc,I.cell,I.free,I.freeC,I.pin,I.hok,I.len⟩
theorem SP.unwish {D:Ends} {f:Flow} {s':Shared} (h:SP (X.wish E) pins D f s'):SP X pins D f s':=by
  cases f with
  | next=>obtain ⟨σ',H',I,q⟩:=h;exact ⟨σ',H',I.unwish,q⟩
  | brk=>obtain ⟨σ',H',I,q⟩:=h;exact ⟨σ',H',I.unwish,q⟩
  | cont=>obtain ⟨σ',H',I,q⟩:=h;exact ⟨σ',H',I.unwish,q⟩
  | ret u=>obtain ⟨v,σ',H',I,r,q⟩:=h;exact ⟨v,σ',H',I.unwish,r,q⟩
theorem PSs.nox {st:List Stmt} {t:TS} (h:PSs X.nox st t):PSs X st t:=fun pins s σ H D I hw =>
  wpAny_mono (h pins s σ H D (I.wish _) hw) (fun _ _ q=>q.unwish) fun _ _ z=>aa7 z
end
section
variable {X:Cx} {st:Stmt} {df:List Stmt} {t u:TS} {e:Expr} {te:TE} {pos:Pos}
def u8:TS:=fun D σ H=>D.nx σ H
def vV (t u:TS):TS:=fun D σ H=>t { D with nx:=u D } σ H
theorem bn:PSs X [] u8:=fun _ _ σ H _ I h=>wpAny_execs_nil ⟨σ,H,I,h⟩
theorem af (h1:PS X st t) (h2:PSs X df u):PSs X (st :: df) (vV t u):=by
  intro pins s σ H D I h;refine wpAny_execs_cons (thn (h1 pins s σ H { D with nx:=u D } I h) fun f s1 q=>?_);cases f with
  | next =>
    obtain ⟨σ',H',I',q⟩:=q;exact h2 pins s1 σ' H' D I' q
  | ret v=>exact q
  | brk=>exact q
  | cont=>exact q
theorem ai (h1:PS X st t):PSs X [st] t:=by
  intro pins s σ H D I h;refine wpAny_execs_cons (thn (h1 pins s σ H D I h) fun f s1 q=>?_);cases f with
  | next=>exact wpAny_execs_nil q
  | ret v=>exact q
  | brk=>exact q
  | cont=>exact q
theorem Inv.quiet {pins:List (Addr × Obj)} {σ:St} {H:Hp} {s:Shared} (I:Inv X pins σ H s):interactive X.env=false:=by simp [interactive,I.ok.kind]
def u_ (te:TE):TS:=fun D σ H=>te σ H fun _ H1=>D.nx σ H1
theorem br (he:PE X e te) (hs:swapsWith e none pos.line X.env=pure false:=by rfl):PS X (.Expr e pos) (u_ te):=by
  intro pins s σ H D I h;exact wpAny_Expr_any (thn (he pins s σ H _ I h) fun v s1 ⟨x,H1,I1,r1,q1⟩=>⟨σ,H1,I1,q1⟩) I.quiet hs
def vW (te:TE):TS:=fun D σ H=>te σ H D.rt
theorem ar (he:PE X e te):PS X (.Return (some e) pos) (vW te):=by
  intro pins s σ H D I h;exact wpAny_Return_some (thn (he pins s σ H _ I h) fun v s1 ⟨x,H1,I1,r1,q1⟩=>⟨x,σ,H1,I1,r1,q1⟩)
def v9 (c:TT) (t u:TS):TS:=fun D σ H=>c σ H fun b H1=>if b=true then t D σ H1 else u D σ H1
theorem bH {c:Expr} {a b:List Stmt} {tc:TT} (hc:PT X c tc) (ha:PSs X a t) (hb:PSs X b u):PS X (.If c a b pos) (v9 tc t u):=by
  intro pins s σ H D I h;refine wpAny_If (thn (hc pins s σ H _ I h) fun d s1 ⟨H1,I1,q1⟩=>?_);cases d with
  | true=>exact ha pins s1 σ H1 D I1 q1
  | false=>exact hb pins s1 σ H1 D I1 q1
end
abbrev TG:=V→St→Hp→(St→Hp→Prop)→Prop
abbrev TGs:=List V→St→Hp→(St→Hp→Prop)→Prop
def PG (X:Cx) (target:Expr) (t:TG):Prop :=
  ∀ (pins:List (Addr × Obj)) (s:Shared) (σ:St) (H:Hp) (v:V) (u:Value) (Q:St→Hp→Prop),Inv X pins σ H s→RelV v u→t v σ H Q →
    wpAny (model X.prog X.w) X.A (assign target X.env u) (fun _ s'=>∃ σ' H',Inv X pins σ' H' s'∧Q σ' H') X.xe s
def PGs (X:Cx) (ts:List Expr) (t:TGs):Prop :=
  ∀ (pins:List (Addr × Obj)) (s:Shared) (σ:St) (H:Hp) (vs:List V) (us:List Value) (Q:St→Hp→Prop),Inv X pins σ H s→Vals vs us→t vs σ H Q →
    wpAny (model X.prog X.w) X.A (assignInOrder ((assignEach ts X.env).map (·.2)) us) (fun _ s'=>∃ σ' H',Inv X pins σ' H' s'∧Q σ' H') X.xe s
abbrev uU:=V→V→V→Hp→(Hp→Prop)→Prop
def vP (X:Cx) (t:uU):Prop :=
  ∀ (pins:List (Addr × Obj)) (s:Shared) (σ:St) (H:Hp) (o i v:V) (ov iv u:Value) (Q:Hp→Prop),Inv X pins σ H s→RelV o ov→RelV i iv→RelV v u→t o i v H Q →
    wpAny (model X.prog X.w) X.A (setItem ov iv u) (fun _ s'=>∃ H',Inv X pins σ H' s'∧Q H') X.xe s
abbrev TIp:=V→V→Hp→VK→Prop
def PIp (X:Cx) (op:Operator) (t:TIp):Prop :=
  ∀ (pins:List (Addr × Obj)) (s:Shared) (σ:St) (H:Hp) (x y:V) (v u:Value) (Q:VK),Inv X pins σ H s→RelV x v→RelV y u→t x y H Q →
    wpAny (model X.prog X.w) X.A (inplaceOp op v u) (EP X pins σ Q) X.xe s
section
variable {X:Cx} {pos:Pos}
def rd (i:Nat):TG:=fun v σ H Q=>Q (σ.set i (some v)) H
theorem ao {i:Nat} {x:Str} (hN:X.N.Nodup) (hi:X.N[i]?=some x) (hx:Loc X.env.scope x) (hf:X.fn x=true∨X.env.scope.names.lookup x=some .local:=by first|exact .inl rfl|exact .inr rfl|assumption):PG X (.Name x pos) (rd i):=by
  intro pins s σ H v u Q I r h;exact wpAny_assign_Name (cY I hN hi hx r (fun s' I'=>⟨_,H,I',h⟩) hf)
def wK:TGs:=fun vs σ H Q=>vs=[]∧Q σ H
def vI (t:TG) (u:TGs):TGs:=fun vs σ H Q=>∃ v r,vs=v :: r∧t v σ H fun σ' H'=>u r σ' H' Q
theorem bQ:PGs X [] wK:=by
  intro pins s σ H vs us Q I r h;obtain ⟨e,h⟩:=h;subst e;cases r;exact assignInOrder_nil ⟨σ,H,I,h⟩
theorem au {e:Expr} {es:List Expr} {t:TG} {u:TGs} (h1:PG X e t) (h2:PGs X es u)
    (hs:(assignEach (e :: es) X.env).map (·.2)=assign e X.env :: (assignEach es X.env).map (·.2):=by rfl):PGs X (e :: es) (vI t u):=by
  intro pins s σ H vs us Q I r h;obtain ⟨v,vr,e1,h⟩:=h;subst e1;cases r with
  | cons r rr =>
    rw [hs];refine assignInOrder_cons (thn (h1 pins s σ H _ _ _ I r h) fun _ s1 ⟨σ1,H1,I1,q1⟩=>?_);exact h2 pins s1 σ1 H1 _ _ Q I1 rr q1
def vH (K:aab) (n:Nat) (t:TGs):TG:=fun v σ H Q=>∃ a xs,v=.ref a∧SqT K H a xs∧xs.length=n∧t xs σ H Q
theorem eD {es:List Expr} {k:Nat} {t:TGs} {n:Nat} (hc:X.calm=true) (h:PGs X es t)
    (hn:(assignEach es X.env).length=n:=by rfl) (hst:(assignEach es X.env).findIdx? (·.1)=none:=by rfl):PG X (.Tuple es k pos) (vH X.K n t):=by
  intro pins s σ H v u Q I r hw;obtain ⟨a,xs,e1,hq,hl,hw⟩:=hw;subst e1;cases r;obtain ⟨its,rv,ht,hz⟩:=I.tuple hq;refine assign_Tuple_tuple (I.ok.hd hc) ht (by simp [hn,← hl,rv.length]) hst fun h' hx=>?_;have I1:Inv X pins σ H { s with heap:=h' }:=I.kept (t':=s.toks) fun b o e=>hx b o (aas (aag e)) e;exact h pins _ σ H xs _ Q I1 (by simpa using rv) hw
def wJ (to ti:TE) (t:uU):TG:=fun v σ H Q=>to σ H fun o H1=>ti σ H1 fun i H2=>t o i v H2 fun H3=>Q σ H3
theorem qD {o i:Expr} {to ti:TE} {t:uU} (ho:PE X o to) (hi:PE X i ti) (hs:vP X t)
    (ha:∀ v,assign (.Subscript o i pos) X.env v=(do
      let ov ← holding [v] (eval o X.env)
      let iv ← holding [v,ov] (eval i X.env)
      standAt pos
      holding [v,ov,iv] (setItem ov iv v)
      release [v,ov,iv] []):=by intro _;rfl):PG X (.Subscript o i pos) (wJ to ti t):=by
  intro pins s σ H v u Q I r h;rw [ha];refine wpAny_bind (wpAny_holding (thn (ho pins s σ H _ I h) fun ov s1 ⟨x,H1,I1,r1,q1⟩=>?_));refine wpAny_bind (wpAny_holding (thn (hi pins s1 σ H1 _ I1 q1) fun iv s2 ⟨y,H2,I2,r2,q2⟩=>?_));refine wpAny_bind (wpAny_standAt (wpAny_bind (wpAny_holding (thn (hs pins s2 σ H2 x y v ov iv u _ I2 r1 r2 r q2) fun _ s3 ⟨H3,I3,q3⟩=>?_))));exact wpAny_release ⟨σ,H3,I3,q3⟩
def tQ (te:TE) (g:TG):TS:=fun D σ H=>te σ H fun x H1=>g x σ H1 D.nx
theorem eu {tg e:Expr} {te:TE} {g:TG} (he:PE X e te) (hg:PG X tg g) (hs:swapsWithSole [tg] e pos.line X.env=pure false:=by rfl) (hw:swappedStores [tg] e X.env=pure none:=by rfl)
    (h1:(assignEach [tg] X.env).map (·.2)=[assign tg X.env]:=by rfl):PS X (.Assign [tg] e pos) (tQ te g):=by
  intro pins s σ H D I h;refine wpAny_Assign_stores (thn (he pins s σ H _ I h) fun v s1 ⟨x,H1,I1,r1,q1⟩=>?_) hs hw;rw [h1];exact thn (hg pins s1 σ H1 x v _ I1 r1 q1) fun _ s2 q=>q
theorem aw {i:Nat} {x:Str} {e:Expr} {te:TE} {pos':Pos} (hN:X.N.Nodup) (hi:X.N[i]?=some x) (hx:Loc X.env.scope x) (he:PE X e te) (hs:swapsWith e (some (.Name x pos')) pos.line X.env=pure false:=by rfl) (hf:X.fn x=true∨X.env.scope.names.lookup x=some .local:=by first|exact .inl rfl|exact .inr rfl|assumption) :
    PS X (.Assign [.Name x pos'] e pos) (tQ te (rd i)):=by
  intro pins s σ H D I h;refine wpAny_Assign_Name (thn (he pins s σ H _ I h) fun v s1 ⟨y,H1,I1,r1,q1⟩=>?_) hs;exact cY I1 hN hi hx r1 (fun s2 I2=>⟨_,H1,I2,q1⟩) hf
def vX (i j:Nat) (ta:TA):TS:=fun D σ H=>ta σ H fun vs H1=>∃ v w,vs=[v,w]∧D.nx ((σ.set i (some v)).set j (some w)) H1
theorem qw {i j:Nat} {x y:Str} {a b:Expr} {ta:TA} {px py pt:Pos} {kt k2 pt2} (hc:X.calm=true) (hN:X.N.Nodup) (hi:X.N[i]?=some x) (hj:X.N[j]?=some y) (hij:i≠j)
    (hx:X.env.scope.names.lookup x=some .local) (hy:X.env.scope.names.lookup y=some .local) (ha:PA X [a,b] ta)
    (hw:swappedStores [.Tuple [.Name x px,.Name y py] kt pt] (.Tuple [a,b] k2 pt2) X.env=pure (some [x,y]))
    (hs:swapsWithSole [.Tuple [.Name x px,.Name y py] kt pt] (.Tuple [a,b] k2 pt2) pos.line X.env=pure false:=by rfl) :
    PS X (.Assign [.Tuple [.Name x px,.Name y py] kt pt] (.Tuple [a,b] k2 pt2) pos) (vX i j ta):=by
  intro pins s σ H D I h;rw [exec_Assign_arm];refine wpAny_bind (wpAny_standAt ?_);rw [hs];refine wpAny_bind (wpAny_pure ?_);rw [if_neg (by decide)];refine wpAny_bind (Tuple_ (thn (ha _ pins s σ H _ I h) fun us s1 ⟨vs,H1,I1,r1,q1⟩=>?_));obtain ⟨v,w,e1,q1⟩:=q1;subst e1;obtain ⟨u1,u2,rfl,rv,rw'⟩:∃ u1 u2,us=[u1,u2]∧RelV v u1∧RelV w u2:=by
    cases r1 with
    | cons p q =>
      cases q with
      | cons p' q' =>
        cases q';exact ⟨_,_,rfl,p,p'⟩
  refine wpAny_newObj_type ?_ (by show 2≤sizeLine;decide);have I2:Inv X pins σ H1 { s1 with heap:=s1.heap.push { cls:=.type "tuple",data:=.seq [u1,u2].toArray } }:=I1.kept (t':=s1.toks) fun b o e=>aac _ e;rw [hw];refine wpAny_bind (wpAny_pure ?_);show wpAny (model X.prog X.w) X.A (do rule "assign.swapped-stores";let items ← unpackItems (.ref s1.heap.objs.size) 2 none;assignInOrder [fun v=>bindName X.env y v,fun v=>bindName X.env x v] items.reverse;pure Flow.next) _ _ _;refine wpAny_bind (wpAny_rule (wpAny_bind (unpackItems_tuple (items:=#[u1,u2]) (I.ok.hd hc) (IsTup.new s1.heap _) fun h' hx'=>?_)));have I3:=I2.kept (h':=h') (t':=s1.toks) fun b o e=>hx' b o (aas (aag e)) e;show wpAny _ _ (assignInOrder [fun v=>bindName X.env y v,fun v=>bindName X.env x v] [u2,u1] >>= fun _=>pure Flow.next) _ _ _;refine wpAny_bind (assignInOrder_cons (wpAny_bindName (cY I3 hN hj (.inl hy) rw' (fun s2 I4=>?_) (.inr hy))));refine assignInOrder_cons (wpAny_bindName (cY I4 hN hi (.inl hx) rv (fun s3 I5=>assignInOrder_nil (wpAny_pure ?_)) (.inr hx)));rw [List.set_comm _ _ (abt hij)] at I5;exact ⟨_,H1,I5,q1⟩
def wg (i:Nat) (te:TE) (ti:TIp):TS:=fun D σ H=>∃ x,σ[i]?=some (some x)∧te σ H fun y H1=>ti x y H1 fun z H2=>D.nx (σ.set i (some z)) H2
theorem qx {i:Nat} {x:Str} {e:Expr} {te:TE} {op:Operator} {ti:TIp} {pos':Pos} (hN:X.N.Nodup) (hi:X.N[i]?=some x) (hx:Loc X.env.scope x) (he:PE X e te) (ho:PIp X op ti) (hf:X.fn x=true∨X.env.scope.names.lookup x=some .local:=by first|exact .inl rfl|exact .inr rfl|assumption) :
    PS X (.AugAssign (.Name x pos') op e pos) (wg i te ti):=by
  intro pins s σ H D I h;obtain ⟨v,e1,h⟩:=h;obtain ⟨m,hn,hl⟩:=I.loc;have vis:Vis X.env.scope x:=by rcases hx with k|k;exact .inl k;exact .inr (.inl k)
  obtain ⟨u,r,l⟩:=hl i x v hi e1 vis;refine wpAny_AugAssign_Name ?_;have go:wpAny (model X.prog X.w) X.A (eval e X.env) (fun w s₂=>wpAny (model X.prog X.w) X.A (inplaceOp op u w) (fun r s₃=>wpAny (model X.prog X.w) X.A (storeName X.env x r) (fun _=>SP X pins D .next) X.xe s₃) X.xe s₂) X.xe s:=by
    refine thn (he pins s σ H _ I h) fun w s1 ⟨y,H1,I1,r1,q1⟩=>?_;refine thn (ho pins s1 σ H1 v y u w _ I1 r r1 q1) fun z s2 ⟨zv,H2,I2,r2,q2⟩=>?_;exact cY I2 hN hi hx r2 (fun s3 I3=>⟨_,H2,I3,q2⟩) hf
  rcases l with ⟨hk,hm⟩|⟨hk,c,hc,hcell⟩
  · exact wpAny_loadName_local I.ok.kind hk hn hm go
  · rcases hk with hk|hk
    · exact wpAny_loadName_cell I.ok.kind hk hc hcell go
    · rcases hx with k|k
      · have : X.env.scope.names.lookup x=some .free:=hk;rw [k] at this;cases this
      · have : X.env.scope.names.lookup x=some .free:=hk;rw [k] at this;cases this
def ipI (f:Int→Int→Int):TIp:=fun x y H Q=>∃ i j,x=.int i∧y=.int j∧Q (.int (f i j)) H
theorem qW:PIp X .Add (ipI fun i j=>i+j):=by
  intro pins s σ H x y v u Q I r1 r2 h;obtain ⟨i,j,e1,e2,q⟩:=h;subst e1;subst e2;obtain ⟨t,rfl⟩:=r1;obtain ⟨t',rfl⟩:=r2;exact iadd_int ⟨.int _,H,I.tok _,⟨_,rfl⟩,q⟩
end
section
variable {X:Cx} {pos:Pos}
def tI (c:TT) (tb:TS):TS:=fun D σ H=>∃ W:Nat→St→Hp→Prop,(∃ m,W m σ H)∧∀ m σ H,W m σ H →
  c σ H fun b H1=>if b=true then ∃ N:St→Hp→Prop,(∀ σ' H',N σ' H'→∃ m',m' < m∧W m' σ' H')∧tb { D with nx:=N,ct:=N,bk:=D.nx } σ H1 else D.nx σ H1
theorem qv {c:Expr} {body:List Stmt} {tc:TT} {tb:TS} (hp:PassesOwn (model X.prog X.w) X.A X.env X.xe) (hc:PT X c tc) (hb:PSs X body tb):PS X (.While c body [] pos) (tI tc tb):=by
  intro pins s σ H D I h;obtain ⟨W,⟨m0,w0⟩,turn⟩:=h;refine wpAny_While (codeAny_whileLoop (fun n s'=>∃ σ' H',Inv X pins σ' H' s'∧W n σ' H') ?_ m0 ⟨σ,H,I,w0⟩);rintro n s1 ⟨σ1,H1,I1,w1⟩;refine wpAny_passesOwn hp (thn (hc pins s1 σ1 H1 _ I1 (turn n σ1 H1 w1)) fun b s2 ⟨H2,I2,q2⟩=>?_);cases b with
  | true =>
    obtain ⟨N,hN,q2⟩:=q2;rw [if_pos rfl];refine wpAny_passesOwn hp (thn (hb pins s2 σ1 H2 _ I2 q2) fun f s3 q3=>?_);cases f with
    | next =>
      obtain ⟨σ3,H3,I3,n3⟩:=q3;obtain ⟨m',hm,w3⟩:=hN σ3 H3 n3;exact ⟨m',hm,σ3,H3,I3,w3⟩
    | cont =>
      obtain ⟨σ3,H3,I3,n3⟩:=q3;obtain ⟨m',hm,w3⟩:=hN σ3 H3 n3;exact ⟨m',hm,σ3,H3,I3,w3⟩
    | brk=>exact q3
    | ret v=>exact q3
  | false =>
    rw [if_neg aae];exact wpAny_execs_nil ⟨σ1,H2,I2,q2⟩
end
structure It where
  go:Nat→Hp→Prop
  yld:Nat→Hp→V→Hp→Prop
  stop:Nat→Hp→Prop
def gn (X:Cx) (pins:List (Addr × Obj)) (H:Hp) (b:Addr):Prop :=
  H b=none∧b≠X.env.locals∧b∉X.fs∧(b∈X.ex∨X.s₀.heap.objs.size≤b)∧(∀ x c,X.env.cells.lookup x=some c→c≠b)∧∀ p∈X.pn++pins,p.1≠b
theorem Inv.fpOk {X:Cx} {pins:List (Addr × Obj)} {σ:St} {H H':Hp} {s:Shared} {b:Addr} (I:Inv X pins σ H s) (hb:s.heap.objs.size≤b) (hn:H' b=none):gn X pins H' b:=by
  refine ⟨hn,aaO (aao I.lt hb),I.nofs hb,.inr (aaK I.sz hb),fun x c e z=>?_,fun p hp z=>?_⟩
  · obtain ⟨v,q⟩:=I.cell x c e;exact absurd (aao q.lt (by rw [z];exact hb)) (aaZ _)
  · exact absurd (aao (aag (I.pin p hp).1) (by rw [z];exact hb)) (aaZ _)
structure Turn (P:Program) (w:World) (K:aab) (tg:Expr) (J:It) (fp:List Addr) (it:Addr) (tn:Nat→Heap→Prop):Prop where
  mem:it∈fp
  obj:∀ i h,tn i h→∀ b∈fp,∃ o,h.get? b=some o∧∀ v,o.data≠.cell v
  keep:∀ i h h',tn i h→(∀ b∈fp,∀ o,h.get? b=some o→h'.get? b=some o)→tn i h'
  item:∀ (X:Cx),X.prog=P→X.w=w→X.K=K→X.calm=true→∀ (i:Nat) (pins:List (Addr × Obj)) (s:Shared) (σ:St) (H:Hp) (E:Value→Shared→Prop),Inv X pins σ H s→(∀ b∈fp,gn X pins H b)→tn i s.heap→J.go i H →
    wpAny (model P w) X.A (pyNext (.ref it)) (fun r s1=>∃ u,r=some u ∧
      wpAny (model P w) X.A (letOwnedTupleGo tg (.ref it) u) (fun _ s2=>∃ x H',Inv X pins σ H' s2∧RelV x u∧J.yld i H x H'∧tn (i+1) s2.heap∧∀ b∈fp,H' b=none) E s1) E s
  done:∀ (X:Cx),X.prog=P→X.w=w→X.K=K→X.calm=true→∀ (i:Nat) (pins:List (Addr × Obj)) (s:Shared) (σ:St) (H:Hp) (E:Value→Shared→Prop),Inv X pins σ H s→(∀ b∈fp,gn X pins H b)→tn i s.heap→J.stop i H →
    wpAny (model P w) X.A (pyNext (.ref it)) (fun r s1=>r=none∧Inv X pins σ H s1) E s
  self:∀ (A:Around) (i:Nat) (s:Shared) (Q:Value→Shared→Prop) (E:Value→Shared→Prop),tn i s.heap→Q (.ref it) s→wpAny (model P w) A (pyIter (.ref it)) Q E s
abbrev TI:=St→Hp→(It→Hp→Prop)→Prop
def PIE (X:Cx) (pins:List (Addr × Obj)) (σ:St) (tg:Expr) (R:It→Hp→Prop) (itv:Value) (s2:Shared):Prop :=
  ∃ (it:Addr) (fp:List Addr) (tn:Nat→Heap→Prop) (J:It) (H':Hp),itv=.ref it∧Inv X pins σ H' s2∧Turn X.prog X.w X.K tg J fp it tn∧tn 0 s2.heap∧(∀ b∈fp,gn X pins H' b)∧R J H'
def PI (X:Cx) (tg iter:Expr) (wi:TI):Prop :=
  ∀ (pins:List (Addr × Obj)) (s:Shared) (σ:St) (H:Hp) (R:It→Hp→Prop),Inv X pins σ H s→wi σ H R →
    wpAny (model X.prog X.w) X.A (eval iter X.env) (fun v s1=>wpAny (model X.prog X.w) X.A (pyIter v) (PIE X pins σ tg R) X.xe s1) X.xe s
theorem l4 {M:Model} {A:Around} {E:Value→Shared→Prop} {s:Shared} {tg:Expr} {it:Addr} {u:Value} {o:Obj} {n:String} {vs:Array Value} {Q:Unit→Shared→Prop} (ho:s.heap.get? it=some o) (hc:o.cls=.type n) (hd:o.data=.fields vs)
    (hn:["enumerate","zip","dict_itemiterator","dict_reverseitemiterator","odict_iterator","itertools.zip_longest","itertools.pairwise"].contains n=false) (hQ:Q () s):wpAny M A (letOwnedTupleGo tg (.ref it) u) Q E s:=by
  unfold letOwnedTupleGo;cases tg <;> first
    | exact wpAny_pure hQ
    | (cases u <;> first
        | exact wpAny_pure hQ
        | (refine wpAny_bind (wpAny_load ho ?_)
           rw [hc,hd];show wpAny M A (if (["enumerate","zip","dict_itemiterator","dict_reverseitemiterator","odict_iterator","itertools.zip_longest","itertools.pairwise"].contains n && vs[0]? == some (rawInt _))=true then _ else _) Q E s;rw [if_neg (by intro h;rw [hn,Bool.false_and] at h;cases h)];exact wpAny_pure hQ))
def Itl (K:aab) (a:Addr):It :=
  ⟨fun i H=>∃ xs x,SqL K H a xs∧xs[i]?=some x,fun i H x H'=>H'=H∧∀ xs,SqL K H a xs→xs[i]?=some x,fun i H=>∃ xs,SqL K H a xs∧xs.length≤i⟩
def Itt (K:aab) (a:Addr):It :=
  ⟨fun i H=>∃ xs x,SqT K H a xs∧xs[i]?=some x,fun i H x H'=>H'=H∧∀ xs,SqT K H a xs→xs[i]?=some x,fun i H=>∃ xs,SqT K H a xs∧xs.length≤i⟩
def Itr (lo:Int) (n:Nat):It:=⟨fun i _=>i < n,fun i H x H'=>H'=H∧x=.int (lo+i),fun i _=>n≤i⟩
theorem oG {P:Program} {w:World} {K:aab} {tg:Expr} (a it:Addr):Turn P w K tg (Itl K a) [it] it (fun i h=>h.IsListIter it a i) where
  mem:=by simp
  obj:=fun i h st b hb=>by
    have e:b=it:=by simpa using hb
    subst e;obtain ⟨o,e,c,d⟩:=st;exact ⟨o,e,fun v z=>by rw [d] at z;cases z⟩
  keep:=fun i h h' st k=>st.at fun o e=>k it (by simp) o e
  item:=by
    intro X hP hw hK hc i pins s σ H E I hf st hg;subst hP hw hK;obtain ⟨xs,x,hq,hx⟩:=hg;obtain ⟨its,rv,p,hz⟩:=I.list hq;obtain ⟨u,hu,ru⟩:=rv.get hx;obtain ⟨f0,f1,f2,f3,f4,f5⟩:=hf it (by simp);refine wpAny_pyNext_list_item st p.isList (x:=u) (by simpa using hu) fun h' st' sb=>?_;have I1:Inv X pins σ H { s with heap:=h' }:=I.turned (t':=s.toks) (fun b o hb e=>(sb.2 b hb).trans e) f0 f1 f3 f4 f5;obtain ⟨o,e,c,d⟩:=id st';exact ⟨u,rfl,l4 (s:={ s with heap:=h' }) e c d (by decide) ⟨x,H,I1,ru,⟨rfl,fun ys hy=>by rw [I.list_inj hy hq];exact hx⟩,st',fun b hb=>(hf b hb).1⟩⟩
  done:=by
    intro X hP hw hK hc i pins s σ H E I hf st hg;subst hP hw hK;obtain ⟨xs,hq,hx⟩:=hg;obtain ⟨its,rv,p,hz⟩:=I.list hq;obtain ⟨f0,f1,f2,f3,f4,f5⟩:=hf it (by simp);have hl:=rv.length;exact wpAny_pyNext_list_end (I.ok.hd hc) st p.isList (by simp;lia) fun h' eb=>⟨rfl,I.turned (t':=s.toks) (fun b o hb e=>eb b o hb e) f0 f1 f3 f4 f5⟩
  self:=fun _ _ _ _ _ st h=>wpAny_pyIter_listiter st h
theorem mo {P:Program} {w:World} {K:aab} {tg:Expr} (a it:Addr):Turn P w K tg (Itt K a) [it] it (fun i h=>h.IsTupleIter it a i) where
  mem:=by simp
  obj:=fun i h st b hb=>by
    have e:b=it:=by simpa using hb
    subst e;obtain ⟨o,e,c,d⟩:=st;exact ⟨o,e,fun v z=>by rw [d] at z;cases z⟩
  keep:=fun i h h' st k=>st.at fun o e=>k it (by simp) o e
  item:=by
    intro X hP hw hK hc i pins s σ H E I hf st hg;subst hP hw hK;obtain ⟨xs,x,hq,hx⟩:=hg;obtain ⟨its,rv,p,hz⟩:=I.tuple hq;obtain ⟨u,hu,ru⟩:=rv.get hx;obtain ⟨f0,f1,f2,f3,f4,f5⟩:=hf it (by simp);refine wpAny_pyNext_tuple_item st (show s.heap.IsTuple a its.toArray from p) (x:=u) (by simpa using hu) fun h' st' sb=>?_;have I1:Inv X pins σ H { s with heap:=h' }:=I.turned (t':=s.toks) (fun b o hb e=>(sb.2 b hb).trans e) f0 f1 f3 f4 f5;obtain ⟨o,e,c,d⟩:=id st';exact ⟨u,rfl,l4 (s:={ s with heap:=h' }) e c d (by decide) ⟨x,H,I1,ru,⟨rfl,fun ys hy=>by rw [I.tuple_inj hy hq];exact hx⟩,st',fun b hb=>(hf b hb).1⟩⟩
  done:=by
    intro X hP hw hK hc i pins s σ H E I hf st hg;subst hP hw hK;obtain ⟨xs,hq,hx⟩:=hg;obtain ⟨its,rv,p,hz⟩:=I.tuple hq;obtain ⟨f0,f1,f2,f3,f4,f5⟩:=hf it (by simp);have hl:=rv.length;exact wpAny_pyNext_tuple_end (I.ok.hd hc) st (show s.heap.IsTuple a its.toArray from p) (by simp;lia) fun h' eb=>⟨rfl,I.turned (t':=s.toks) (fun b o hb e=>eb b o hb e) f0 f1 f3 f4 f5⟩
  self:=fun _ _ _ _ _ st h=>wpAny_pyIter_tupleiter st h
theorem mq {P:Program} {w:World} {K:aab} {tg:Expr} (it:Addr) (lo:Int) (n:Nat):Turn P w K tg (Itr lo n) [it] it (fun i h=>IsRangeIter h it (lo+(i:Nat) * 1) ((n:Int) - (i:Nat)) 1) where
  mem:=by simp
  obj:=fun i h st b hb=>by
    have e:b=it:=by simpa using hb
    subst e;exact ⟨_,st,fun v z=>by
      have z':Data.fields _=Data.cell v:=z;cases z'⟩
  keep:=fun i h h' st k=>k it (by simp) _ st
  item:=by
    intro X hP hw hK hc i pins s σ H E I hf st hg;subst hP hw hK;obtain ⟨f0,f1,f2,f3,f4,f5⟩:=hf it (by simp);have W:=Walks.range (prog:=X.prog) (w:=X.w) (I.ok.hd hc) it lo 1 n;refine W.item i s _ _ hg st fun v h' tk hv st' kk=>?_;obtain ⟨t,rfl⟩:=hv;have I1:Inv X pins σ H { s with heap:=h',toks:=tk }:=I.turned (fun b o hb e=>kk b o (by simpa using hb) e) f0 f1 f3 f4 f5;refine ⟨_,rfl,l4 (s:={ s with heap:=h',toks:=tk }) (n:="range_iterator") st' rfl rfl (by decide) ⟨.int (lo+i),H,I1,⟨t,?_⟩,⟨rfl,rfl⟩,st',fun b hb=>(hf b hb).1⟩⟩;rw [Int.mul_one]
  done:=by
    intro X hP hw hK hc i pins s σ H E I hf st hg;subst hP hw hK;obtain ⟨f0,f1,f2,f3,f4,f5⟩:=hf it (by simp);exact wpAny_pyNext_range_end (I.ok.hd hc) st (by have : n≤i:=hg;lia) fun h' eb=>⟨rfl,I.turned (t':=s.toks) (fun b o hb e=>eb b o hb e) f0 f1 f3 f4 f5⟩
  self:=fun _ _ _ _ _ st h=>wpAny_pyIter_rangeiter st h
open PySem PySem.Spec PyProof.Rows
section
variable {X:Cx} {tg:Expr}
def vF (K:aab) (tl:TE):TI:=fun σ H R=>tl σ H fun x H1=>∃ a,x=.ref a∧(∃ xs,SqL K H1 a xs)∧R (Itl K a) H1
def vC (K:aab) (tl:TE):TI:=fun σ H R=>tl σ H fun x H1=>∃ a,x=.ref a∧(∃ xs,SqT K H1 a xs)∧R (Itt K a) H1
theorem eA {l:Expr} {tl:TE} (hl:PE X l tl):PI X tg l (vF X.K tl):=by
  intro pins s σ H R I h;refine thn (hl pins s σ H _ I h) fun v s1 ⟨x,H1,I1,r1,q1⟩=>?_;obtain ⟨a,e,⟨xs,hq⟩,q⟩:=q1;subst e;cases r1;obtain ⟨its,rv,p,hz⟩:=I1.list hq;refine wpAny_pyIter_list p.isList ?_;refine ⟨s1.heap.objs.size,[s1.heap.objs.size],_,_,H1,rfl,I1.kept (t':=s1.toks) fun b o e=>aac _ e,oG a _,⟨_,aap _ rfl,rfl,rfl⟩,fun b hb=>?_,q⟩;have e:b=s1.heap.objs.size:=by simpa using hb
  subst e;exact I1.fpOk (aah _) (I1.hok.fresh (aah _))
theorem ua {l:Expr} {tl:TE} (hl:PE X l tl):PI X tg l (vC X.K tl):=by
  intro pins s σ H R I h;refine thn (hl pins s σ H _ I h) fun v s1 ⟨x,H1,I1,r1,q1⟩=>?_;obtain ⟨a,e,⟨xs,hq⟩,q⟩:=q1;subst e;cases r1;obtain ⟨its,rv,p,hz⟩:=I1.tuple hq;refine wpAny_pyIter_tuple (show s1.heap.IsTuple a its.toArray from p) ?_;refine ⟨s1.heap.objs.size,[s1.heap.objs.size],_,_,H1,rfl,I1.kept (t':=s1.toks) fun b o e=>aac _ e,mo a _,⟨_,aap _ rfl,rfl,rfl⟩,fun b hb=>?_,q⟩;have e:b=s1.heap.objs.size:=by simpa using hb
  subst e;exact I1.fpOk (aah _) (I1.hok.fresh (aah _))
theorem lz {pins:List (Addr × Obj)} {σ:St} {H:Hp} {s:Shared} {R:It→Hp→Prop} {E:Value→Shared→Prop} {lo hi:Int} {t u v:Tok} {tk:Nat} (I:Inv X pins σ H s) (h1:-(2 ^ 62)≤lo) (h2:lo < 2 ^ 62) (h3:-(2 ^ 62)≤hi) (h4:hi < 2 ^ 62)
    (q:R (Itr lo (hi - lo).toNat) H):wpAny (model X.prog X.w) X.A (pyIter (.ref s.heap.objs.size)) (PIE X pins σ tg R) E { s with heap:=s.heap.push { cls:=.type "range",data:=.fields #[.int lo t,.int hi u,.int 1 v] },toks:=tk }:=by
  refine wpAny_pyIter_range (IsRange.new ..) (small_one h1 h2 h3 h4) ?_;have I1:Inv X pins σ H { s with heap:=s.heap.push { cls:=.type "range",data:=.fields #[.int lo t,.int hi u,.int 1 v] },toks:=tk }:=I.kept fun b o e=>aac _ e;refine ⟨(s.heap.push { cls:=.type "range",data:=.fields #[.int lo t,.int hi u,.int 1 v] }).objs.size,[(s.heap.push { cls:=.type "range",data:=.fields #[.int lo t,.int hi u,.int 1 v] }).objs.size],_,_,H,rfl,
    I1.kept (t':=tk) fun b o e=>aac _ e,mq _ lo (hi - lo).toNat,?_,fun b hb=>?_,q⟩
  · have e1:lo+((0:Nat):Int) * 1=lo:=by simp
    have e2:(((hi - lo).toNat:Nat):Int) - ((0:Nat):Int)=Builtin.Range.rangeSize lo hi 1:=by rw [rangeSize_one];split <;> lia
    show IsRangeIter _ _ (lo+((0:Nat):Int) * 1) ((((hi - lo).toNat:Nat):Int) - ((0:Nat):Int)) 1;rw [e1,e2];exact aap _ rfl
  · have e:b=(s.heap.push { cls:=.type "range",data:=.fields #[.int lo t,.int hi u,.int 1 v] }).objs.size:=by simpa using hb
    subst e;exact I1.fpOk (aah _) (I1.hok.fresh (aah _))
def vE (ta:TA):TI:=fun σ H R=>ta σ H fun vs H1=>∃ j:Int,vs=[.int j]∧-(2 ^ 62)≤j∧j < 2 ^ 62∧R (Itr 0 j.toNat) H1
def vD (ta:TA):TI:=fun σ H R=>ta σ H fun vs H1=>∃ i j:Int,vs=[.int i,.int j]∧(-(2 ^ 62)≤i∧i < 2 ^ 62∧-(2 ^ 62)≤j∧j < 2 ^ 62)∧R (Itr i (j - i).toNat) H1
theorem dJ {a:Expr} {ta:TA} {p pos:Pos} (hg:Gl X "range") (hm:X.mg "range" = none) (ha:PA X [a] ta) (hs:starEach [a] X.env=[(false,eval a X.env)]:=by rfl):PI X tg (.Call (.Name "range" p) [a] [] pos) (vE ta):=by
  intro pins s σ H R I h;refine Call_ (gC I hg hm boot_range (abV (thn (ha pos pins s σ H _ I h) fun us s1 ⟨vs,H1,I1,r1,q1⟩=>?_) hs rfl));obtain ⟨j,e,q1,q2,q⟩:=q1;subst e;cases r1 with
  | cons r rr =>
    cases rr;obtain ⟨t,rfl⟩:=r;exact call_range_1 (lz I1 (by lia) (by lia) q1 q2 (by simpa using q))
theorem gy {a b:Expr} {ta:TA} {p pos:Pos} (hg:Gl X "range") (hm:X.mg "range" = none) (ha:PA X [a,b] ta) (hs:starEach [a,b] X.env=[(false,eval a X.env),(false,eval b X.env)]:=by rfl) (hs2:starEach [b] X.env=[(false,eval b X.env)]:=by rfl) :
    PI X tg (.Call (.Name "range" p) [a,b] [] pos) (vD ta):=by
  intro pins s σ H R I h;refine Call_ (gC I hg hm boot_range (abV (thn (ha pos pins s σ H _ I h) fun us s1 ⟨vs,H1,I1,r1,q1⟩=>?_) (by rw [hs,hs2]) (by rw [hs2];rfl)));obtain ⟨i,j,e,⟨q1,q2,q3,q4⟩,q⟩:=q1;subst e;cases r1 with
  | cons r rr =>
    cases rr with
    | cons r' rr =>
      cases rr;obtain ⟨t,rfl⟩:=r;obtain ⟨t',rfl⟩:=r';exact call_range_2 (lz I1 q1 q2 q3 q4 q)
def v_ (wi:TI) (g:TG) (tb:TS):TS:=fun D σ H=>wi σ H fun J H1=>∃ W:Nat→Nat→St→Hp→Prop,(∃ m,W 0 m σ H1)∧∀ i m σ H,W i m σ H →
  (J.stop i H∧D.nx σ H)∨(J.go i H∧∃ N:St→Hp→Prop,(∀ σ' H',N σ' H'→∃ m',m' < m∧W (i+1) m' σ' H')∧∀ x H',J.yld i H x H'→g x σ H' fun σ2 H2=>tb { D with nx:=N,ct:=N,bk:=D.nx } σ2 H2)
def aZ (fp:List Addr) (h:Heap):List (Addr × Obj):=fp.filterMap fun b=>(h.get? b).map fun o=>(b,o)
theorem a7 {fp:List Addr} {h:Heap} {b:Addr} {o:Obj} (hb:b∈fp) (e:h.get? b=some o):(b,o)∈aZ fp h:=List.mem_filterMap.mpr ⟨b,hb,by rw [e];rfl⟩
theorem cW {fp:List Addr} {h:Heap} {p:Addr × Obj} (hp:p∈aZ fp h):p.1∈fp∧h.get? p.1=some p.2:=by
  obtain ⟨b,hb,e⟩:=List.mem_filterMap.mp hp;cases q:h.get? b with
  | none=>rw [q] at e;cases e
  | some o =>
    rw [q] at e;have e':(b,o)=p:=aaM e;subst e';exact ⟨hb,q⟩
theorem Inv.pinned {pins:List (Addr × Obj)} {σ:St} {H:Hp} {s:Shared} {fp:List Addr} (I:Inv X pins σ H s) (hf:∀ b∈fp,gn X pins H b) (ho:∀ b∈fp,∃ o,s.heap.get? b=some o∧∀ v,o.data≠.cell v):Inv X (pins++aZ fp s.heap) σ H s :=
  I.pins_of fun p hp=>(aau.mp hp).elim (fun z=>I.pin p (aaa _ z)) fun z=>by
    obtain ⟨hb,e⟩:=cW z;obtain ⟨f0,f1,f2,_⟩:=hf p.1 hb;obtain ⟨o,e',d⟩:=ho p.1 hb;rw [e] at e';cases e';exact ⟨e,f0,f1,f2,d⟩
theorem Inv.unpinned {pins pl:List (Addr × Obj)} {σ:St} {H:Hp} {s:Shared} (I:Inv X (pins++pl) σ H s):Inv X pins σ H s:=I.pins_of fun p hp=>I.pin p (aaa _ (aaz _ hp))
theorem fi {iter:Expr} {body:List Stmt} {wi:TI} {g:TG} {tb:TS} {pos:Pos} (hp:PassesOwn (model X.prog X.w) X.A X.env X.xe) (hc:X.calm=true) (hi:PI X tg iter wi) (hg:PG X tg g) (hb:PSs X body tb)
    (hs:∀ x,foldedSetIterable iter X.env x=pure x:=by intro _;rfl):PS X (.For tg iter body [] pos) (v_ wi g tb):=by
  intro pins s σ H D I h;refine wpAny_For (thn (hi pins s σ H _ I h) fun v s1 h1=>thn h1 fun itv s2 h2=>?_) hs;obtain ⟨it,fp,tn,J,H2,e,I2,T,st2,f2,W,⟨m0,w0⟩,turn⟩:=h2;subst e;have stat:∀ {H':Hp},(∀ b∈fp,H' b=none)→∀ b∈fp,gn X pins H' b:=fun hn b hb=>⟨hn b hb,(f2 b hb).2⟩
  refine codeAny_forLoop_any (fun n s'=>∃ i σ' H',Inv X pins σ' H' s'∧tn i s'.heap∧(∀ b∈fp,H' b=none)∧W i n σ' H') ?_ m0 ⟨0,σ,H2,I2,st2,fun b hb=>(f2 b hb).1,w0⟩;rintro n s3 ⟨i,σ3,H3,I3,st3,fr3,w3⟩;rcases turn i n σ3 H3 w3 with ⟨stop,qn⟩|⟨go,N,hN,step⟩
  · refine wpAny_passesOwn hp (thn (T.done X rfl rfl rfl hc i pins s3 σ3 H3 X.xe I3 (stat fr3) st3 stop) fun r s4 ⟨hr,I4⟩=>?_);subst hr;exact wpAny_execs_nil ⟨σ3,H3,I4,qn⟩
  · refine wpAny_passesOwn hp (thn (T.item X rfl rfl rfl hc i pins s3 σ3 H3 X.xe I3 (stat fr3) st3 go) fun r s4 ⟨u,hr,h4⟩=>?_);subst hr;refine wpAny_passesOwn hp (thn h4 fun _ s5 ⟨x,H5,I5,r5,y5,st5,fr5⟩=>?_);have I5':=I5.pinned (stat fr5) (T.obj _ _ st5);refine wpAny_passesOwn hp (thn (hg _ s5 σ3 H5 x u _ I5' r5 (step x H5 y5)) fun _ s6 ⟨σ6,H6,I6,q6⟩=>?_);refine wpAny_passesOwn hp (thn (hb _ s6 σ6 H6 _ I6 q6) fun f s7 q7=>?_);have again:∀ {σ7:St} {H7:Hp},Inv X (pins++aZ fp s5.heap) σ7 H7 s7→N σ7 H7→∃ m,m < n∧∃ i σ' H',Inv X pins σ' H' s7∧tn i s7.heap∧(∀ b∈fp,H' b=none)∧W i m σ' H':=fun {σ7 H7} I7 n7=>by
      obtain ⟨m',hm,w7⟩:=hN σ7 H7 n7;refine ⟨m',hm,i+1,σ7,H7,I7.unpinned,T.keep _ _ _ st5 fun b hb o e=>(I7.pin (b,o) (aaa _ (aaa _ (a7 hb e)))).1,fun b hb=>?_,w7⟩;obtain ⟨o,e,d⟩:=T.obj _ _ st5 b hb;exact (I7.pin (b,o) (aaa _ (aaa _ (a7 hb e)))).2.1
    cases f with
    | next=>obtain ⟨σ7,H7,I7,n7⟩:=q7;exact again I7 n7
    | cont=>obtain ⟨σ7,H7,I7,n7⟩:=q7;exact again I7 n7
    | brk=>obtain ⟨σ7,H7,I7,q7⟩:=q7;exact ⟨σ7,H7,I7.unpinned,q7⟩
    | ret v=>obtain ⟨x7,σ7,H7,I7,r7,q7⟩:=q7;exact ⟨x7,σ7,H7,I7.unpinned,r7,q7⟩
end
theorem l5 {K:aab} {a:Addr} {xs:List V} {g:TG} {tb:TS} {D:Ends} {σ:St} {H:Hp} (Pv:Nat→St→Hp→Prop) (h0:Pv 0 σ H) (hl:∀ i σ H,i≤xs.length→Pv i σ H→SqL K H a xs)
    (hs:∀ i x σ H,xs[i]?=some x→Pv i σ H→g x σ H fun σ2 H2=>tb { D with nx:=Pv (i+1),ct:=Pv (i+1),bk:=D.nx } σ2 H2) (hd:∀ σ H,Pv xs.length σ H→D.nx σ H) :
    ∃ W:Nat→Nat→St→Hp→Prop,(∃ m,W 0 m σ H)∧∀ i m σ H,W i m σ H →
      ((Itl K a).stop i H∧D.nx σ H)∨((Itl K a).go i H∧∃ N:St→Hp→Prop,(∀ σ' H',N σ' H'→∃ m',m' < m∧W (i+1) m' σ' H')∧∀ x H',(Itl K a).yld i H x H'→g x σ H' fun σ2 H2=>tb { D with nx:=N,ct:=N,bk:=D.nx } σ2 H2):=by
  refine ⟨fun i m σ H=>m=xs.length - i∧i≤xs.length∧Pv i σ H,⟨xs.length,by simp,aaR _,h0⟩,?_⟩;rintro i m σ H ⟨rfl,hi,p⟩;have q:=hl i σ H hi p;by_cases hlt:i < xs.length
  · refine .inr ⟨⟨xs,xs[i],q,by simp [hlt]⟩,Pv (i+1),fun σ' H' p'=>⟨xs.length - (i+1),by lia,rfl,hlt,p'⟩,fun x H' y=>?_⟩;obtain ⟨e,y⟩:=y;subst e;exact hs i x σ _ (y xs q) p
  · have e:i=xs.length:=by lia
    subst e;exact .inl ⟨⟨xs,q,aah _⟩,hd σ H p⟩
theorem jK {lo:Int} {n:Nat} {g:TG} {tb:TS} {D:Ends} {σ:St} {H:Hp} (Pv:Nat→St→Hp→Prop) (h0:Pv 0 σ H)
    (hs:∀ i σ H,i < n→Pv i σ H→g (.int (lo+i)) σ H fun σ2 H2=>tb { D with nx:=Pv (i+1),ct:=Pv (i+1),bk:=D.nx } σ2 H2) (hd:∀ σ H,Pv n σ H→D.nx σ H) :
    ∃ W:Nat→Nat→St→Hp→Prop,(∃ m,W 0 m σ H)∧∀ i m σ H,W i m σ H →
      ((Itr lo n).stop i H∧D.nx σ H)∨((Itr lo n).go i H∧∃ N:St→Hp→Prop,(∀ σ' H',N σ' H'→∃ m',m' < m∧W (i+1) m' σ' H')∧∀ x H',(Itr lo n).yld i H x H'→g x σ H' fun σ2 H2=>tb { D with nx:=N,ct:=N,bk:=D.nx } σ2 H2):=by
  refine ⟨fun i m σ H=>m=n - i∧i≤n∧Pv i σ H,⟨n,by simp,aaR _,h0⟩,?_⟩;rintro i m σ H ⟨rfl,hi,p⟩;by_cases hlt:i < n
  · refine .inr ⟨hlt,Pv (i+1),fun σ' H' p'=>⟨n - (i+1),by lia,rfl,hlt,p'⟩,fun x H' y=>?_⟩;obtain ⟨e,y⟩:=y;subst e y;exact hs i σ _ hlt p
  · have e:i=n:=by lia
    subst e;exact .inl ⟨aah _,hd σ H p⟩
open PySem PySem.Spec PyProof.Rows
abbrev R2:=V→V→Hp→VK→Prop
def OpR (X:Cx) (f:Value→Value→Sem Value) (r:R2):Prop :=
  ∀ (pins:List (Addr × Obj)) (s:Shared) (σ:St) (H:Hp) (x y:V) (v u:Value) (Q:VK),Inv X pins σ H s→RelV x v→RelV y u→r x y H Q →
    wpAny (model X.prog X.w) X.A (f v u) (EP X pins σ Q) X.xe s
def UnR (X:Cx) (f:Value→Sem Value) (r:V→Hp→VK→Prop):Prop :=
  ∀ (pins:List (Addr × Obj)) (s:Shared) (σ:St) (H:Hp) (x:V) (v:Value) (Q:VK),Inv X pins σ H s→RelV x v→r x H Q →
    wpAny (model X.prog X.w) X.A (f v) (EP X pins σ Q) X.xe s
def cz (X:Cx) (f:Value) (r:List V→Hp→VK→Prop):Prop :=
  ∀ (pins:List (Addr × Obj)) (s:Shared) (σ:St) (H:Hp) (xs:List V) (us:List Value) (Q:VK),Inv X pins σ H s→Vals xs us→r xs H Q →
    wpAny (model X.prog X.w) X.A (call f us) (EP X pins σ Q) X.xe s
def wP (X:Cx) (r:V→Hp→(Bool→Hp→Prop)→Prop):Prop :=
  ∀ (pins:List (Addr × Obj)) (s:Shared) (σ:St) (H:Hp) (x:V) (v:Value) (Q:Bool→Hp→Prop),Inv X pins σ H s→RelV x v→r x H Q →
    wpAny (model X.prog X.w) X.A (truthy v) (TP X pins σ Q) X.xe s
def tOp (r:R2) (ta tb:TE):TE:=fun σ H Q=>ta σ H fun x H1=>tb σ H1 fun y H2=>r x y H2 Q
def tUn (r:V→Hp→VK→Prop) (ta:TE):TE:=fun σ H Q=>ta σ H fun x H1=>r x H1 Q
def rI (C:Int→Int→Prop) (g:Int→Int→V):R2:=fun x y H Q=>∃ i j,x=.int i∧y=.int j∧C i j∧Q (g i j) H
def rI0 (g:Int→Int→V):R2:=fun x y H Q=>∃ i j,x=.int i∧y=.int j∧Q (g i j) H
def rU (g:Int→V):V→Hp→VK→Prop:=fun x H Q=>∃ i,x=.int i∧Q (g i) H
section
variable {X:Cx} {a b c:Expr} {ta tb tc:TE} {pos:Pos}
theorem uS (ha:PE X a ta) (hb:PE X b tb) {pins:List (Addr × Obj)} {s:Shared} {σ:St} {H:Hp} {R:V→V→Hp→Prop} (I:Inv X pins σ H s)
    (h:ta σ H fun x H1=>tb σ H1 fun y H2=>R x y H2) {Q:Value→Shared→Prop} {f:Value→Value→Sem Value}
    (hf:∀ v u s2 x y H2,Inv X pins σ H2 s2→RelV x v→RelV y u→R x y H2→wpAny (model X.prog X.w) X.A (f v u) Q X.xe s2) :
    wpAny (model X.prog X.w) X.A (eval a X.env) (fun v s₁=>wpAny (model X.prog X.w) X.A (eval b X.env) (fun u s₂=>wpAny (model X.prog X.w) X.A (f v u) Q X.xe s₂) X.xe s₁) X.xe s:=by
  refine thn (ha pins s σ H _ I h) fun v s1 ⟨x,H1,I1,r1,q1⟩=>?_;refine thn (hb pins s1 σ H1 _ I1 q1) fun u s2 ⟨y,H2,I2,r2,q2⟩=>?_;exact hf v u s2 x y H2 I2 r1 r2 q2
theorem am {op:Operator} {r:R2} (ho:OpR X (binaryOp op) r) (ha:PE X a ta) (hb:PE X b tb):PE X (.BinOp a op b pos) (tOp r ta tb):=by
  intro pins s σ H Q I h;exact wpAny_BinOp (uS ha hb I h fun v u s2 x y H2 I2 rx ry q=>ho pins s2 σ H2 x y v u Q I2 rx ry q)
theorem sY {op:UnaryOp} {r:V→Hp→VK→Prop} (ho:UnR X (unaryOp op) r) (ha:PE X a ta):PE X (.UnaryOp op a pos) (tUn r ta):=by
  intro pins s σ H Q I h;exact UnaryOp_ (thn (ha pins s σ H _ I h) fun v s1 ⟨x,H1,I1,r1,q1⟩=>ho pins s1 σ H1 x v Q I1 r1 q1)
theorem opI {f:Value→Value→Sem Value} {C:Int→Int→Prop} {g:Int→Int→Int}
    (rule:∀ (i j:Int) (t u:Tok) (s:Shared) (Q:Value→Shared→Prop) (E:Value→Shared→Prop),C i j→Q (.int (g i j) s.toks) { s with toks:=s.toks+1 }→wpAny (model X.prog X.w) X.A (f (.int i t) (.int j u)) Q E s) :
    OpR X f (rI C fun i j=>.int (g i j)):=by
  intro pins s σ H x y v u Q I rx ry h;obtain ⟨i,j,rfl,rfl,hc,q⟩:=h;obtain ⟨t,rfl⟩:=rx;obtain ⟨t',rfl⟩:=ry;exact rule i j t t' s _ _ hc ⟨.int (g i j),H,I.tok _,⟨_,rfl⟩,q⟩
theorem vn {f:Value→Value→Sem Value} {g:Int→Int→Int}
    (rule:∀ (i j:Int) (t u:Tok) (s:Shared) (Q:Value→Shared→Prop) (E:Value→Shared→Prop),Q (.int (g i j) s.toks) { s with toks:=s.toks+1 }→wpAny (model X.prog X.w) X.A (f (.int i t) (.int j u)) Q E s) :
    OpR X f (rI0 fun i j=>.int (g i j)):=by
  intro pins s σ H x y v u Q I rx ry h;obtain ⟨i,j,rfl,rfl,q⟩:=h;obtain ⟨t,rfl⟩:=rx;obtain ⟨t',rfl⟩:=ry;exact rule i j t t' s _ _ ⟨.int (g i j),H,I.tok _,⟨_,rfl⟩,q⟩
theorem uu {f:Value→Value→Sem Value} {g:Int→Int→Bool}
    (rule:∀ (i j:Int) (t u:Tok) (s:Shared) (Q:Value→Shared→Prop) (E:Value→Shared→Prop),Q (.bool (g i j)) s→wpAny (model X.prog X.w) X.A (f (.int i t) (.int j u)) Q E s) :
    OpR X f (rI0 fun i j=>.bl (g i j)):=by
  intro pins s σ H x y v u Q I rx ry h;obtain ⟨i,j,rfl,rfl,q⟩:=h;obtain ⟨t,rfl⟩:=rx;obtain ⟨t',rfl⟩:=ry;exact rule i j t t' s _ _ ⟨.bl (g i j),H,I,rfl,q⟩
def vT (i j:Int):Prop:=0≤j∧j≤1000000∧i.natAbs < 2 ^ 64
def CMul (i j:Int):Prop:=(-(2 ^ 64) < i∧i < 2 ^ 64)∨(-(2 ^ 64) < j∧j < 2 ^ 64)
theorem CMul.ok {i j:Int} (h:CMul i j):IntMulOk i j:=by
  rcases h with ⟨h1,h2⟩|⟨h1,h2⟩
  · exact .of_left (intBits_le_64 h1 h2)
  · exact .of_right (intBits_le_64 h1 h2)
theorem bB:OpR X (binaryOp .Add) (rI0 fun i j=>.int (i+j)):=vn fun _ _ _ _ _ _ _ q=>add_int q
theorem fm:OpR X (binaryOp .Sub) (rI0 fun i j=>.int (i - j)):=vn fun _ _ _ _ _ _ _ q=>sub_int q
theorem dD:OpR X (binaryOp .Mult) (rI CMul fun i j=>.int (i * j)):=opI fun _ _ _ _ _ _ _ hc q=>mul_int q hc.ok
theorem cM:OpR X (binaryOp .Mod) (rI (fun _ j=>0 < j) fun i j=>.int (i % j)):=opI fun i j _ _ _ _ _ hc q=>by
  have h1:(0:Int) < j:=hc;exact mod_int' (by lia) (by rw [Int.fmod_eq_emod_of_nonneg i (by lia)];exact q)
theorem fo:OpR X (binaryOp .Pow) (rI vT fun i j=>.int (i ^ j.toNat)):=opI fun _ _ _ _ _ _ _ hc q=>pow_int_small hc.1 hc.2.1 hc.2.2 q
theorem unI {f:Value→Sem Value} {g:Int→Int}
    (rule:∀ (i:Int) (t:Tok) (s:Shared) (Q:Value→Shared→Prop) (E:Value→Shared→Prop),Q (.int (g i) s.toks) { s with toks:=s.toks+1 }→wpAny (model X.prog X.w) X.A (f (.int i t)) Q E s) :
    UnR X f (rU fun i=>.int (g i)):=by
  intro pins s σ H x v Q I rx h;obtain ⟨i,rfl,q⟩:=h;obtain ⟨t,rfl⟩:=rx;exact rule i t s _ _ ⟨.int (g i),H,I.tok _,⟨_,rfl⟩,q⟩
theorem qc:UnR X (unaryOp .USub) (rU fun i=>.int (-i)):=unI fun _ _ _ _ _ q=>neg_int q
end
def vf:V→V→Bool
  | .non,.non=>true|.non,.int _=>true|.int _,.non=>true|.non,.bl _=>true|.bl _,.non=>true|.non,.str _=>true|.str _,.non=>true
  | .int _,.int _=>true|.bl _,.bl _=>true|.str _,.str _=>true|.byt _,.byt _=>true
  | .int _,.str _=>true|.str _,.int _=>true|.bl _,.str _=>true|.str _,.bl _=>true
  | _,_=>false
def rEq:R2:=fun x y H Q=>vf x y=true∧Q (.bl (decide (x=y))) H
def rNe:R2:=fun x y H Q=>vf x y=true∧Q (.bl (!decide (x=y))) H
theorem ox {i j:Int}:decide (V.int i=V.int j)=(i == j):=by
  rw [abR];simp
theorem rD {i j:Bool}:decide (V.bl i=V.bl j)=(i == j):=by
  rw [abR];simp
theorem ow {i j:Str}:decide (V.str i=V.str j)=(i == j):=by
  rw [abR];simp
theorem oy {i j:Array UInt8}:decide (V.byt i=V.byt j)=(i.toList == j.toList):=by
  rw [abR];cases i;cases j;simp
section
variable {X:Cx} {a b c:Expr} {ta tb tc:TE} {pos:Pos}
theorem aC {pins:List (Addr × Obj)} {σ:St} {H:Hp} {s:Shared} {Q:VK} {k k':Bool} (I:Inv X pins σ H s) (q:Q (.bl k) H) (e:k=k'):EP X pins σ Q (.bool k') s:=by
  subst e;exact ⟨.bl k,H,I,rfl,q⟩
theorem eW:OpR X (compareOp .Eq) rEq:=by
  intro pins s σ H x y v u Q I rx ry h;obtain ⟨hs,q⟩:=h;cases x with
  | non =>
    cases rx;cases y with
    | non=>cases ry;exact PySem.EqNone.eq_none_none (aC I q (by simp))
    | bl j=>cases ry;exact PySem.EqNone.eq_none_bool (aC I q (by simp))
    | int j=>obtain ⟨t',rfl⟩:=ry;exact PySem.EqNone.eq_none_int (aC I q (by simp))
    | str j=>obtain ⟨t',rfl⟩:=ry;exact PySem.EqNone.eq_none_str (aC I q (by simp))
    | _=>exact absurd (show false=true from hs) aae
  | bl i =>
    cases rx;cases y with
    | non=>cases ry;exact PySem.EqNone.eq_bool_none (aC I q (by simp))
    | bl j=>cases ry;exact eq_bool (aC I q rD)
    | str j=>obtain ⟨t',rfl⟩:=ry;exact PySem.EqMixed.eq_bool_str (aC I q (by simp))
    | _=>exact absurd (show false=true from hs) aae
  | int i =>
    obtain ⟨t,rfl⟩:=rx;cases y with
    | non=>cases ry;exact PySem.EqNone.eq_int_none (aC I q (by simp))
    | int j=>obtain ⟨t',rfl⟩:=ry;exact eq_int (aC I q ox)
    | str j=>obtain ⟨t',rfl⟩:=ry;exact PySem.EqMixed.eq_int_str (aC I q (by simp))
    | _=>exact absurd (show false=true from hs) aae
  | str i =>
    obtain ⟨t,rfl⟩:=rx;cases y with
    | non=>cases ry;exact PySem.EqNone.eq_str_none (aC I q (by simp))
    | bl j=>cases ry;exact PySem.EqMixed.eq_str_bool (aC I q (by simp))
    | int j=>obtain ⟨t',rfl⟩:=ry;exact PySem.EqMixed.eq_str_int (aC I q (by simp))
    | str j=>obtain ⟨t',rfl⟩:=ry;exact eq_str (aC I q ow)
    | _=>exact absurd (show false=true from hs) aae
  | byt i =>
    obtain ⟨t,rfl⟩:=rx;cases y with
    | byt j=>obtain ⟨t',rfl⟩:=ry;exact PySem.W.eq_bytes (aC I q oy)
    | _=>exact absurd (show false=true from hs) aae
  | _=>cases y <;> exact absurd (show false=true from hs) aae
theorem qH:OpR X (compareOp .NotEq) rNe:=by
  intro pins s σ H x y v u Q I rx ry h;obtain ⟨hs,q⟩:=h;cases x with
  | non =>
    cases rx;cases y with
    | non=>cases ry;exact PySem.EqNone.ne_none_none (aC I q (by simp))
    | bl j=>cases ry;exact PySem.EqNone.ne_none_bool (aC I q (by simp))
    | int j=>obtain ⟨t',rfl⟩:=ry;exact PySem.EqNone.ne_none_int (aC I q (by simp))
    | str j=>obtain ⟨t',rfl⟩:=ry;exact PySem.EqNone.ne_none_str (aC I q (by simp))
    | _=>exact absurd (show false=true from hs) aae
  | bl i =>
    cases rx;cases y with
    | non=>cases ry;exact PySem.EqNone.ne_bool_none (aC I q (by simp))
    | bl j=>cases ry;exact ne_bool (aC I q (congrArg not rD))
    | str j=>obtain ⟨t',rfl⟩:=ry;exact PySem.EqMixed.ne_bool_str (aC I q (by simp))
    | _=>exact absurd (show false=true from hs) aae
  | int i =>
    obtain ⟨t,rfl⟩:=rx;cases y with
    | non=>cases ry;exact PySem.EqNone.ne_int_none (aC I q (by simp))
    | int j=>obtain ⟨t',rfl⟩:=ry;exact ne_int (aC I q (congrArg not ox))
    | str j=>obtain ⟨t',rfl⟩:=ry;exact PySem.EqMixed.ne_int_str (aC I q (by simp))
    | _=>exact absurd (show false=true from hs) aae
  | str i =>
    obtain ⟨t,rfl⟩:=rx;cases y with
    | non=>cases ry;exact PySem.EqNone.ne_str_none (aC I q (by simp))
    | bl j=>cases ry;exact PySem.EqMixed.ne_str_bool (aC I q (by simp))
    | int j=>obtain ⟨t',rfl⟩:=ry;exact PySem.EqMixed.ne_str_int (aC I q (by simp))
    | str j=>obtain ⟨t',rfl⟩:=ry;exact ne_str (aC I q (congrArg not ow))
    | _=>exact absurd (show false=true from hs) aae
  | byt i =>
    obtain ⟨t,rfl⟩:=rx;cases y with
    | byt j=>obtain ⟨t',rfl⟩:=ry;exact PySem.W.ne_bytes (aC I q (congrArg not oy))
    | _=>exact absurd (show false=true from hs) aae
  | _=>cases y <;> exact absurd (show false=true from hs) aae
theorem lH:OpR X (compareOp .LtE) (rI0 fun i j=>.bl (decide (i≤j))):=uu fun _ _ _ _ _ _ _ q=>le_int q
theorem s_:OpR X (compareOp .Gt) (rI0 fun i j=>.bl (decide (j < i))):=uu fun _ _ _ _ _ _ _ q=>gt_int q
theorem vm:OpR X (compareOp .GtE) (rI0 fun i j=>.bl (decide (j≤i))):=uu fun _ _ _ _ _ _ _ q=>ge_int q
theorem oO:OpR X (compareOp .In) (fun x y H Q=>∃ i j,x=.str i∧y=.str j∧Q (.bl (!(Builtin.Str.occurrences j i 0 j.length 1).isEmpty)) H):=by
  intro pins s σ H x y v u Q I rx ry h;obtain ⟨i,j,rfl,rfl,q⟩:=h;obtain ⟨t,rfl⟩:=rx;obtain ⟨t',rfl⟩:=ry;exact in_str (aC I q rfl)
theorem uq:OpR X (compareOp .Is) (fun x y H Q=>y=.non∧Q (.bl (decide (x=.non))) H):=by
  intro pins s σ H x y v u Q I rx ry h;obtain ⟨rfl,q⟩:=h;cases ry;refine is_none_gen (aC I q ?_);cases x <;> first
    | (cases rx;rfl)
    | (obtain ⟨t,rfl⟩:=rx;rfl)
theorem nZ:OpR X (compareOp .IsNot) (fun x y H Q=>y=.non∧Q (.bl (!decide (x=.non))) H):=by
  intro pins s σ H x y v u Q I rx ry h;obtain ⟨rfl,q⟩:=h;cases ry;refine isnot_none_gen (aC I q ?_);cases x <;> first
    | (cases rx;rfl)
    | (obtain ⟨t,rfl⟩:=rx;rfl)
theorem a4 (b:Expr) {op:CmpOp} (h:op≠.In:=by decide) (h2:op≠.NotIn:=by decide):behindInMarks op b=false:=by
  have e1:(op == CmpOp.In)=false:=by cases op <;> first|rfl|exact absurd rfl h
  have e2:(op == CmpOp.NotIn)=false:=by cases op <;> first|rfl|exact absurd rfl h2
  cases b <;> simp [behindInMarks,e1,e2]
theorem bS {op:CmpOp} {r:R2} (ho:OpR X (compareOp op) r) (ha:PE X a ta) (hb:PE X b tb) (hm:behindInMarks op b=false):PE X (.Compare a [op] [b] pos) (tOp r ta tb):=by
  intro pins s σ H Q I h;exact wpAny_Compare1 (uS ha hb I h fun v u s2 x y H2 I2 rx ry q=>ho pins s2 σ H2 x y v u Q I2 rx ry q) hm
def sV (t:TE):TT:=fun σ H Q=>t σ H fun x H'=>∃ k,x=.bl k∧Q k H'
theorem bj {op:CmpOp} {r:R2} (ho:OpR X (compareOp op) r) (ha:PE X a ta) (hb:PE X b tb) (hm:behindInMarks op b=false):PT X (.Compare a [op] [b] pos) (sV (tOp r ta tb)):=by
  intro pins s σ H Q I h;refine wpAny_isTrue_Compare1 (thn (ha pins s σ H _ I h) fun v s1 ⟨x,H1,I1,r1,q1⟩=>thn (hb pins s1 σ H1 _ I1 q1) fun u s2 ⟨y,H2,I2,r2,q2⟩ =>
    thn (ho pins s2 σ H2 x y v u _ I2 r1 r2 q2) fun c s3 ⟨z,H3,I3,r3,k,e,q3⟩=>?_) hm
  subst e;cases r3;exact wpAny_truthy_bool ⟨H3,I3,q3⟩
def tO (r r':R2) (ta tb tc:TE):TE:=fun σ H Q=>ta σ H fun x H1=>tb σ H1 fun y H2=>r x y H2 fun z H3=>∃ k,z=.bl k ∧
  (if k=true then tc σ H3 fun w' H4=>r' y w' H4 Q else Q (.bl false) H3)
theorem qu {op op':CmpOp} {r r':R2} (ho:OpR X (compareOp op) r) (ho':OpR X (compareOp op') r') (ha:PE X a ta) (hb:PE X b tb) (hc:PE X c tc)
    (hm:lastMarks [op,op'] [b,c]=false:=by with_unfolding_all rfl):PT X (.Compare a [op,op'] [b,c] pos) (sV (tO r r' ta tb tc)):=by
  intro pins s σ H Q I h;refine isTrue_chain (thn (ha pins s σ H _ I h) fun v s1 ⟨x,H1,I1,r1,q1⟩=>test_link (thn (hb pins s1 σ H1 _ I1 q1) fun u s2 ⟨y,H2,I2,r2,q2⟩ =>
    thn (ho pins s2 σ H2 x y v u _ I2 r1 r2 q2) fun d s3 ⟨z,H3,I3,r3,k,e,q3⟩=>?_)) hm
  subst e;cases r3;refine wpAny_truthy_bool ?_;cases k with
  | false =>
    obtain ⟨k',e',q'⟩:=q3;cases e';exact ite_ff ⟨H3,I3,q'⟩
  | true =>
    refine ite_tt (test_last (thn (hc pins s3 σ H3 _ I3 q3) fun w' s4 ⟨z',H4,I4,r4,q4⟩=>thn (ho' pins s4 σ H4 y z' u w' _ I4 r2 r4 q4) fun d' s5 ⟨z2,H5,I5,r5,k2,e2,q5⟩=>?_));subst e2;cases r5;exact wpAny_truthy_bool ⟨H5,I5,q5⟩
def uT (K:aab) (x:V) (H:Hp) (k:Bool):Prop :=
  match x with
  | .non=>k=false
  | .bl b=>k=b
  | .int i=>k=(i != 0)
  | .str y=>y.length≤sizeLine∧k=((y.length:Int) != 0)
  | .byt y=>y.size≤sizeLine∧k=((y.size:Int) != 0)
  | .ref p=>(∃ xs,SqL K H p xs∧k=!xs.isEmpty)∨(∃ xs,SqT K H p xs∧k=!xs.isEmpty)∨∃ kvs,H p=some (.dK kvs)∧k=!kvs.isEmpty
  | _=>False
theorem m_ {κ:Type} {kvs:List (κ × V)} {vs:List (κ × Value)} (r:KV kvs vs):(!vs.isEmpty)=!kvs.isEmpty:=by
  cases r <;> rfl
theorem iK {xs:List V} {its:List Value} (r:Vals xs its):(!its.toArray.isEmpty)=!xs.isEmpty:=by
  cases r <;> simp
theorem fV:(sizeLine:Nat) < 2 ^ 63:=by rw [sizeLine_eq];decide
theorem qf:wP X (fun x H Q=>∃ k,uT X.K x H k∧Q k H):=by
  intro pins s σ H x v Q I rx h;obtain ⟨k,e,q⟩:=h;have hl:=fV;have hs:sizeLine=16777216:=sizeLine_eq;cases x with
  | non =>
    cases rx;have e':k=false:=e;subst e';exact truthy_none ⟨H,I,q⟩
  | bl b =>
    cases rx;have e':k=b:=e;subst e';exact wpAny_truthy_bool ⟨H,I,q⟩
  | int i =>
    obtain ⟨t,rfl⟩:=rx;have e':k=(i != 0):=e;subst e';exact PySem.P.truthy_int ⟨H,I,q⟩
  | str y =>
    obtain ⟨t,rfl⟩:=rx;obtain ⟨hy,e'⟩:y.length≤sizeLine∧k=((y.length:Int) != 0):=e;subst e';exact PySem.P.truthy_str (by lia) ⟨H,I.tok _,q⟩
  | byt y =>
    obtain ⟨t,rfl⟩:=rx;obtain ⟨hy,e'⟩:y.size≤sizeLine∧k=((y.size:Int) != 0):=e;subst e';exact PySem.W.truthy_bytes (by lia) ⟨H,I.tok _,q⟩
  | ref p =>
    cases rx;have e':(∃ xs,SqL X.K H p xs∧k=!xs.isEmpty)∨(∃ xs,SqT X.K H p xs∧k=!xs.isEmpty)∨∃ kvs,H p=some (.dK kvs)∧k=!kvs.isEmpty:=e;rcases e' with ⟨xs,hx,e'⟩|⟨xs,hx,e'⟩|⟨kvs,hx,e'⟩
    · subst e';obtain ⟨its,r,pl,hz⟩:=I.list hx;have hlen:=r.length;exact wpAny_truthy_list pl.isList (by simp only [aaf];lia) ⟨H,I.tok _,by rw [iK r];exact q⟩
    · subst e';obtain ⟨its,r,pl,hz⟩:=I.tuple hx;have hlen:=r.length;exact truthy_tuple pl (by simp only [aaf];lia) ⟨H,I.tok _,by rw [iK r];exact q⟩
    · subst e';obtain ⟨hz,hS,vs,r,m⟩:kvs.length≤sizeLine∧(p == sysModules)=false∧∃ vs,KV kvs vs∧s.heap.DictOf (aD X.prog X.w) p vs:=I.hok p _ hx;have hlen:kvs.length=vs.length:=aa9 r;exact wpAny_truthy_dict hS m (by lia) ⟨H,I.tok _,by rw [m_ r];exact q⟩
  | _=>exact (show False from e).elim
theorem lB (ha:PE X a ta) (he:∀ whole,isTrue a X.env whole=(do let v ← whole;standAt a.pos;holding [v] (truthy v))) :
    PT X a (fun σ H Q=>ta σ H fun x H'=>∃ k,uT X.K x H' k∧Q k H'):=by
  intro pins s σ H Q I h;exact isTrue_plain (thn (ha pins s σ H _ I h) fun v s1 ⟨x,H1,I1,r1,q1⟩=>qf pins s1 σ H1 x v Q I1 r1 q1) (he _)
theorem de:OpR X (binaryOp .Add) (fun x y H Q=>∃ i j,x=.str i∧y=.str j∧i.length+j.length≤sizeLine∧Q (.str (i++j)) H):=by
  intro pins s σ H x y v u Q I rx ry h;obtain ⟨i,j,rfl,rfl,hz,q⟩:=h;obtain ⟨t,rfl⟩:=rx;obtain ⟨t',rfl⟩:=ry;exact add_str (fun t' tk=>⟨.str (i++j),H,I.tok _,⟨_,rfl⟩,q⟩) hz
theorem dg {x:V} {us:List Value} (r:Vals [x] us):∃ u,us=[u]∧RelV x u:=by
  cases r with
  | cons r1 r2=>cases r2;exact ⟨_,rfl,r1⟩
theorem qb {x y:V} {us:List Value} (r:Vals [x,y] us):∃ u w',us=[u,w']∧RelV x u∧RelV y w':=by
  cases r with
  | cons r1 r2 =>
    cases r2 with
    | cons r3 r4=>cases r4;exact ⟨_,_,rfl,r1,r3⟩
theorem p8:cz X (.type "int") (fun xs H Q=>(∃ i,xs=[.int i]∧Q (.int i) H)∨∃ k,xs=[.bl k]∧Q (.int (if k then 1 else 0)) H):=by
  intro pins s σ H xs us Q I r h;rcases h with ⟨i,rfl,q⟩|⟨k,rfl,q⟩
  · obtain ⟨u,rfl,t,rfl⟩:=dg r;exact call_int_int ⟨.int i,H,I,⟨_,rfl⟩,q⟩
  · obtain ⟨u,rfl,r1⟩:=dg r;cases r1;exact call_int_bool ⟨.int (if k then 1 else 0),H,I.tok _,⟨_,rfl⟩,q⟩
end
open PySem PySem.Spec PyProof.Rows
structure ObjM (h:Heap) (x dx C:Addr) (mA:Str→Option Value):Prop where
  obj:h.get? x=some (PySem.W.instObj C dx)
  ns:h.Ns1 dx mA
  ne:dx≠x
theorem o0 {h:Heap} {dx:Addr} {mA:Str→Option Value} (n:h.Ns1 dx mA):∃ od,h.get? dx=some od∧∀ name,PySem.W.lookIn name od=some (mA name):=by
  obtain ⟨o,es,ep,ho,hd,hk,_,hm⟩:=n;refine ⟨o,ho,fun name=>?_⟩;have e:=hm name;unfold nsFind findBy at e;rw [← Array.find?_toList] at e;unfold PySem.W.lookIn;rw [hd];dsimp only;split
  · rename_i y q;rw [q] at e;exact congrArg some e
  · rename_i q;rw [q] at e;have a:es.toList.any (·.refKey)=false:=by
      rw [List.any_eq_false];intro y hy;obtain ⟨z,t,hkey⟩:=hk y (Array.mem_toList_iff.mp hy);simp [DictEntry.refKey,hkey]
    have a':¬ es.toList.any (·.refKey)=true:=by rw [a];exact aae
    rw [if_neg a'];exact congrArg some e
theorem ObjM.look {h:Heap} {x dx C:Addr} {mA:Str→Option Value} (I:ObjM h x dx C mA):∃ od,PySem.W.InstAt h x (PySem.W.instObj C dx) C (some od)∧∀ name,PySem.W.lookIn name od=some (mA name) :=
  let ⟨od,ho,hl⟩:=o0 I.ns
  ⟨od,⟨I.obj,rfl,rfl,ho⟩,hl⟩
section
variable {prog:Program} {w:World} {A:Around} {E:Value→Shared→Prop} {s:Shared} {K:aab} {x dx C f:Addr} {mA:Str→Option Value} {name:Str} {v:Value}
end
theorem RelO.some_of {v:V} {o:Option Value} (r:RelO (some v) o):∃ u,o=some u∧RelV v u:=by
  cases o with
  | none=>exact (show False from r).elim
  | some u=>exact ⟨u,rfl,r⟩
section
variable {P:Program} {w:World} {H H':Hp} {h h':Heap} {a C dx:Addr} {fs fs':List (Str × V)}
theorem sL (hok:HOk P w H h) (e:H a=some (.ins C dx fs)):∃ mA,ObjM h a dx C mA∧(∀ f,RelO (fs.lookup f) (mA f))∧PySem.Within mA (fs.map (·.1))∧fs.length≤1000∧H dx=some (.own a):=by
  obtain ⟨d,z,ne,ob,mA,n,r,q⟩:=(show ObjOk P w H h a (.ins C dx fs) from hok a _ e)
  exact ⟨mA,⟨ob,n,ne⟩,r,q,z,d⟩
end
structure Cls (K:aab) (C:Addr):Prop where
  pg:PySem.W.plainGet K C Str.empty=true
  hd:PySem.W.hasDictIn K C=true
  po:PySem.W.plainOver K C=true
  sa:aa3 K (.ref C) "__setattr__" = some (some (.builtin "object.__setattr__"))
theorem Cls.get {K:aab} {C:Addr} (c:Cls K C) (f:Str):PySem.W.plainGet K C f=true:=c.pg
structure Con (K:aab) (C:Addr) (f:Str) (v:V) (u:Value):Prop where
  at_:aa3 K (.ref C) f=some (some u)
  rel:RelV v u
  get:PySem.W.specialIn K u "__get__" = some none
  cp:PySem.W.copiedNames.contains f=false
structure Meth (K:aab) (C:Addr) (m:Str) (f:Addr):Prop where
  at_:aa3 K (.ref C) m=some (some (.ref f))
  fn:PySem.W.isFn K (.ref f)=true
  kp:aaS K (.ref f)=true
section
variable {X:Cx} {pins:List (Addr × Obj)} {σ:St} {H:Hp} {s:Shared} {a C dx:Addr} {fs:List (Str × V)} {f:Str} {v:V} {A:Around} {E:Value→Shared→Prop}
end
section
variable {X:Cx} {o e value:Expr} {f:Str} {pos pos' tpos:Pos} {ta tv:TE}
end
section
variable {X:Cx} {pins:List (Addr × Obj)} {σ:St} {H:Hp} {s:Shared} {A:Around} {E:Value→Shared→Prop} {Q:Value→Shared→Prop} {c:Value} {b:Bool}
inductive TyOf (K:aab) (H:Hp):V→Value→Prop where
  | non:TyOf K H .non (.type "NoneType")
  | bl (x:Bool):TyOf K H (.bl x) (.type "bool")
  | int (i:Int):TyOf K H (.int i) (.type "int")
  | str (x:Str):TyOf K H (.str x) (.type "str")
  | flt (x:UInt64):TyOf K H (.flt x) (.type "float")
  | lst {a:Addr} {xs:List V} (e:H a=some (.lst xs)):TyOf K H (.ref a) (.type "list")
  | frz {a:Addr} {o:Obj} {xs:List V} (e:H a=some (.frz o (.lst xs))):TyOf K H (.ref a) (.type "list")
  | tup {a:Addr} {xs:List V} (e:H a=some (.tup xs)):TyOf K H (.ref a) (.type "tuple")
  | dK {a:Addr} {kvs:List (Key × V)} (e:H a=some (.dK kvs)):TyOf K H (.ref a) (.type "dict")
  | dT {a:Addr} {kvs:List (List Key × V)} (e:H a=some (.dT kvs)):TyOf K H (.ref a) (.type "dict")
  | ins {a C dx:Addr} {fs:List (Str × V)} (e:H a=some (.ins C dx fs)) (cl:Cls K C) (ha:aa3 K (.ref C) "__class__" = some (some (.builtin "object.__class__")))
      (hn:PySem.W.specialIn K (.builtin "object.__class__") "__get__" = some (some (.builtin "getset_descriptor.__get__"))) (htk:PySem.W.takesIn K (.builtin "object.__class__")=some true)
      (hm:PySem.W.mroIn K C (.type "object")=some true):TyOf K H (.ref a) (.ref C)
theorem pE {x:V} {u t:Value} (I:Inv X pins σ H s) (rx:RelV x u) (ty:TyOf X.K H x t) (e:aaG X.K t c=some b) (h:∀ tk,Q (.bool b) { s with toks:=tk }) :
    wpAny (model X.prog X.w) A (call (.builtin "isinstance") [u,c]) Q E s:=by
  cases ty with
  | non=>cases (show u=Value.none from rx);exact aa1 PySem.W.kitx_none I.kIn True.intro e (fun z=>nomatch z) h
  | bl y=>cases (show u=Value.bool y from rx);exact aa1 PySem.W.kitx_bool I.kIn True.intro e (fun z=>nomatch z) h
  | int i=>obtain ⟨t,q⟩:=(show ∃ t,u=Value.int i t from rx);cases q;exact aa1 PySem.W.kitx_int I.kIn True.intro e (fun z=>nomatch z) h
  | str y=>obtain ⟨t,q⟩:=(show ∃ t,u=Value.str y t from rx);cases q;exact aa1 PySem.W.kitx_str I.kIn True.intro e (fun z=>nomatch z) h
  | flt y=>obtain ⟨t,q⟩:=(show ∃ t,u=Value.float y t from rx);cases q;exact aa1 PySem.W.kitx_float I.kIn True.intro e (fun z=>nomatch z) h
  | @lst a xs ea =>
    cases (show u=Value.ref a from rx);obtain ⟨_,_,n,_,h1⟩:=(show ObjOk X.prog X.w H s.heap a (.lst xs) from I.hok a _ ea)
    exact aa1 PySem.W.kitx_list I.kIn ⟨_,h1,rfl⟩ e (fun z=>nomatch z) h
  | @frz a ob xs ea =>
    cases (show u=Value.ref a from rx);obtain ⟨_,_,_,n,_,h1⟩:=(show ObjOk X.prog X.w H s.heap a (.frz ob (.lst xs)) from I.hok a _ ea)
    exact aa1 PySem.W.kitx_list I.kIn ⟨_,h1,rfl⟩ e (fun z=>nomatch z) h
  | @tup a xs ea =>
    cases (show u=Value.ref a from rx);obtain ⟨_,_,_,p⟩:=(show ObjOk X.prog X.w H s.heap a (.tup xs) from I.hok a _ ea)
    obtain ⟨o,h1,h2,_⟩:=p;exact aa1 PySem.W.kitx_tuple I.kIn ⟨o,h1,h2⟩ e (fun z=>nomatch z) h
  | @dK a kvs ea =>
    cases (show u=Value.ref a from rx);obtain ⟨_,_,vs,_,p⟩:=(show ObjOk X.prog X.w H s.heap a (.dK kvs) from I.hok a _ ea)
    obtain ⟨o,es,ep,h1,h2,_⟩:=p;exact aa1 PySem.W.kitx_dict I.kIn ⟨o,h1,h2.1⟩ e (fun z=>nomatch z) h
  | @dT a kvs ea =>
    cases (show u=Value.ref a from rx);obtain ⟨_,_,xs,_,o,es,ep,h1,h2,_⟩:=(show ObjOk X.prog X.w H s.heap a (.dT kvs) from I.hok a _ ea)
    exact aa1 PySem.W.kitx_dict I.kIn ⟨o,h1,h2.1⟩ e (fun z=>nomatch z) h
  | @ins a C dx fs ea cl ha hn htk hm =>
    cases (show u=Value.ref a from rx);obtain ⟨mA,O,_⟩:=sL I.hok ea;obtain ⟨od,J,_⟩:=O.look;exact aa1 (PySem.W.kitx_own (cl.get _) cl.hd ha hn htk hm) I.kIn J e (fun z=>nomatch z) h
end
open PySem PySem.Spec PyProof.Rows
structure Room (k:Nat) (A:Around):Prop where
  hd:A.handled=none
  dp:A.depth+3 * k+5 < recursionLimit
  un:A.units+16 * k+200 < cLine
  gd:A.guards=some []
theorem Room.mono {j k:Nat} {A:Around} (r:Room k A) (h:j≤k):Room j A:=⟨r.hd,by have:=r.dp;lia,by have:=r.un;lia,r.gd⟩
theorem Room.deeper {k:Nat} {A:Around} (r:Room (k+1) A) (env:Env):Room k (A.deeper env) :=
  ⟨r.hd,by have:=r.dp;show A.depth+1+3 * k+5 < _;lia,by have:=r.un;show A.units+3+16 * k+200 < _;lia,r.gd⟩
theorem Room.in1 {k:Nat} {A:Around} (r:Room (k+1) A):Room k A.in1 :=
  ⟨r.hd,by have:=r.dp;show A.depth+3 * k+5 < _;lia,by have:=r.un;show A.units+1+16 * k+200 < _;lia,r.gd⟩
theorem Room.depth {k:Nat} {A:Around} (r:Room k A):A.depth < recursionLimit:=by have:=r.dp;lia
theorem Room.units {k:Nat} {A:Around} (r:Room k A):A.units+64 < cLine:=by have:=r.un;lia
theorem Room.units0 {k:Nat} {A:Around} (r:Room k A):A.units < cLine:=by have:=r.un;lia
def vZ:TA:=fun _ H Q=>Q [] H
def vd (ta:TE) (tr:TA):TA:=fun σ H Q=>ta σ H fun x H1=>tr σ H1 fun xs H2=>Q (x :: xs) H2
section
variable {X:Cx} {e:Expr} {es:List Expr} {te:TE} {t:TA} {pos:Pos}
theorem ad:PA X [] vZ:=fun _ _ _ _ H Q I h=>Calls.spliced_nil ⟨[],H,I,.nil,h⟩
theorem aa (ha:PE X e te) (hr:PA X es t) (hs:starEach (e :: es) X.env=(false,eval e X.env) :: starEach es X.env:=by rfl):PA X (e :: es) (vd te t):=by
  intro pos pins s σ H Q I h;rw [hs];show wpAny _ _ (spliced ((false,eval e X.env) :: backTo pos (starEach es X.env))) _ _ s;refine Calls.spliced_cons (thn (ha pins s σ H _ I h) fun u s1 ⟨x,H1,I1,r1,q1⟩=>?_);exact thn (hr pos pins s1 σ H1 _ I1 q1) fun us s2 ⟨xs,H2,I2,r2,q2⟩=>⟨x :: xs,H2,I2,.cons r1 r2,q2⟩
def vU (t:TA):TE:=fun σ H Q=>t σ H fun xs H1=>xs.length≤sizeLine∧∀ p,H1 p=none→Q (.ref p) (upd H1 p (.tup xs))
def v4 (t:TA):TE:=fun σ H Q=>t σ H fun xs H1=>xs.length≤sizeLine∧∀ p,H1 p=none→Q (.ref p) (upd H1 p (.lst xs))
theorem bc {x1} (h:PA X es t):PE X (.Tuple es x1 pos) (vU t):=by
  intro pins s σ H Q I hq;refine wpAny_Tuple_spliced (thn (h pos pins s σ H _ I hq) fun us s1 ⟨xs,H1,I1,r,z,q⟩=>⟨by rw [← r.length];exact z,?_⟩);have hf:H1 s1.heap.objs.size=none:=I1.hok.fresh (aah _);refine ⟨.ref s1.heap.objs.size,upd H1 s1.heap.objs.size (.tup xs),I1.laid (t':=s1.toks) (fun b u e=>aac _ e) (aah _) ?_,rfl,q _ hf⟩;exact ⟨z,us,r,⟨_,aap _ rfl,rfl,_,rfl⟩⟩
theorem az (h:PA X es t):PE X (.List es pos) (v4 t):=by
  intro pins s σ H Q I hq;refine wpAny_List_spliced (thn (h pos pins s σ H _ I hq) fun us s1 ⟨xs,H1,I1,r,z,q⟩=>⟨by rw [← r.length];exact z,?_⟩);have hf:H1 s1.heap.objs.size=none:=I1.hok.fresh (aah _);refine ⟨.ref s1.heap.objs.size,upd H1 s1.heap.objs.size (.lst xs),I1.laid (t':=s1.toks) (fun b u e=>aac _ e) (aah _) ?_,rfl,q _ hf⟩;exact ⟨z,us,0,r,aap _ rfl⟩
end
abbrev Sp:=List V→Hp→VK→XK→Prop
abbrev CXT:=List Env→Hp→Shared→XK→Value→Shared→Prop
structure Env0 (P:Program) (w:World) (K:aab) (mg:Str→Option Value) (base:Heap) (A:Around) (outer:List Env) (s:Shared) (H:Hp):Prop where
  frames:A.frames=some outer
  mod:Mod K mg base
  bs:∀ b o,base.get? b=some o→s.heap.get? b=some o∧H b=none
  bsz:base.objs.size≤s.heap.objs.size
  funs:s.heap.FunFrames base outer
  frf:∀ b∈frs outer,H b=none
  hok:HOk P w H s.heap
  bare:AllBare s.gens
def CE (outer:List Env) (P:Program) (w:World) (H:Hp) (s:Shared) (Q:VK) (u:Value) (s':Shared):Prop :=
  ∃ v H',s'.os=s.os∧AllBare s'.gens∧Un (frs outer) [] H H' s.heap s'.heap∧HOk P w H' s'.heap∧RelV v u∧Q v H'
def CR (CX:CXT) (outer:List Env) (P:Program) (w:World) (H:Hp) (s:Shared) (Q:VK) (E:XK) (r:Result) (s':Shared):Prop :=
  match r with
  | .ok (.ret u)=>CE outer P w H s Q u s'
  | .ok _=>False
  | .error e=>CX outer H s E e s'
structure FnOk (P:Program) (w:World) (K:aab) (mg:Str→Option Value) (base:Heap) (CX:CXT) (k:Nat) (f:Addr) (fd:FuncData) (ps:List Str) (sp:Sp):Prop where
  len:∀ vs H Q E,sp vs H Q E→vs.length=ps.length
  run:∀ (A:Around) (outer:List Env) (s:Shared) (H:Hp) (args:Args) (us:List Value) (vs:List V) (Q:VK) (E:XK),Room k A→Env0 P w K mg base A outer s H→BindsTo s fd args (ps.zip us)→Vals vs us→sp vs H Q E →
    codeAny (model P w) A (.call (.ref f) args) (CR CX outer P w H s Q E) s
theorem Env0.in1 {P:Program} {w:World} {K:aab} {mg:Str→Option Value} {base:Heap} {A:Around} {outer:List Env} {s:Shared} {H:Hp} (e:Env0 P w K mg base A outer s H) :
    Env0 P w K mg base A.in1 outer s H:=⟨e.frames,e.mod,e.bs,e.bsz,e.funs,e.frf,e.hok,e.bare⟩
section
variable {X:Cx} {pins:List (Addr × Obj)} {σ:St} {H:Hp} {s s':Shared}
theorem Inv.env0 (I:Inv X pins σ H s):Env0 X.prog X.w X.K X.mg X.base X.A X.stack s H :=
  ⟨I.ok.frames,I.ok.mod,I.bs,aaK I.ok.bsz I.sz,I.stack,I.stkFree,I.hok,I.bare⟩
theorem Inv.after {Q:VK} {u:Value} (I:Inv X pins σ H s) (h:CE X.stack X.prog X.w H s Q u s'):EP X pins σ Q u s':=by
  obtain ⟨v,H',os,bare,un,hok,r,q⟩:=h;obtain ⟨hh,g,d,t,os'⟩:=s';obtain rfl:os'=s.os:=os;exact ⟨v,H',I.call (h':=hh) (g':=g) (d':=d) (t':=t) (ch:=[]) un hok bare (fun b z=>absurd z (by simp)),r,q⟩
end
def nH (sp:Sp) (dvs:List V) (E:XK) (t:TA):TE:=fun σ H Q=>t σ H fun vs H1=>sp (vs++dvs) H1 Q E
def Binds (K:aab) (fd:FuncData) (ps:List Str) (ds:List Value):Prop :=
  ∀ (s:Shared) (us:List Value),K.In s.heap→(us++ds).length=ps.length→BindsTo s fd ⟨us,[]⟩ (ps.zip (us++ds))
theorem Binds.all {K:aab} {fd:FuncData} {ps:List Str} (h:∀ us:List Value,us.length=ps.length→bindArgs fd ⟨us,[]⟩=pure (ps.zip us)):Binds K fd ps []:=fun s us _ hl=>by
  rw [ab4] at hl ⊢;exact .of_eq (h us hl)
def iU (CX:CXT) (X:Cx) (E:XK):Prop:=∀ (pins:List (Addr × Obj)) (σ:St) (H:Hp) (s:Shared) (e:Value) (s':Shared),Inv X pins σ H s→CX X.stack H s E e s'→X.xe e s'
section
variable {X:Cx} {CX:CXT} {k:Nat} {f C:Addr} {fd:FuncData} {ps:List Str} {sp:Sp} {dvs:List V} {ds:List Value} {E:XK} {x m:Str} {p pos apos:Pos} {e o:Expr} {es:List Expr} {ta:TE} {t:TA}
theorem tU {pins:List (Addr × Obj)} {σ:St} {H:Hp} {s:Shared} {Q:VK} {us:List Value} {vs:List V} (F:FnOk X.prog X.w X.K X.mg X.base CX k f fd ps sp) (hr:Room k X.A) (hb:Binds X.K fd ps ds) (hd:Vals dvs ds) (hx:iU CX X E)
    (I:Inv X pins σ H s) (r:Vals vs us) (h:sp (vs++dvs) H Q E):wpAny (model X.prog X.w) X.A (call (.ref f) us) (EP X pins σ Q) X.xe s:=by
  have r2:Vals (vs++dvs) (us++ds):=r.append hd;have hl:(us++ds).length=ps.length:=by rw [← r2.length];exact F.len _ _ _ _ h
  refine wpAny_call (codeAny_mono (F.run X.A X.stack s H ⟨us,[]⟩ (us++ds) (vs++dvs) Q E hr I.env0 (hb s us I.kIn hl) r2 h) fun r s' hq=>?_);cases r with
  | error e=>exact hx pins σ H s e s' I hq
  | ok fl =>
    cases fl with
    | ret u=>exact I.after hq
    | next=>exact aa7 hq
    | brk=>exact aa7 hq
    | cont=>exact aa7 hq
theorem kn (F:FnOk X.prog X.w X.K X.mg X.base CX k f fd ps sp) (hr:Room k X.A) (hg:Gl X x) (hm:X.mg x=some (.ref f)) (hk:aaS X.K (.ref f)=true) (hb:Binds X.K fd ps ds) (hd:Vals dvs ds) (hx:iU CX X E)
    (ha:PA X (e :: es) t) (hdb:(x == ("__debug__":Str))=false:=by decide) (he:starEach (e :: es) X.env=(false,eval e X.env) :: starEach es X.env:=by rfl) (hpl:(backTo pos (starEach es X.env)).any (·.1)=false:=by rfl) :
    PE X (.Call (.Name x p) (e :: es) [] pos) (nH sp dvs E t):=by
  intro pins s σ H Q I h;refine wpAny_Call_Name_kw (gi I hg hm ?_ hdb);refine PySem.W.callWith_K (h₀:=X.base) I.ok.mod.kin hk (thn (ha pos pins s σ H _ I h) fun us s1 ⟨vs,H1,I1,r,q⟩=>⟨I1.kIn,?_⟩) he hpl;exact tU F hr hb hd hx I1 r q
structure Mk (K:aab) (C f:Addr):Prop where
  makes:PySem.W.makesIn K C=true
  init:aa3 K (.ref C) "__init__" = some (some (.ref f))
  fn:PySem.W.isFn K (.ref f)=true
  kp:aaS K (.ref C)=true
end
section
variable {X:Cx} {CX:CXT} {k:Nat} {f C:Addr} {fd:FuncData} {ps ks:List Str} {sp:Sp} {E:XK} {x m:Str} {p pos apos kpos:Pos} {e o:Expr} {es:List Expr} {kws:List Keyword} {te ta:TE} {t tk:TA} {nm:Option Str}
structure KBinds (K:aab) (fd:FuncData) (ps ks:List Str) (g:List Value→List Value→List Value) (gV:List V→List V→List V):Prop where
  to:∀ (s:Shared) (us ws:List Value),K.In s.heap→(g us ws).length=ps.length→BindsTo s fd ⟨us,ks.zip ws⟩ (ps.zip (g us ws))
  rel:∀ {vs:List V} {us:List Value} {zs:List V} {ws:List Value},Vals vs us→Vals zs ws→Vals (gV vs zs) (g us ws)
variable {g:List Value→List Value→List Value} {gV:List V→List V→List V}
end
structure FnScope (N P:List Str) (sc:Scope):Prop where
  kind:sc.kind=.function
  co:sc.isCoroutine=false
  gen:sc.isGenerator=false
  nd:N.Nodup
  pre:N.take P.length=P
  par:∀ x∈P,sc.names.lookup x=some .local∨sc.names.lookup x=some .cell
  nofree:∀ y∈sc.names,y.2≠.free
theorem jQ {kindOf:Str→Option NameKind} {x:Str}:∀ {binds:List (Str × Value)} {m:Str→Option Value},(∀ v,(x,v)∉binds)→bindL kindOf binds m x=m x
  | [],_,_=>rfl
  | (n,v) :: r,m,h=>by
    unfold bindL;rw [jQ fun w hw=>h w (aal _ hw)];split
    · have : x≠n:=by rintro rfl;exact h v aav
      simp [this]
    · rfl
theorem jS {kindOf:Str→Option NameKind} {x:Str}:∀ {binds:List (Str × Value)} {m:Str→Option Value},(∀ v,(x,v)∉binds)→bindC kindOf binds m x=m x
  | [],_,_=>rfl
  | (n,v) :: r,m,h=>by
    unfold bindC;rw [jS fun w hw=>h w (aal _ hw)];split
    · rfl
    · have : x≠n:=by rintro rfl;exact h v aav
      simp [this]
theorem jR {kindOf:Str→Option NameKind} {x:Str} {v:Value}:∀ {P:List Str} {vs:List Value} {i:Nat} {m:Str→Option Value},P.Nodup→P[i]?=some x→vs[i]?=some v→kindOf x=some .local →
    bindL kindOf (P.zip vs) m x=some v
  | [],_,_,_,_,h,_,_=>by simp at h
  | _ :: _,[],_,_,_,_,h,_=>by simp at h
  | p :: P,w :: vs,0,m,nd,h1,h2,hk=>by
    simp at h1 h2;subst h1;subst h2;show bindL kindOf ((p,w) :: P.zip vs) m p=_;unfold bindL;rw [jQ fun v hv=>(acs.mp nd).1 (List.of_mem_zip hv).1,if_pos hk];simp
  | p :: P,w :: vs,i+1,m,nd,h1,h2,hk=>by
    show bindL kindOf ((p,w) :: P.zip vs) m x=_;unfold bindL;exact jR (i:=i) (acs.mp nd).2 (by simpa using h1) (by simpa using h2) hk
theorem jT {kindOf:Str→Option NameKind} {x:Str} {v:Value}:∀ {P:List Str} {vs:List Value} {i:Nat} {m:Str→Option Value},P.Nodup→P[i]?=some x→vs[i]?=some v→kindOf x≠some .local →
    bindC kindOf (P.zip vs) m x=some v
  | [],_,_,_,_,h,_,_=>by simp at h
  | _ :: _,[],_,_,_,_,h,_=>by simp at h
  | p :: P,w :: vs,0,m,nd,h1,h2,hk=>by
    simp at h1 h2;subst h1;subst h2;show bindC kindOf ((p,w) :: P.zip vs) m p=_;unfold bindC;rw [jS fun v hv=>(acs.mp nd).1 (List.of_mem_zip hv).1,if_neg hk];simp
  | p :: P,w :: vs,i+1,m,nd,h1,h2,hk=>by
    show bindC kindOf ((p,w) :: P.zip vs) m x=_;unfold bindC;exact jT (i:=i) (acs.mp nd).2 (by simpa using h1) (by simpa using h2) hk
def start (N:List Str) (vs:List V):St:=vs.map some++aaw (N.length - vs.length) none
def fH (CX:CXT) (P:Program) (w:World) (K:aab) (mg:Str→Option Value) (base:Heap) (N:List Str) (qual:Str) (scope:Scope) (f:Addr) (cd:Value) (A:Around) (outer:List Env) (s:Shared) (H:Hp) (E:XK):Cx where
  prog:=P
  w:=w
  K:=K
  mg:=mg
  base:=base
  A:=A.deeper (envOfC qual scope s.heap.objs.size f cd)
  N:=N
  s₀:=s
  H₀:=H
  env:=envOfC qual scope s.heap.objs.size f cd
  outer:=outer
  stack:=envOfC qual scope s.heap.objs.size f cd :: outer
  ex:=[]
  calm:=true
  fn:=fun _=>true
  pn:=[]
  xe:=fun e s'=>wpAny (model P w) (A.deeper (envOfC qual scope s.heap.objs.size f cd)) (leaving (envOfC qual scope s.heap.objs.size f cd) e) (fun _ s''=>CX outer H s E e s'') (fun e' s''=>CX outer H s E e' s'') s'
theorem mi {sc:Scope} {n:Nat} {x:Str} (h:sc.names.lookup x=some .cell):∃ c,(cellsFrom n sc.names []).lookup x=some c:=by
  have q:=acb sc.names n [] (.inl h);exact abd.mp q
theorem jI {CX:CXT} {P:Program} {w:World} {K:aab} {mg:Str→Option Value} {base:Heap} {N ps:List Str} {qual:Str} {scope:Scope} {f:Addr} {cd:Value} {A:Around} {outer:List Env} {s s1:Shared} {H:Hp} {E:XK} {us:List Value} {vs:List V}
    (S:FnScope N ps scope) (hd:A.handled=none) (e0:Env0 P w K mg base A outer s H) (hl:vs.length=ps.length) (r:Vals vs us)
    (x:InCallC s s.heap.objs.size (bindL (envOfC qual scope s.heap.objs.size f cd).kindOf (ps.zip us) fun _=>none) (cellsFrom (s.heap.objs.size+1) scope.names []) (bindC (envOfC qual scope s.heap.objs.size f cd).kindOf (ps.zip us) fun _=>none) s1) :
    Inv (fH CX P w K mg base N qual scope f cd A outer s H E) [] (start N vs) H s1:=by
  have hpl:ps.length≤N.length:=by have:=congrArg List.length S.pre;rw [aaE] at this;lia
  obtain ⟨h1,tk,rfl,hk⟩:=x.done;have noA:∀ b:Addr,b∉(fH CX P w K mg base N qual scope f cd A outer s H E).ex:=fun b z=>absurd (show b∈([]:List Addr) from z) (by simp);refine ⟨⟨e0.mod,S.kind,rfl,rfl,aah _,fun y z c h1 h2=>?_,fun y hy=>?_,fun y c _ h=>?_,fun _=>hd,Around.frames_deeper e0.frames,.inr ⟨rfl,rfl⟩,fun b z=>absurd z (noA b),e0.bs,e0.bsz,fun b _ _=>noA b,fun b z=>absurd z (noA b),e0.funs,e0.frf⟩,
    rfl,e0.bare,Un.kept hk,⟨_,x.toInCall.ns,fun i y v h1 h2 h3=>?_⟩,fun y c h=>⟨_,x.cell y c h⟩,e0.hok.fresh (aah _),fun y c h=>?_,fun p hp=>absurd (show p∈([]:List (Addr × Obj)) from hp) (by simp),e0.hok.kept hk,?_⟩
  · exact name_of_addr x.apart (aa0 h1) (aa0 h2)
  · have hy:scope.names.lookup y=some .cell∨scope.names.lookup y=some .free:=hy;rcases hy with hy|hy
    · exact mi hy
    · exact absurd rfl (S.nofree _ (aa0 hy))
  · exact Nat.le_of_lt (x.above y c (aa0 h))
  · have hi:i < vs.length:=by
      unfold start at h2;by_cases hi:i < vs.length
      · exact hi
      · rw [List.getElem?_append_right (by simpa using hi)] at h2;rw [List.getElem?_replicate] at h2;split at h2 <;> cases h2
    have ha:vs[i]?=some v:=by
      unfold start at h2;rw [List.getElem?_append_left (by simpa using hi),aaU] at h2;cases e:vs[i]? with
      | none=>rw [e] at h2;cases h2
      | some a=>rw [e] at h2;cases h2;rfl
    obtain ⟨u,hu,rv⟩:=r.get ha;have hp:ps[i]?=some y:=by
      rw [← S.pre,abG (by lia)];exact h1
    have ndP:ps.Nodup:=by rw [← S.pre];exact S.nd.sublist (List.take_sublist _ _)
    refine ⟨u,rv,?_⟩;rcases S.par y (aaP hp) with k|k
    · exact .inl ⟨k,jR ndP hp hu k⟩
    · obtain ⟨c,e⟩:=mi (n:=s.heap.objs.size+1) k;refine .inr ⟨.inl k,c,e,?_⟩;have q:=x.cell y c e;rw [jT ndP hp hu (by show scope.names.lookup y≠_;rw [k];decide)] at q;exact q
  · exact e0.hok.fresh (Nat.le_of_lt (x.above y c (aa0 h)))
  · unfold start;show _=N.length;rw [aan,aak,acl];lia
theorem om {CX:CXT} {P:Program} {w:World} {K:aab} {mg:Str→Option Value} {base:Heap} {k:Nat} {f:Addr} {name qual:Str} {params:Arguments} {body:List Stmt} {scope:Scope} {dV kV doc pm cdv ct oc:Value} {an od:Option Addr}
    {osl:Array (Option Value)} {N ps:List Str} {sp:Sp} (lk:K.lookup f=some ⟨oc,od,.func (aaQ name qual params body scope dV kV doc pm an cdv ct),osl⟩) (hcd:abf K cdv qual=true) (S:FnScope N ps scope)
    (len:∀ vs H Q E,sp vs H Q E→vs.length=ps.length)
    (hbody:∀ (A:Around) (outer:List Env) (s:Shared) (H:Hp) (vs:List V) (Q:VK) (E:XK),Room k (A.deeper (envOfC qual scope s.heap.objs.size f cdv))→sp vs H Q E →
      ∃ t,PSs (fH CX P w K mg base N qual scope f cdv A outer s H E) body t∧t { nx:=fun _ H'=>Q .non H',rt:=Q } (start N vs) H) :
    FnOk P w K mg base CX (k+1) f (aaQ name qual params body scope dV kV doc pm an cdv ct) ps sp:=by
  refine ⟨len,fun A outer s H args us vs Q E hr e0 hb r hsp=>?_⟩;have hl:=len _ _ _ _ hsp;have KX:K.In s.heap:=e0.mod.kin.keeps fun b o e=>(e0.bs b o e).1;have lim:s.heap.NoLimit:=e0.mod.nolimit.keeps fun b o e=>(e0.bs b o e).1;have hkind:∀ y∈ps.zip us,scope.names.lookup y.1=some .local∨(scope.names.lookup y.1=some .cell∧((cellsFrom (s.heap.objs.size+1) scope.names []).lookup y.1).isSome=true):=fun ⟨n,v⟩ hy=>by
    rcases S.par n (List.of_mem_zip hy).1 with q|q
    · exact .inl q
    · exact .inr ⟨q,acb _ _ _ (.inl q)⟩
  refine codeAny_call_function hr.depth (KX _ _ lk) rfl S.co S.gen rfl (PySem.W.codeRec_of KX hcd) (hb _ _ _ _ ?_);refine wpAny_newFunctionEnv_cells S.kind hkind fun env he s1 x=>?_;subst he;refine ⟨lim.keeps x.toInCall.keep,codeAny_func ?_⟩;obtain ⟨t,ht,hq⟩:=hbody A outer s H vs Q E (hr.deeper _) hsp;have I:Inv (fH CX P w K mg base N qual scope f cdv A outer s H E) [] (start N vs) H s1:=jI S hr.hd e0 hl r x;refine wpAny_mono (ht [] s1 (start N vs) H _ I hq) (fun fl s' hs=>?_) fun e s' hs=>hs;have fin:∀ {σ':St} {H':Hp} {v:V} {u:Value},Inv (fH CX P w K mg base N qual scope f cdv A outer s H E) [] σ' H' s'→RelV v u→Q v H'→CE outer P w H s Q u s' :=
    fun {σ' H' v u} J rv q=>⟨v,H',J.os,J.bare,J.base,J.hok,rv,q⟩
  cases fl with
  | ret u =>
    obtain ⟨v,σ',H',J,rv,q⟩:=hs;exact fin J rv q
  | next =>
    obtain ⟨σ',H',J,q⟩:=hs;exact fin (v:=V.non) (u:=Value.none) J rfl q
  | brk =>
    obtain ⟨_,_,_,q⟩:=hs;exact aa7 q
  | cont =>
    obtain ⟨_,_,_,q⟩:=hs;exact aa7 q
open PySem PySem.Spec PyProof.Rows
section
variable {X:Cx} {x:Str} {p pos:Pos} {e:Expr} {es:List Expr} {t:TA} {id T:String} {r:List V→Hp→VK→Prop}
def tCB (r:List V→Hp→VK→Prop) (t:TA):TE:=fun σ H Q=>t σ H fun vs H1=>r vs H1 Q
theorem ak (hc:cz X (.builtin id) r) (hg:Gl X x) (hm:X.mg x=none) (hv:bootBuiltins x=some (.builtin id)) (ha:PA X (e :: es) t) (hn:x ≠ "__name__":=by decide) (hdb:(x == ("__debug__":Str))=false:=by decide)
    (he:starEach (e :: es) X.env=(false,eval e X.env) :: starEach es X.env:=by rfl) (hpl:(backTo pos (starEach es X.env)).any (·.1)=false:=by rfl):PE X (.Call (.Name x p) (e :: es) [] pos) (tCB r t):=by
  intro pins s σ H Q I h;refine wpAny_Call_Name_kw (gC I hg hm hv ?_ hn hdb);exact PyProof.Rows.callWith_builtin1 (thn (ha pos pins s σ H _ I h) fun us s1 ⟨vs,H1,I1,r1,q1⟩=>hc pins s1 σ H1 vs us Q I1 r1 q1) he hpl
theorem jv (hc:cz X (.type T) r) (hg:Gl X x) (hm:X.mg x=none) (hv:bootBuiltins x=some (.type T)) (ha:PA X (e :: es) t) (hn:x ≠ "__name__":=by decide) (hdb:(x == ("__debug__":Str))=false:=by decide)
    (he:starEach (e :: es) X.env=(false,eval e X.env) :: starEach es X.env:=by rfl) (hpl:(backTo pos (starEach es X.env)).any (·.1)=false:=by rfl):PE X (.Call (.Name x p) (e :: es) [] pos) (tCB r t):=by
  intro pins s σ H Q I h;refine wpAny_Call_Name_kw (gC I hg hm hv ?_ hn hdb);exact abV (thn (ha pos pins s σ H _ I h) fun us s1 ⟨vs,H1,I1,r1,q1⟩=>hc pins s1 σ H1 vs us Q I1 r1 q1) he hpl
end
end L2
namespace HT
open PySem PyProof.Rows
def lexLt:List Int→List Int→Bool
  | [],[]=>false
  | [],_ :: _=>true
  | _ :: _,[]=>false
  | x :: xs,y :: ys=>if x=y then lexLt xs ys else decide (x < y)
theorem mX (x y:Int) (xs ys:List Int):lexLt (x :: xs) (y :: ys)=if x=y then lexLt xs ys else decide (x < y):=rfl
theorem lexLt_nil_nil:lexLt [] []=false:=rfl
theorem iz (y:Int) (ys:List Int):lexLt [] (y :: ys)=true:=rfl
theorem iA (x:Int) (xs:List Int):lexLt (x :: xs) []=false:=rfl
theorem rp (A:Around) (s:Shared) (a:Int) (t:Tok) (c:Int) (u:Tok):∃ e,SeqAt.EqAt A s (.int a t) (.int c u) e∧(e=true↔a=c) :=
  ⟨(a == c),SeqAt.EqAt.int_int a t c u,by simp⟩
theorem qt (A:Around) (s:Shared) (a:Int) (t:Tok) (c:Int) (u:Tok) (prog:Program) (w:World) (E:Value→Shared→Prop) (Q:Value→Shared→Prop) (h:Q (.bool (decide (a < c))) s) :
    wpAny (model prog w) A (richCompare .Lt (.int a t) (.int c u)) Q E s :=
  (PyProof.Rows.lt_int h:wpAny (model prog w) A (compareOp .Lt (.int a t) (.int c u)) Q E s)
section
open PySem.SeqAt
open PySem.AutoSeq1 (wpAny_loadPart')
open PySem.MeetsSeq PySem.MeetsSeq2 PySem.MeetsSeq3
theorem iX (l b:Addr) (items items2:Array Value) (n n2:Nat) (dd dd2:Option Addr) (sl sl2:Array (Option Value)) (ns ms:List Int) (hi:IntsAre items.toList ns) (hj:IntsAre items2.toList ms) :
    Meets (Builtin.«tuple.__lt__» ⟨[.ref l,.ref b],[]⟩)
      (fun _ R s=>s.heap.get? l=some { cls:=.type "tuple",dict:=dd,data:=.seq items n,slots:=sl }∧s.heap.get? b=some { cls:=.type "tuple",dict:=dd2,data:=.seq items2 n2,slots:=sl2 } ∧
        R (.ok (.ret (.bool (lexLt ns ms)))) s) :=
  .of_wp fun prog w A R s h=>by
    obtain ⟨hp,g,d,tk,os⟩:=s;obtain ⟨hl,hb,h⟩:=h;have f2:=AutoSeq1.sub_tuple_tuple;have z1:items.size=ns.length:=by rw [← hi.length];simp
    have z2:items2.size=ms.length:=by rw [← hj.length];simp
    wp_walk using wpAny_loadPart' hl,wpAny_loadPart' hb,wpAny_forIn_list _ (fun df b s'=>b.1=none∧s'=⟨hp,g,d,tk,os⟩∧∃ (vs ws:List Value) (ns' ms':List Int),df=vs.zip ws ∧
      IntsAre vs ns'∧IntsAre ws ms'∧ns'.length+items2.size=ms'.length+items.size∧R (.ok (.ret (.bool (lexLt ns' ms')))) ⟨hp,g,d,tk,os⟩) _
    case turn =>
      rintro ⟨y,x⟩ df b s' ⟨hb',rfl,vs,ws,ns',ms',hz,hvi,hwi,hlen,hR⟩;cases hvi with
      | nil=>rw [List.zip_nil_left] at hz;cases hz
      | cons a t hvi' =>
        cases hwi with
        | nil=>rw [List.zip_nil_right] at hz;cases hz
        | cons c u hwi' =>
          rw [List.zip_cons_cons] at hz;injection hz with hyx hrest
          injection hyx with hy hx
          subst hy hx;rw [mX] at hR;simp only [aaD] at hlen;obtain ⟨e,he,hiff⟩:=rp A.in1 ⟨hp,g,d,tk,os⟩ a t c u;refine wpAny_bind (he prog w _ _ ?_);cases e with
          | true =>
            rw [if_pos (hiff.mp rfl)] at hR
            wp_walk
            exact ⟨rfl,rfl,_,_,_,_,hrest,hvi',hwi',by lia,hR⟩
          | false =>
            rw [if_neg (fun q=>absurd (hiff.mpr q) aae)] at hR;have hri:=qt A.in1 ⟨hp,g,d,tk,os⟩ a t c u prog w
            wp_walk using hri
            exact ⟨_,rfl,by simpa using hR⟩
    case fin =>
      rintro ⟨b1,b2⟩ s' ⟨hb',rfl,vs,ws,ns',ms',hz,hvi,hwi,hlen,hR⟩;simp only at hb';subst hb';have hv:lexLt ns' ms'=decide (items.size < items2.size):=by
        cases hvi with
        | nil =>
          cases hwi with
          | nil =>
            simp only [aba] at hlen;rw [lexLt_nil_nil];exact (decide_eq_false (by lia)).symm
          | cons c u hw =>
            simp only [aba,aaD] at hlen;rw [iz];exact (decide_eq_true (by lia)).symm
        | cons a t hv =>
          cases hwi with
          | nil =>
            simp only [aba,aaD] at hlen;rw [iA];exact (decide_eq_false (by lia)).symm
          | cons c u hw =>
            rw [List.zip_cons_cons] at hz;cases hz
      rw [hv] at hR
      wp_walk
      exact ⟨_,rfl,by simpa [Builtin.Tuple.tupleCompareSizes] using hR⟩
    case h =>
      exact ⟨rfl,rfl,items.toList,items2.toList,ns,ms,rfl,hi,hj,by lia,h⟩
end
section
variable {prog:Program} {w:World} {A:Around} {E:Value→Shared→Prop} {s:Shared}
theorem lt_tupInts {l b:Addr} {items items2:Array Value} {ns ms:List Int} {Q:Value→Shared→Prop} (hl:IsTup s.heap l items) (hb:IsTup s.heap b items2) (hi:IntsAre items.toList ns) (hj:IntsAre items2.toList ms)
    (hu:A.units < cLine) (h:Q (.bool (lexLt ns ms)) s):wpAny (model prog w) A (compareOp .Lt (.ref l) (.ref b)) Q E s:=by
  obtain ⟨⟨cls,dd,data,sl⟩,ho,hc,n,hd⟩:=id hl;obtain ⟨⟨cls2,dd2,data2,sl2⟩,ho2,hc2,n2,hd2⟩:=id hb;simp only at hc hd hc2 hd2;subst hc hd hc2 hd2;exact richCompare_meets_room (op:=.Lt) ⟨_,ho,rfl⟩ ⟨_,ho2,rfl⟩ PySem.F.slot_tuple_lt PySem.F.entry_tuple_lt (PySem.F.args_tuple_lt_2 _ _) (iX l b items items2 n n2 dd dd2 sl sl2 ns ms hi hj)
    ⟨ho,ho2,show Value.bool (lexLt ns ms)≠Value.notImplemented∧Q (.bool (lexLt ns ms)) s from ⟨(fun x=>nomatch x),h⟩⟩ hu
def sIx (n d:Nat):Option Int→Nat
  | none=>d
  | some v=>if v < 0 then (v+(n:Int)).toNat else min v.toNat n
end
end HT
namespace L2
open PySem PySem.Spec PyProof.Rows
abbrev TO:=St→Hp→(Option Int→Hp→Prop)→Prop
def PO (X:Cx) (e:Option Expr) (t:TO):Prop :=
  ∀ (pins:List (Addr × Obj)) (s:Shared) (σ:St) (H:Hp) (Q:Option Int→Hp→Prop),Inv X pins σ H s→t σ H Q →
    wpAny (model X.prog X.w) X.A (evalPart e X.env) (fun u s'=>∃ o H',Inv X pins σ H' s'∧IsPart u o∧Q o H') X.xe s
def rV:TO:=fun _ H Q=>Q none H
def u6 (t:TE):TO:=fun σ H Q=>t σ H fun x H1=>∃ i,x=.int i∧Q (some i) H1
theorem eQ {ns:List Int}:∀ {us:List Value},Vals (ns.map V.int) us→IntsAre us ns:=by
  induction ns with
  | nil=>intro us r;rw [abB] at r;cases r;exact .nil
  | cons n ns ih =>
    intro us r;rw [aaF] at r;cases r with
    | cons r1 r2 =>
      obtain ⟨t,e⟩:=r1;subst e;exact .cons n t (ih r2)
section
variable {X:Cx} {e:Expr} {te:TE} {lo hi:Option Expr} {tl th:TO} {pos p2:Pos}
theorem g0:PO X none rV:=by
  intro pins s σ H Q I h;rw [evalPart_none];exact wpAny_pure ⟨none,H,I,.none,h⟩
theorem gZ (h:PE X e te):PO X (some e) (u6 te):=by
  intro pins s σ H Q I hw;rw [evalPart_some];refine thn (h pins s σ H _ I hw) fun u s1 ⟨x,H1,I1,r1,q1⟩=>?_;obtain ⟨i,rfl,q⟩:=q1;obtain ⟨t,rfl⟩:=r1;exact ⟨some i,H1,I1,.int i t,q⟩
def SlR (X:Cx) (r:V→Option Int→Option Int→Hp→VK→Prop):Prop :=
  ∀ (pins:List (Addr × Obj)) (s:Shared) (σ:St) (H:Hp) (x:V) (v vl vu:Value) (lo hi:Option Int) (sl:Addr) (Q:VK),Inv X pins σ H s→RelV x v→s.heap.IsSliceOf sl vl vu .none→IsPart vl lo→IsPart vu hi→r x lo hi H Q →
    ∃ T id,typeLookup (.type T) "__getitem__" = pure (some (.builtin id))∧s.TypeIs v T∧wpAny (model X.prog X.w) X.A (getItem v (.ref sl)) (EP X pins σ Q) X.xe s
def tSl (r:V→Option Int→Option Int→Hp→VK→Prop) (te:TE) (tl th:TO):TE:=fun σ H Q=>te σ H fun x H1=>tl σ H1 fun l H2=>th σ H2 fun u H3=>r x l u H3 Q
theorem gg {r:V→Option Int→Option Int→Hp→VK→Prop} (hr:SlR X r) (he:PE X e te) (hl:PO X lo tl) (hu:PO X hi th):PE X (.Subscript e (.Slice lo hi none p2) pos) (tSl r te tl th):=by
  intro pins s σ H Q I h;refine Subscript_ (thn (he pins s σ H _ I h) fun v s1 ⟨x,H1,I1,r1,q1⟩=>?_);refine wpAny_Slice (thn (hl pins s1 σ H1 _ I1 q1) fun vl s2 ⟨l,H2,I2,pl,q2⟩=>thn (hu pins s2 σ H2 _ I2 q2) fun vu s3 ⟨u,H3,I3,pu,q3⟩=>?_);rw [evalPart_none];refine wpAny_pure ?_;have I4:Inv X pins σ H3 { s3 with heap:=s3.heap.push { cls:=.type "slice",data:=.fields #[vl,vu,.none] } }:=I3.kept (t':=s3.toks) fun b ob q=>aac _ q;obtain ⟨T,id,hT,ht,hg⟩:=hr pins { s3 with heap:=s3.heap.push { cls:=.type "slice",data:=.fields #[vl,vu,.none] } } σ H3 x v vl vu l u s3.heap.objs.size Q I4 r1 (Heap.IsSliceOf.new ..) pl pu q3;show wpAny (model X.prog X.w) X.A (subscriptTail e (.Slice lo hi none p2) v (.ref s3.heap.objs.size)) (EP X pins σ Q) X.xe { s3 with heap:=s3.heap.push { cls:=.type "slice",data:=.fields #[vl,vu,.none] } };exact tail_any (ops:=[.ref s3.heap.objs.size,v]) ht hT hg (by with_unfolding_all rfl)
def dR (xs:List V) (lo hi:Option Int):List V:=(xs.drop (HT.sIx xs.length 0 lo)).take (HT.sIx xs.length xs.length hi - HT.sIx xs.length 0 lo)
theorem me (xs:List V) (lo hi:Option Int):(dR xs lo hi).length≤xs.length:=by
  unfold dR;rw [aaE,abA];lia
end
open PySem PySem.Spec PyProof.Rows
def ixN (n:Nat) (i:Int):Option Nat:=if 0≤i then (if i < n then some i.toNat else none) else if -(n:Int)≤i then some (i+n).toNat else none
def atI {α:Type} (xs:List α) (i:Int):Option α:=(ixN xs.length i).bind fun j=>xs[j]?
theorem oh {n:Nat} {i:Int} {j:Nat} (h:ixN n i=some j):seqIndex? i n=some j∧j < n∧-(n:Int)≤i∧i < n:=by
  unfold ixN at h;by_cases h0:0≤i
  · rw [if_pos h0] at h;by_cases h1:i < n
    · rw [if_pos h1] at h;have e:i.toNat=j:=aaM h;exact ⟨by rw [seqIndex_of h0 h1,e],by lia,by lia,h1⟩
    · rw [if_neg h1] at h;cases h
  · rw [if_neg h0] at h;by_cases h1:-(n:Int)≤i
    · rw [if_pos h1] at h;have e:(i+n).toNat=j:=aaM h;exact ⟨by rw [seqIndex_neg (by lia) h1,e],by lia,h1,by lia⟩
    · rw [if_neg h1] at h;cases h
theorem kQ {α:Type} {xs:List α} {i:Int} {v:α} (h:atI xs i=some v):∃ j,seqIndex? i xs.length=some j∧xs[j]?=some v∧j < xs.length∧-(xs.length:Int)≤i∧i < xs.length:=by
  unfold atI at h;cases e:ixN xs.length i with
  | none=>rw [e] at h;cases h
  | some j =>
    rw [e] at h;obtain ⟨h1,h2,h3,h4⟩:=oh e;exact ⟨j,h1,h,h2,h3,h4⟩
theorem dn {α:Type} {xs:List α} {j:Nat} {v:α} (h:xs[j]?=some v):atI xs (j:Int)=some v:=by
  have hj:j < xs.length:=(aaj.mp h).1;have e:ixN xs.length (j:Int)=some j:=by
    unfold ixN;rw [if_pos (by lia),if_pos (by lia)];simp
  unfold atI;rw [e];exact h
def sU (b:Expr):Prop:=∀ o i,subscripted b false o i=operate [o,i] (getItem o i)
def IxR (X:Cx) (r:R2):Prop :=
  ∀ (value slice:Expr) (pins:List (Addr × Obj)) (s:Shared) (σ:St) (H:Hp) (x y:V) (v u:Value) (Q:VK),Inv X pins σ H s→RelV x v→RelV y u→r x y H Q →
    subscripted slice false v u=operate [v,u] (getItem v u)→wpAny (model X.prog X.w) X.A (subscriptTail value slice v u) (EP X pins σ Q) X.xe s
def MtR (X:Cx) (id:String) (r:V→List V→Hp→VK→Prop):Prop :=
  ∀ (pins:List (Addr × Obj)) (s:Shared) (σ:St) (H:Hp) (x:V) (xs:List V) (v:Value) (us:List Value) (Q:VK),Inv X pins σ H s→RelV x v→Vals xs us→r x xs H Q →
    wpAny (model X.prog X.w) X.A (call (.builtin id) (v :: us)) (EP X pins σ Q) X.xe s
section
variable {X:Cx} {a b:Expr} {ta tb:TE} {pos:Pos}
theorem aK {r:R2} (hr:IxR X r) (ha:PE X a ta) (hb:PE X b tb) (hs:sU b):PE X (.Subscript a b pos) (tOp r ta tb):=by
  intro pins s σ H Q I h;exact Subscript_ (uS ha hb I h fun v u s2 x y H2 I2 rx ry q=>hr a b pins s2 σ H2 x y v u Q I2 rx ry q (hs _ _))
def wu (K:aab):R2:=fun x y H Q=>∃ p xs i v,x=.ref p∧y=.int i∧SqL K H p xs∧atI xs i=some v∧Q v H
def tW (K:aab):R2:=fun x y H Q=>∃ p xs i v,x=.ref p∧y=.int i∧SqT K H p xs∧atI xs i=some v∧Q v H
def wt:R2:=fun x y H Q=>∃ z i c,x=.str z∧y=.int i∧z.length≤sizeLine∧atI z.cps.toList i=some c∧Q (.str ⟨#[c]⟩) H
theorem aQ:IxR X (wu X.K):=by
  intro value slice pins s σ H x y v u Q I rx ry h hs;obtain ⟨p,xs,i,z,rfl,rfl,hq,he,q⟩:=h;cases rx;obtain ⟨t,rfl⟩:=ry;obtain ⟨its,r,pl,hz⟩:=I.list hq;obtain ⟨j,h1,h2,h3,h4,h5⟩:=kQ he;obtain ⟨w,ew,rw'⟩:=r.get h2;have hl:=r.length;have hn:=fV;have fin:EP X pins σ Q w s:=⟨z,H,I,rw',q⟩
  by_cases h0:0≤i
  · have hj:i.toNat=j:=by
      rw [seqIndex_of h0 h5] at h1;exact aaM h1
    exact item_listR pl.isList h0 (by lia) (by rw [hj];simpa using ew) fin hs
  · have hj:(i+(its.toArray.size:Int)).toNat=j:=by
      rw [seqIndex_neg (by lia) h4] at h1;rw [aaf,← hl];exact aaM h1
    exact subscriptTail_builtinR (x:=w) pl.isList.typeIs slot_list_getitem.lookup
      (wpAny_getItem_list_neg (Q:=fun r s'=>r=w∧EP X pins σ Q r s') pl.isList (by lia) (by rw [aaf] <;> lia) (by lia) (by rw [hj];simpa using ew) ⟨rfl,fin⟩) hs
theorem cN:IxR X (tW X.K):=by
  intro value slice pins s σ H x y v u Q I rx ry h hs;obtain ⟨p,xs,i,z,rfl,rfl,hq,he,q⟩:=h;cases rx;obtain ⟨t,rfl⟩:=ry;obtain ⟨its,r,pl,hz⟩:=I.tuple hq;obtain ⟨j,h1,h2,h3,h4,h5⟩:=kQ he;obtain ⟨w,ew,rw'⟩:=r.get h2;have hl:=r.length;have hn:=fV;have fin:EP X pins σ Q w s:=⟨z,H,I,rw',q⟩
  exact subscriptTail_builtinR (x:=w) pl.typeIs slot_tuple_getitem.lookup
    (getItem_tuple (j:=j) (Q:=fun r s'=>r=w∧EP X pins σ Q r s') pl (by lia) (by lia) (by rw [aaf,← hl];exact h1) (by simpa using ew) ⟨rfl,fin⟩) hs
theorem uK:IxR X wt:=by
  intro value slice pins s σ H x y v u Q I rx ry h hs;obtain ⟨z,i,c,rfl,rfl,hz,he,q⟩:=h;obtain ⟨t,rfl⟩:=rx;obtain ⟨t',rfl⟩:=ry;obtain ⟨j,h1,h2,h3,h4,h5⟩:=kQ he;have hl:z.cps.toList.length=z.length:=by simp [Str.length]
  rw [hl] at h1 h4 h5;have hn:=fV;exact tail_any (typeIs_str s z t) slot_str_getitem.lookup (getItem_str (c:=c) (by
    have e1:decide (i < -(2 ^ 63:Int))=false:=decide_eq_false (by lia);have e2:decide (i ≥ 2 ^ 63)=false:=decide_eq_false (by lia);rw [e1,e2,Bool.or_false]) (by rw [h1];simpa using h2) ⟨.str ⟨#[c]⟩,H,I.tok _,⟨_,rfl⟩,q⟩) hs
theorem mW (its:List Value) (n j:Nat) (u:Value):aa5 (·.setIfInBounds j u) { cls:=.type "list",data:=.seq its.toArray n }={ cls:=.type "list",data:=.seq (its.set j u).toArray n }:=by
  simp [aa5]
theorem Inv.lst {pins:List (Addr × Obj)} {σ:St} {H:Hp} {s:Shared} {p:Addr} {xs:List V} (I:Inv X pins σ H s) (h:H p=some (.lst xs)) :
    ∃ (its:List Value) (n:Nat),Vals xs its∧s.heap.get? p=some { cls:=.type "list",data:=.seq its.toArray n }∧xs.length≤sizeLine:=by
  obtain ⟨z,its,n,r,e⟩:=I.hok p _ h;exact ⟨its,n,r,e,z⟩
theorem Inv.lstUpd {pins:List (Addr × Obj)} {σ:St} {H:Hp} {s:Shared} {p:Addr} {xs ys:List V} {its its':List Value} {n n':Nat} {f:Obj→Obj} (I:Inv X pins σ H s) (h:H p=some (.lst xs))
    (ho:s.heap.get? p=some { cls:=.type "list",data:=.seq its.toArray n }) (hf:f { cls:=.type "list",data:=.seq its.toArray n }={ cls:=.type "list",data:=.seq its'.toArray n' }) (r:Vals ys its') (hz:ys.length≤sizeLine) (t:Nat) :
    Inv X pins σ (upd H p (.lst ys)) { s with heap:=s.heap.update p f,toks:=t }:=by
  have e:(s.heap.update p f).get? p=some { cls:=.type "list",data:=.seq its'.toArray n' }:=by
    rw [Heap.get?_update_self f ho (by rw [hf] <;> rfl),hf]
  refine I.write (x:=p) (e:=p) (by rw [h];trivial) (.inl rfl) (fun b u hb q=>(Heap.get?_update_other _ _ (abt hb)).trans q) ⟨_,e⟩ ?_;exact ⟨hz,its',n',r,e⟩
def vh:V→V→V→Hp→(Hp→Prop)→Prop:=fun o i v H Q=>∃ p xs k j,o=.ref p∧i=.int k∧H p=some (.lst xs)∧ixN xs.length k=some j∧Q (upd H p (.lst (xs.set j v)))
theorem li:vP X vh:=by
  intro pins s σ H o i v ov iv u Q I ro ri rv h;obtain ⟨p,xs,k,j,rfl,rfl,hp,hj,q⟩:=h;cases ro;obtain ⟨t,rfl⟩:=ri;obtain ⟨its,n,r,ho,hz⟩:=I.lst hp;obtain ⟨h1,h2,h3,h4⟩:=oh hj;have hl:=r.length;have hn:=fV;have I':Inv X pins σ (upd H p (.lst (xs.set j v))) { s with heap:=s.heap.update p (aa5 (·.setIfInBounds j u)) } :=
    I.lstUpd hp ho (mW its n j u) (r.set rv j) (by rw [List.length_set];exact hz) s.toks
  by_cases h0:0≤k
  · have hk:k.toNat=j:=by
      rw [seqIndex_of h0 h4] at h1;exact aaM h1
    exact PySem.W.ki_setAt ho h0 (by lia) (by rw [aaf,← hl];exact h4) (by rw [hk];exact ⟨_,I',q⟩)
  · have hk:(k+(its.toArray.size:Int)).toNat=j:=by
      rw [seqIndex_neg (by lia) h3] at h1;rw [aaf,← hl];exact aaM h1
    exact PySem.W.ki_setBack ho (by lia) (by rw [aaf,← hl];exact h3) (by lia) (by rw [hk];exact ⟨_,I',q⟩)
theorem j_ (lo hi:Option Int) (n:Nat):(sliceBounds lo hi none n).1=((HT.sIx n 0 lo:Nat):Int)∧(sliceBounds lo hi none n).2.1=((HT.sIx n n hi:Nat):Int)∧(sliceBounds lo hi none n).2.2=1:=by
  refine ⟨?_,?_,rfl⟩
  · cases lo with
    | none=>simp [sliceBounds,HT.sIx]
    | some i =>
      simp only [sliceBounds,HT.sIx,Option.getD_none,show (1:Int) > 0 by decide,if_true];by_cases h:i < 0
      · simp only [h,if_true] <;> lia
      · simp only [h,if_false] <;> lia
  · cases hi with
    | none=>simp [sliceBounds,HT.sIx]
    | some i =>
      simp only [sliceBounds,HT.sIx,Option.getD_none,show (1:Int) > 0 by decide,if_true];by_cases h:i < 0
      · simp only [h,if_true] <;> lia
      · simp only [h,if_false] <;> lia
theorem iY (its:List Value) (lo hi:Option Int):slicePick its.toArray lo hi none=((its.drop (HT.sIx its.length 0 lo)).take (HT.sIx its.length its.length hi - HT.sIx its.length 0 lo)).toArray:=by
  obtain ⟨h1,h2,h3⟩:=j_ lo hi its.toArray.size;unfold slicePick;rw [h1,h2,h3];simp only [sliceRange_one,pick_run,aaf] <;> rfl
def wn (K:aab):V→Option Int→Option Int→Hp→VK→Prop:=fun x lo hi H Q=>∃ a xs,x=.ref a∧SqL K H a xs∧∀ p,H p=none→Q (.ref p) (upd H p (.lst (dR xs lo hi)))
theorem gX:SlR X (wn X.K):=by
  intro pins s σ H x v vl vu lo hi sl Q I rx hs pl pu h;obtain ⟨a,xs,rfl,hx,q⟩:=h;cases rx;obtain ⟨its,r,ht,hz⟩:=I.list hx;have hlen:=r.length;refine ⟨"list",_,slot_list_getitem.lookup,ht.isList.typeIs,?_⟩;refine wpAny_getItem_list_slice ht.isList hs pl pu .none (by simp) ?_ (by rw [aaf] <;> lia);rw [iY,← hlen];refine ⟨.ref s.heap.objs.size,_,I.laid (t':=s.toks) (o:=.lst (dR xs lo hi)) (fun b ob q=>aac _ q) (aah _) ?_,rfl,q _ (I.hok.fresh (aah _))⟩;exact ⟨aaK (me xs lo hi) hz,_,0,(r.drop (HT.sIx xs.length 0 lo)).take (HT.sIx xs.length xs.length hi - HT.sIx xs.length 0 lo),aap _ rfl⟩
def dQ:V→Bool
  | .non=>true
  | .bl _=>true
  | .int _=>true
  | .str _=>true
  | _=>false
def eqV:V→V→Bool
  | .non,.non=>true
  | .bl a,.bl b=>a == b
  | .bl a,.int b=>(if a then 1 else 0) == b
  | .int a,.bl b=>a == (if b then 1 else 0)
  | .int a,.int b=>a == b
  | .str a,.str b=>a == b
  | _,_=>false
theorem rq {A:Around} {s:Shared} {y x:V} {u v:Value} (ry:RelV y u) (rx:RelV x v) (fy:dQ y=true) (fx:dQ x=true):SeqAt.EqAt A s u v (eqV y x):=by
  cases y with
  | non =>
    cases ry;cases x with
    | non=>cases rx;exact SeqAt.EqAt.same _
    | bl b=>cases rx;exact SeqAt.EqAt.none_bool b
    | int b=>obtain ⟨t,rfl⟩:=rx;exact SeqAt.EqAt.none_int b t
    | str b=>obtain ⟨t,rfl⟩:=rx;exact SeqAt.EqAt.none_str b t
    | _=>exact absurd (show false=true from fx) aae
  | bl a =>
    cases ry;cases x with
    | non=>cases rx;exact SeqAt.EqAt.bool_none a
    | bl b=>cases rx;exact SeqAt.EqAt.bool_bool a b
    | int b=>obtain ⟨t,rfl⟩:=rx;exact SeqAt.EqAt.bool_int a b t
    | str b=>obtain ⟨t,rfl⟩:=rx;exact SeqAt.EqAt.bool_str a b t
    | _=>exact absurd (show false=true from fx) aae
  | int a =>
    obtain ⟨t',rfl⟩:=ry;cases x with
    | non=>cases rx;exact SeqAt.EqAt.int_none a t'
    | bl b=>cases rx;exact SeqAt.EqAt.int_bool a t' b
    | int b=>obtain ⟨t,rfl⟩:=rx;exact SeqAt.EqAt.int_int a t' b t
    | str b=>obtain ⟨t,rfl⟩:=rx;exact SeqAt.EqAt.int_str a t' b t
    | _=>exact absurd (show false=true from fx) aae
  | str a =>
    obtain ⟨t',rfl⟩:=ry;cases x with
    | non=>cases rx;exact SeqAt.EqAt.str_none a t'
    | bl b=>cases rx;exact SeqAt.EqAt.str_bool a t' b
    | int b=>obtain ⟨t,rfl⟩:=rx;exact SeqAt.EqAt.str_int a t' b t
    | str b=>obtain ⟨t,rfl⟩:=rx;exact SeqAt.EqAt.str_str a t' b t
    | _=>exact absurd (show false=true from fx) aae
  | _=>exact absurd (show false=true from fy) aae
def eqU (x:V) (u:Value):Bool:=match u with
  | .none=>eqV .non x
  | .bool b=>eqV (.bl b) x
  | .int i _=>eqV (.int i) x
  | .str z _=>eqV (.str z) x
  | _=>false
theorem rn {x y:V} {u:Value} (r:RelV y u) (f:dQ y=true):eqU x u=eqV y x:=by
  cases y with
  | non=>cases r;rfl
  | bl b=>cases r;rfl
  | int i=>obtain ⟨t,rfl⟩:=r;rfl
  | str z=>obtain ⟨t,rfl⟩:=r;rfl
  | _=>exact absurd (show false=true from f) aae
theorem kR {x:V}:∀ {xs:List V} {us:List Value},Vals xs us→xs.all dQ=true→us.any (eqU x)=xs.any fun y=>eqV y x
  | _,_,.nil,_=>rfl
  | y :: xs,u :: us,.cons r t,f=>by
    rw [List.all_cons,abz] at f;rw [ab3,ab3,rn r f.1,kR t f.2]
theorem iy {A:Around} {s:Shared} {x:V} {v:Value} (rx:RelV x v) (fx:dQ x=true):∀ {xs:List V} {us:List Value},Vals xs us→xs.all dQ=true→∀ u∈us,SeqAt.EqAt A s u v (eqU x u)
  | _,_,.nil,_=>fun u hu=>by cases hu
  | y :: xs,u :: us,.cons r t,f=>fun u' hu=>by
    rw [List.all_cons,abz] at f;rcases aai.mp hu with rfl|hu
    · rw [rn r f.1];exact rq r rx f.1 fx
    · exact iy rx fx t f.2 u' hu
def inV (x:V) (xs:List V):Bool:=xs.any fun y=>eqV y x
def rIn (K:aab) (neg:Bool):R2:=fun x y H Q=>∃ p xs,y=.ref p∧(SqL K H p xs∨SqT K H p xs)∧dQ x=true∧xs.all dQ=true∧Q (.bl (if neg then !inV x xs else inV x xs)) H
theorem gz:OpR X (compareOp .In) (rIn X.K false):=by
  intro pins s σ H x y v u Q I rx ry h;obtain ⟨p,xs,rfl,hq,fx,fs,q⟩:=h;cases ry;rcases hq with hq|hq
  · obtain ⟨its,r,pl,hz⟩:=I.list hq;refine SeqAt.in_listAt (eqU x) pl.isList (fun w hw=>iy rx fx r fs w (by simpa using hw)) ⟨.bl _,H,I,rfl,?_⟩;rw [show its.toArray.any (eqU x)=its.any (eqU x) by simp,kR r fs];exact q
  · obtain ⟨its,r,pl,hz⟩:=I.tuple hq;refine SeqAt.in_tupleAt (eqU x) pl (fun w hw=>iy rx fx r fs w (by simpa using hw)) ⟨.bl _,H,I,rfl,?_⟩;rw [show its.toArray.any (eqU x)=its.any (eqU x) by simp,kR r fs];exact q
theorem aI:cz X (.builtin "len") (fun xs H Q=>∃ p ys,xs=[.ref p]∧(SqL X.K H p ys∨SqT X.K H p ys)∧Q (.int ys.length) H):=by
  intro pins s σ H xs us Q I r h;obtain ⟨p,ys,rfl,hq,q⟩:=h;obtain ⟨u,rfl,rx⟩:=dg r;cases rx;have hn:=fV;rcases hq with hq|hq
  · obtain ⟨its,r',pl,hz⟩:=I.list hq;have hlen:=r'.length;exact Calls.call_len_list pl.isList (by simp only [aaf] <;> lia) ⟨.int ys.length,H,I.tok _,⟨s.toks+1,by rw [aaf,hlen]⟩,q⟩
  · obtain ⟨its,r',pl,hz⟩:=I.tuple hq;have hlen:=r'.length;exact len_tuple pl (by simp only [aaf] <;> lia) ⟨.int ys.length,H,I.tok _,⟨s.toks+1,by rw [aaf,hlen]⟩,q⟩
theorem gm:cz X (.builtin "len") (fun xs H Q=>∃ z,xs=[.str z]∧z.length≤sizeLine∧Q (.int z.length) H):=by
  intro pins s σ H xs us Q I r h;obtain ⟨z,rfl,hz,q⟩:=h;obtain ⟨u,rfl,t,rfl⟩:=dg r;have hn:=fV;exact len_str (by lia) ⟨.int z.length,H,I.tok _,⟨_,rfl⟩,q⟩
theorem jm:cz X (.type "tuple") (fun xs H Q=>∃ p ys,xs=[.ref p]∧((SqL X.K H p ys∧∀ l,H l=none→Q (.ref l) (upd H l (.tup ys)))∨(SqT X.K H p ys∧Q (.ref p) H))):=by
  intro pins s σ H xs us Q I r h;obtain ⟨p,ys,rfl,h⟩:=h;obtain ⟨u,rfl,rx⟩:=dg r;cases rx;rcases h with ⟨hq,q⟩|⟨hq,q⟩
  · obtain ⟨its,r',pl,hz⟩:=I.list hq;have hlen:=r'.length;refine call_tuple_list pl.isList (fun h' kp=>?_) (by simp only [aaf] <;> lia);have I1:Inv X pins σ H { s with heap:=h' }:=I.kept (t':=s.toks) kp;have I2:Inv X pins σ (upd H h'.objs.size (.tup ys)) { s with heap:=h'.push { cls:=.type "tuple",data:=.seq its.toArray } } :=
      I1.laid (t':=s.toks) (fun b o e=>aac _ e) (aah _) (show ObjOk X.prog X.w _ _ _ (.tup ys) from ⟨hz,its,r',IsTup.new _ _⟩)
    exact ⟨.ref h'.objs.size,_,I2,rfl,q _ (I1.hok.fresh (aah _))⟩
  · obtain ⟨its,r',pl,hz⟩:=I.tuple hq;exact call_tuple_same pl ⟨.ref p,H,I,rfl,q⟩
def tyV (K:aab) (T:String) (x:V) (H:Hp):Prop:=match x with
  | .str _=>T = "str"
  | .int _=>T = "int"
  | .ref p=>(T = "list"∧∃ xs,SqL K H p xs)∨(T = "tuple"∧∃ o,K.lookup p=some o∧o.cls=.type "tuple"∧o.dict=none) ∨
      (T = "dict"∧((∃ kvs,H p=some (.dK kvs))∨∃ kvs,H p=some (.dT kvs)))∨(T = "set"∧∃ S n,H p=some (.set S n))
  | _=>False
theorem qd {pins:List (Addr × Obj)} {σ:St} {H:Hp} {s:Shared} {T:String} {x:V} {v:Value} (I:Inv X pins σ H s) (r:RelV x v) (ty:tyV X.K T x H) :
    s.TypeIs v T∧∀ a,v=.ref a→∃ ob,s.heap.get? a=some ob∧ob.dict=none:=by
  cases x with
  | str z =>
    obtain ⟨t,rfl⟩:=r;cases (show T = "str" from ty);exact ⟨typeIs_str s z t,fun _ e=>nomatch e⟩
  | int i =>
    obtain ⟨t,rfl⟩:=r;cases (show T = "int" from ty);exact ⟨typeIs_int s i t,fun _ e=>nomatch e⟩
  | ref p =>
    cases r;rcases ty with ⟨rfl,xs,hq⟩|⟨rfl,o,hk,hc,hd⟩|⟨rfl,hk⟩|⟨rfl,S,n,hk⟩
    · obtain ⟨its,_,pl,_⟩:=I.list hq;refine ⟨pl.isList.typeIs,fun a e=>?_⟩;cases e;obtain ⟨o,n,e,c,hd,_⟩:=pl;exact ⟨o,e,hd⟩
    · refine ⟨⟨o,I.kIn p o hk,hc⟩,fun a e=>?_⟩;cases e;exact ⟨o,I.kIn _ o hk,hd⟩
    · have z:∃ o,s.heap.get? p=some o∧o.ExactDict:=by
        rcases hk with ⟨kvs,hk⟩|⟨kvs,hk⟩
        · obtain ⟨_,_,_,_,o,_,_,e,ex,_⟩:=I.hok p _ hk;exact ⟨o,e,ex⟩
        · obtain ⟨_,_,_,_,o,_,_,e,ex,_⟩:=I.hok p _ hk;exact ⟨o,e,ex⟩
      obtain ⟨o,e,ex⟩:=z;refine ⟨⟨o,e,ex.1⟩,fun a e2=>?_⟩;cases e2;exact ⟨o,e,ex.2.1⟩
    · obtain ⟨o,_,_,_,e,ex,_⟩:=I.hok p _ hk;refine ⟨⟨o,e,ex.1⟩,fun a e2=>?_⟩;cases e2;exact ⟨o,e,ex.2.1⟩
  | _=>exact aa7 ty
def wf (K:aab) (T:String) (r:V→List V→Hp→VK→Prop) (to:TE):TE:=fun σ H Q=>to σ H fun x H1=>tyV K T x H1∧r x [] H1 Q
def tBM (K:aab) (T:String) (r:V→List V→Hp→VK→Prop) (to:TE) (t:TA):TE:=fun σ H Q=>to σ H fun x H1=>tyV K T x H1∧t σ H1 fun xs H2=>r x xs H2 Q
variable {o e:Expr} {es:List Expr} {to:TE} {t:TA} {name:Str} {apos cpos:Pos} {T id:String} {r:V→List V→Hp→VK→Prop}
theorem ui (pa:PlainAttrs T) (slot:Slot T name id) (hty:typeOf (.builtin id)=pure (.type "method_descriptor")) (hm:MtR X id r) (ho:PE X o to)
    (hbase:attributeBase o name X.env (eval o X.env)=eval o X.env:=by rfl) (hline:(apos.endLine == cpos.line)=true:=by rfl):PE X (.Call (.Attribute o name apos) [] [] cpos) (wf X.K T r to):=by
  intro pins s σ H Q I h;refine wpAny_Call_method0_late hbase hline (thn (ho pins s σ H _ I h) fun v s1 ⟨x,H1,I1,r1,ty,q1⟩=>?_);obtain ⟨h1,h2⟩:=qd I1 r1 ty;exact ⟨T,id,pa,slot,hty,h1,h2,abO rfl (PySem.evalArgs_none (hm pins s1 σ H1 x [] v [] Q I1 r1 .nil q1))⟩
theorem fJ (pa:PlainAttrs T) (slot:Slot T name id) (hty:typeOf (.builtin id)=pure (.type "method_descriptor")) (hm:MtR X id r) (ho:PE X o to) (ha:PA X (e :: es) t)
    (hbase:attributeBase o name X.env (eval o X.env)=eval o X.env:=by rfl)
    (hfew:((backTo cpos (starEach (e :: es) X.env)).all (fun x=>!x.1) && (backToKw cpos (keywordEach [] X.env)).all (fun x=>x.1.isSome)
      && decide ((e :: es).length+([]:List Keyword).length+(if ([]:List Keyword).isEmpty then 0 else 1) < 30))=true:=by rfl)
    (hline:(apos.endLine == cpos.line)=true:=by rfl) (hs:starEach (e :: es) X.env=(false,eval e X.env) :: starEach es X.env:=by rfl) (hplain:(backTo cpos (starEach es X.env)).any (·.1)=false:=by rfl) :
    PE X (.Call (.Attribute o name apos) (e :: es) [] cpos) (tBM X.K T r to t):=by
  intro pins s σ H Q I h;refine wpAny_Call_method_late hbase hfew hline rfl (thn (ho pins s σ H _ I h) fun v s1 ⟨x,H1,I1,r1,ty,q1⟩=>?_);obtain ⟨h1,h2⟩:=qd I1 r1 ty;refine ⟨T,id,pa,slot,hty,h1,h2,?_⟩;have hA:=ha cpos pins s1 σ H1 _ I1 q1;rw [hs] at hA ⊢;refine abO (by show (false || (backTo cpos (starEach es X.env)).any (·.1))=false;rw [hplain] <;> rfl) (Calls.evalArgs_plain ?_);exact thn hA fun us s2 ⟨vs,H2,I2,r2,q2⟩=>hm pins s2 σ H2 x vs v us Q I2 r1 r2 q2
end
open PySem PySem.Spec PyProof.Rows
def MtM (X:Cx) (id:String) (r:V→List V→Hp→VK→Prop):Prop :=
  ∀ (pins:List (Addr × Obj)) (s:Shared) (σ:St) (H:Hp) (x:V) (xs:List V) (v:Value) (us:List Value) (Q:VK),Inv X pins σ H s→RelV x v→Vals xs us→r x xs H Q →
    wpAny (model X.prog X.w) X.A (call (.builtin id) (v :: us)) (EP X pins σ Q) X.xe s
theorem Vals.one:∀ {x:V} {us:List Value},Vals [x] us→∃ u,us=[u]∧RelV x u
  | _,_,.cons r .nil=>⟨_,rfl,r⟩
theorem Vals.zero:∀ {us:List Value},Vals [] us→us=[]
  | _,.nil=>rfl
theorem Vals.dropLast {xs:List V} {us:List Value} (h:Vals xs us):Vals xs.dropLast us.dropLast:=by
  induction h with
  | nil=>exact .nil
  | cons r t ih =>
    cases t with
    | nil=>exact .nil
    | cons q t'=>exact .cons r ih
theorem Vals.rep {xs:List V} {us:List Value} (h:Vals xs us):∀ k:Nat,Vals (aaw k xs).flatten (aaw k us).flatten
  | 0=>.nil
  | k+1=>by
    rw [abK,abK,ach,ach];exact Vals.append h (Vals.rep h k)
theorem nq {α:Type} (l:List α):l.eraseIdx (l.length - 1)=l.dropLast:=by
  induction l with
  | nil=>rfl
  | cons a r ih =>
    cases r with
    | nil=>rfl
    | cons b r =>
      have e:(a :: b :: r).length - 1=((b :: r).length - 1)+1:=by
        have h1:(a :: b :: r).length=r.length+2:=rfl;have h2:(b :: r).length=r.length+1:=rfl;lia
      rw [e,List.eraseIdx_cons_succ,ih]
      all_goals rfl
theorem jN (its:List Value):∀ (k:Nat) (acc:List Value),
    List.foldl (fun x1 x2=>x1++x2) acc.toArray (aaw k its.toArray)=(acc++(aaw k its).flatten).toArray
  | 0,acc=>by simp
  | k+1,acc=>by
    have e:acc.toArray++its.toArray=(acc++its).toArray:=by simp
    have e2:(acc++its)++(aaw k its).flatten=acc++(aaw (k+1) its).flatten:=by
      rw [abK,ach,abF]
    rw [← e2,← jN its k (acc++its),← e,abK,List.foldl_cons]
section
variable {X:Cx} {pins:List (Addr × Obj)} {σ:St} {H:Hp} {s:Shared} {l b:Addr} {xs ys zs:List V}
theorem Inv.lset {its its':List Value} {n:Nat} {f:Array Value→Array Value} {t':Nat} (I:Inv X pins σ H s) (hH:H l=some (.lst xs))
    (e:s.heap.get? l=some { cls:=.type "list",data:=.seq its.toArray n }) (hf:f its.toArray=its'.toArray) (hv:Vals ys its') (hz:ys.length≤sizeLine) :
    Inv X pins σ (upd H l (.lst ys)) { s with heap:=s.heap.update l (aa5 f),toks:=t' }:=by
  have q:=PySem.IsL.update e f;rw [hf] at q;refine I.write (x:=l) (e:=l) (by rw [hH];exact trivial) (.inl rfl) (fun b' u hb hu=>(Heap.get?_update_other s.heap (aa5 f) (abt hb)).trans hu) ⟨_,q⟩ ?_;exact ⟨hz,its',_,hv,q⟩
theorem Inv.lnew {its:List Value} {t':Nat} (I:Inv X pins σ H s) (hv:Vals ys its) (hz:ys.length≤sizeLine) :
    Inv X pins σ (upd H s.heap.objs.size (.lst ys)) { s with heap:=s.heap.push { cls:=.type "list",data:=.seq its.toArray },toks:=t' } :=
  I.laid (fun _ _ q=>aac _ q) (aah _) ⟨hz,its,0,hv,aap _ rfl⟩
theorem Inv.fresh (I:Inv X pins σ H s):H s.heap.objs.size=none:=I.hok.fresh (aah _)
theorem Inv.lstM (I:Inv X pins σ H s) (hH:H l=some (.lst xs)):xs.length≤sizeLine∧∃ (its:List Value) (n:Nat),Vals xs its∧xs.length=its.length∧s.heap.get? l=some { cls:=.type "list",data:=.seq its.toArray n }:=by
  obtain ⟨z,its,n,r,e⟩:=I.hok l _ hH;exact ⟨z,its,n,r,r.length,e⟩
theorem qL {n:Nat} (h:n≤sizeLine):ab1 n=false:=by
  unfold ab1;exact decide_eq_false (by lia)
end
section
variable {X:Cx}
def se:V→List V→Hp→VK→Prop:=fun x vs H Q=>∃ l xs y,x=.ref l∧vs=[y]∧H l=some (.lst xs)∧xs.length < sizeLine∧Q .non (upd H l (.lst (xs++[y])))
theorem cg:MtM X "list.append" se:=by
  intro pins s σ H x vs v us Q I rx rv h;obtain ⟨l,xs,y,rfl,rfl,hH,hz,q⟩:=h;cases rx;obtain ⟨u,rfl,ru⟩:=rv.one;obtain ⟨z,its,n,r,hl,e⟩:=I.lstM hH;refine call_meets F.slot_list_append ⟨_,e,rfl⟩ F.entry_list_append (F.args_list_append_2 _ _) (PySem.list_append l its.toArray n u (by rw [aaf];lia)) ⟨e,?_⟩;refine ⟨.non,_,I.lset (its':=its++[u]) hH e (by simp) (r.append (.cons ru .nil)) ?_,rfl,q⟩;rw [aan,abm];lia
def wq:V→List V→Hp→VK→Prop:=fun x vs H Q=>∃ l xs y,x=.ref l∧vs=[]∧H l=some (.lst xs)∧xs[xs.length - 1]?=some y∧Q y (upd H l (.lst xs.dropLast))
theorem uA:MtM X "list.pop" wq:=by
  intro pins s σ H x vs v us Q I rx rv h;obtain ⟨l,xs,y,rfl,rfl,hH,hy,q⟩:=h;cases rx;have hus:=rv.zero;subst hus;obtain ⟨z,its,n,r,hl,e⟩:=I.lstM hH;obtain ⟨u,hu,ru⟩:=r.get hy;have hy':its.toArray[its.toArray.size - 1]?=some u:=by
    show its.toArray[its.length - 1]?=some u;rw [← Array.getElem?_toList,← hl];exact hu
  refine call_meets F.slot_list_pop ⟨_,e,rfl⟩ F.entry_list_pop (F.args_list_pop_1 _) (MeetsSeq.list_pop_last l its.toArray n u hy' (by rw [aaf];lia)) ⟨e,?_⟩;refine ⟨y,_,I.lset (its':=its.dropLast) hH e ?_ r.dropLast ?_,ru,q⟩
  · show its.toArray.eraseIdxIfInBounds (its.toArray.size - 1)=its.dropLast.toArray;rw [aaf,List.eraseIdxIfInBounds_toArray,nq]
  · rw [List.length_dropLast];lia
def wx:R2:=fun x y H Q=>∃ l b xs zs,x=.ref l∧y=.ref b∧H l=some (.lst xs)∧H b=some (.lst zs)∧xs.length+zs.length≤sizeLine∧∀ p,H p=none→Q (.ref p) (upd H p (.lst (xs++zs)))
theorem ft:OpR X (binaryOp .Add) wx:=by
  intro pins s σ H x y v u Q I rx ry h;obtain ⟨l,b,xs,zs,rfl,rfl,hH,hB,hz,q⟩:=h;cases rx;cases ry;obtain ⟨z,its,n,r,hl,e⟩:=I.lstM hH;obtain ⟨z2,its2,n2,r2,hl2,e2⟩:=I.lstM hB;refine PySem.P.add_list e e2 ?_ (by rw [aaf,aaf];lia);have ea:its.toArray++its2.toArray=(its++its2).toArray:=by simp
  rw [ea];exact ⟨.ref _,_,I.lnew (t':=s.toks) (r.append r2) (by rw [aan];lia),rfl,q _ I.fresh⟩
def wo:R2:=fun x y H Q=>∃ l k xs,x=.ref l∧y=.int k∧H l=some (.lst xs)∧-(2 ^ 63)≤k∧k < 2 ^ 63∧xs.length * k.toNat≤sizeLine ∧
  ∀ p,H p=none→Q (.ref p) (upd H p (.lst (aaw k.toNat xs).flatten))
theorem sF {α:Type} (xs:List α) (k:Nat):(aaw k xs).flatten.length=k * xs.length:=by
  induction k with
  | zero=>simp
  | succ k ih=>rw [abK,ach,aan,ih,Nat.succ_mul,Nat.add_comm]
theorem ko:OpR X (binaryOp .Mult) wo:=by
  intro pins s σ H x y v u Q I rx ry h;obtain ⟨l,k,xs,rfl,rfl,hH,h1,h2,hz,q⟩:=h;cases rx;obtain ⟨t,rfl⟩:=ry;obtain ⟨z,its,n,r,hl,e⟩:=I.lstM hH;have hlen:its.toArray.size * k.toNat≤sizeLine:=by rw [aaf,← hl];exact hz
  have hcap:¬ its.toArray.size * k.toNat > (2 ^ 63 - 1) / 8:=by
    have : (sizeLine:Nat)≤(2 ^ 63 - 1) / 8:=by decide
    lia
  have hfit:¬ (!Builtin.List.listFitsIndex k)=true:=by
    rw [fitsIndex_both h1 h2];exact aae
  have hlong:¬ ab1 (its.toArray.size * k.toNat)=true:=by
    rw [qL hlen];exact aae
  have hnew:List.foldl (fun x1 x2=>x1++x2) #[] (aaw (if its.toArray.isEmpty=true then 0 else k.toNat) its.toArray)=(aaw k.toNat its).flatten.toArray:=by
    have f0:∀ m:Nat,List.foldl (fun x1 x2=>x1++x2) #[] (aaw m its.toArray)=(aaw m its).flatten.toArray:=fun m=>by
      have:=jN its m [];rw [List.nil_append] at this;exact this
    rw [f0];cases its with
    | nil=>simp
    | cons a r'=>rw [if_neg (by simp)]
  refine wpAny_binaryOp_repeat_ref (T:="list") (U:="int") (by decide) ⟨_,e,rfl⟩ (fun s'=>typeIs_int s' k t) noFill_list_mul F.fills_int_mul F.slot_int_rmul repeat_list F.slot_int_index.lookup
    (call_meets F.slot_int_rmul (typeIs_int s k t) F.entry_int_rmul (F.args_int_rmul_2 _ _) (int___rmul___int_list k t l its.toArray n)
      ⟨e,rfl,⟨_,e,rfl⟩,call_meets F.slot_list_mul ⟨_,e,rfl⟩ F.entry_list_mul (F.args_list_mul_2 _ _) (AutoListH.list___mul___list_int_3 l its.toArray n k t hfit hcap hlong) ⟨e,?_⟩⟩)
  rw [hnew];exact ⟨.ref _,_,I.lnew (t':=s.toks) (r.rep k.toNat) (by rw [sF,Nat.mul_comm];exact hz),rfl,q _ I.fresh⟩
end
section
variable {prog:Program} {w:World} {A:Around} {E:Value→Shared→Prop} {s:Shared}
end
section
variable {X:Cx}
end
end L2
namespace Att
open PySem PySem.W PySem.Calls PyProof.Rows
theorem gW {P:Params} {h:Heap}:∀ (ns:List Int) (vs:List Value),WellAll P h vs (ns.map WData.int)→IntsAre vs ns:=by
  intro ns
  induction ns with
  | nil =>
    intro vs w;rw [abB] at w;cases w;exact .nil
  | cons n ns ih =>
    intro vs w;rw [aaF] at w;cases w with
    | cons a b =>
      cases a;exact .cons _ _ (ih _ b)
theorem oJ {l:OpenLaw} {n:Nat} (hn:l.most=some n) {P:Params} {h:Heap} {args:List WData} {vals:List Value}
    (hpre:l.row.toRowW.claim.pre args=true) (hwl:WellAll P h vals args) :
    ∃ a vs ns,vals=[Value.ref a]∧args=[WData.list (ns.map WData.int)]∧h.get? a=some { cls:=.type "list",data:=.seq vs.toArray }∧IntsAre vs ns∧ns.length≤n:=by
  have hsh:WShape.hasAll [] args [.list .int]=true:=(pre_splitW hpre).1;have hc:l.pre.holds [] { args:=args }=true:=(pre_splitW hpre).2;obtain ⟨d,r,rfl,h1,h2⟩:=hasAllW_cons hsh;obtain rfl:=hasAllW_nil h2;obtain ⟨xs,rfl,h3⟩:=hasW_list h1;obtain ⟨ns,rfl⟩:=items_int h3;have hlen:ns.length≤n:=by
    unfold OpenLaw.pre at hc;have h4:(WTm.not (.lt (.lit (.int (n:Int))) (.len (.arg 0)))).holds [] { args:=[.list (ns.map .int)] }=true:=by
      have h4:=(holds_andW hc).1;rw [hn] at h4;exact h4
    have h5:=condW_of h4 (w_not (w_lt w_lit (w_len_list (w_arg rfl))));rw [aak] at h5;refine Nat.le_of_not_lt fun q=>?_;have q':(n:Int) < ((ns.length:Nat):Int):=by lia
    first
      | (rw [decide_eq_true q'] at h5;exact absurd h5 (by decide))
      | (simp at h5;lia)
  cases hwl with
  | cons w1 w2 =>
    cases w2;cases w1 with
    | list ho hall=>exact ⟨_,_,ns,rfl,rfl,ho,gW ns _ hall,hlen⟩
theorem oM (l:OpenLaw) (args:List WData):l.row.toRowW.claim.post args (.bool true) args=true :=
  postW_of (r:=l.row.toRowW) (X:=(true == true))
    (show WShape.has [] (.bool true) .bool=true by first|rfl|decide|simp [WShape.has,WShape.arms,WShape.armsAll])
    (show (WTm.eq .res (.lit (.bool true))).value [] { args:=args,res:=some (.bool true),after:=args }=some (.bool (true == true)) from w_eq_bool (w_res rfl) w_lit) rfl
theorem attach_call {l:OpenLaw} {n:Nat} {q:Program} {loose:List Str} {XP:(Str→Option Value)→Heap→Prop} {YP:World→Heap→Prop} {d:DefRec}
    (hn:l.most=some n) (hdf:d.params.defaults=[])
    (call:∀ (w:World) (s₀ s₁:Shared) (mg mb:Str→Option Value) (fa:Addr) (o:Obj) (pm cd doc:Value) (a:Addr) (vs:List Value) (ns:List Int),
      Ground q loose [] XP w s₀ mg mb s₁.heap→YP w s₁.heap →
      s₁.heap.get? fa=some o→o.data=.func (docDef d.name d.params d.body d.scope pm cd doc)→s₁.heap.CodeRec cd d.name→mg d.name=some (.ref fa) →
      s₁.heap.get? a=some { cls:=.type "list",data:=.seq vs.toArray }→IntsAre vs ns→ns.length≤n→s₁.gens=#[] →
      codeAny (model l.prog w) callerA (.call (.ref fa) ⟨[.ref a],[]⟩) (fun r s'=>r=.ok (.ret (.bool true))∧OldK s₁.heap s'.heap∧s'.os=s₁.os∧AllBare s'.gens) s₁) :
    WalkO q loose XP YP l.row.toRowW d [] (fun f vs=>PySem.call f vs):=by
  intro w s₀ s₁ mg mb G Y fa o pm cd doc dV kV ho hd hcd hD hmg hg args vals as hpre hlay hrd hwl hlo;obtain rfl:dV=.none:=Dflts.none hD hdf;obtain rfl:kV=.none:=Dflts.noKw hD;obtain ⟨a,vs,ns,rfl,rfl,hobj,hints,hlen⟩:=oJ hn hpre hwl;refine enter_call (codeAny_mono (call w s₀ s₁ mg mb fa o pm cd doc a vs ns G Y ho (fd_plain hd) hcd hmg hobj hints hlen hg) fun r s' hq=>?_);obtain ⟨rfl,h2,h3,h4⟩:=hq;exact ⟨.inl ⟨.bool true,.bool true,[],rfl,fun _=>rfl,.bool true,oM l _,fun _=>⟨List.Pairwise.nil,fun _ hm=>(nomatch hm)⟩⟩,h2,h3,h4⟩
section
variable {prog:Program} {w:World} {A:Around} {E:Value→Shared→Prop} {s:Shared} {K:Frag}
end
end Att
namespace L2
open PySem PySem.Spec PyProof.Rows
theorem jn:∀ {vs:List Value} {ns:List Int},IntsAre vs ns→Vals (ns.map V.int) vs
  | _,_,.nil=>.nil
  | _,_,.cons n t h=>.cons ⟨t,rfl⟩ (jn h)
def wQ (H:Hp):Prop:=∀ b,H b=none∨∃ o xs,H b=some (.frz o (.lst xs))
open PySem PySem.Spec PyProof.Rows
open PySem PySem.Spec PyProof.Rows
def bo (s:Stmt):Arguments:=match s with
  | .FunctionDef _ a _ _ _ _ _ _ _ _=>a
  | _=>{ posonlyargs:=[],args:=[],vararg:=none,kwonlyargs:=[],kw_defaults:=[],kwarg:=none,defaults:=[] }
def aV (s:Stmt):List Stmt:=match s with
  | .FunctionDef _ _ b _ _ _ _ _ _ _=>b
  | _=>[]
def ag (s:Stmt):Scope:=match s with
  | .FunctionDef _ _ _ _ _ _ sc _ _ _=>sc
  | _=>{ kind:=.function,names:=[],isGenerator:=false,isCoroutine:=false }
abbrev CX0:CXT:=fun _ _ _ _ _ _=>False
abbrev E0:XK:=fun _ _ _=>False
theorem sZ {X:Cx}:iU CX0 X E0:=fun _ _ _ _ _ _ _ h=>h.elim
structure Fun (K:aab) (x qual:Str) (st:Stmt) (f:Addr) (fd:FuncData):Prop where
  ex:∃ (oc:Value) (od:Option Addr) (kV doc pm:Value) (an:Option Addr) (cdv ct:Value) (osl:Array (Option Value)),
    fd=aaQ x qual (bo st) (aV st) (ag st) .none kV doc pm an cdv ct∧K.lookup f=some ⟨oc,od,.func fd,osl⟩∧abf K cdv qual=true
  kp:aaS K (.ref f)=true
section
variable {P:Program} {w:World} {K:aab} {mg:Str→Option Value} {base:Heap}
theorem Fun.ok {x qual:Str} {st:Stmt} {f:Addr} {fd:FuncData} {N ps:List Str} {k:Nat} {sp:Sp} (F:Fun K x qual st f fd) (S:FnScope N ps (ag st)) (len:∀ vs H Q E,sp vs H Q E→vs.length=ps.length)
    (hbody:∀ (cdv:Value) (A:Around) (outer:List Env) (s:Shared) (H:Hp) (vs:List V) (Q:VK) (E:XK),Room k (A.deeper (envOfC qual (ag st) s.heap.objs.size f cdv))→sp vs H Q E →
      ∃ t,PSs (fH CX0 P w K mg base N qual (ag st) f cdv A outer s H E).nox (aV st) t∧t { nx:=fun _ H'=>Q .non H',rt:=Q } (start N vs) H):FnOk P w K mg base CX0 (k+1) f fd ps sp:=by
  obtain ⟨oc,od,kV,doc,pm,an,cdv,ct,osl,rfl,lk,hcd⟩:=F.ex;refine om lk hcd S len fun A outer s H vs Q E hr hsp=>?_;obtain ⟨t,h,q⟩:=hbody cdv A outer s H vs Q E hr hsp;exact ⟨t,h.nox,q⟩
theorem Fun.binds {x qual:Str} {st:Stmt} {f:Addr} {fd:FuncData} {ps:List Str} (F:Fun K x qual st f fd)
    (h:∀ (kV doc pm:Value) (an:Option Addr) (cdv ct:Value) (us:List Value),us.length=ps.length→bindArgs (aaQ x qual (bo st) (aV st) (ag st) .none kV doc pm an cdv ct) ⟨us,[]⟩=pure (ps.zip us)):Binds K fd ps []:=by
  obtain ⟨oc,od,kV,doc,pm,an,cdv,ct,osl,rfl,lk,hcd⟩:=F.ex;exact .all (h kV doc pm an cdv ct)
theorem re {x qual:Str} {st:Stmt} {f:Addr} {oc:Value} {od an:Option Addr} {osl:Array (Option Value)} {kV doc pm cdv ct:Value} (l:K.lookup f=some ⟨oc,od,.func (aaQ x qual (bo st) (aV st) (ag st) .none kV doc pm an cdv ct),osl⟩)
    (c:abf K cdv qual=true) (k:aaS K (.ref f)=true):Fun K x qual st f (aaQ x qual (bo st) (aV st) (ag st) .none kV doc pm an cdv ct):=⟨⟨oc,od,kV,doc,pm,an,cdv,ct,osl,rfl,l,c⟩,k⟩
end
theorem aJ {n:Nat} (h:n≤1000):n < sizeLine:=abQ h (by decide)
section
variable {X:Cx}
theorem pv (i:Nat) {x:Str} {pos:Pos} (hN:X.N[i]?=some x:=by rfl) (hv:Vis X.env.scope x:=by first|exact Or.inl rfl|exact Or.inr (Or.inl rfl)|exact Or.inr (Or.inr rfl)) (hd:(x == ("__debug__":Str))=false:=by decide)
    (hcd:(x == ("__classdict__":Str))=false:=by decide):PE X (.Name x pos) (tJ i):=ub hN hv hd hcd
end
theorem aU {A B:Prop} (h:B):if false=true then A else B:=by
  rw [if_neg aae];exact h
theorem bC {A B:Prop} (h:A):if true=true then A else B:=by
  rw [if_pos rfl];exact h
theorem iJ {c A B:Prop} [Decidable c] (h1:c→A) (h2:¬ c→B):if c then A else B:=by
  by_cases h:c
  · rw [if_pos h];exact h1 h
  · rw [if_neg h];exact h2 h
theorem vy {c A B:Prop} [Decidable c] (hc:c) (h:B):if (!decide c)=true then A else B:=by
  rw [decide_eq_true hc];exact aU h
def Same (H H':Hp):Prop:=∀ b o,H b=some o→H' b=some o
theorem Same.refl (H:Hp):Same H H:=fun _ _ h=>h
theorem Same.trans {H H1 H2:Hp} (a:Same H H1) (b:Same H1 H2):Same H H2:=fun c o h=>b c o (a c o h)
theorem Same.free {H H':Hp} (e:Same H H') {l:Addr} (h:H' l=Option.none):H l=Option.none:=by
  cases q:H l with
  | none=>rfl
  | some o =>
    rw [e l o q] at h;cases h
theorem Same.seq {K:aab} {H H':Hp} {a:Addr} {xs:List V} (e:Same H H') (h:SqL K H a xs):SqL K H' a xs:=by
  rcases h with (h|⟨o,h⟩)|h
  · exact .inl (.inl (e _ _ h))
  · exact .inl (.inr ⟨o,e _ _ h⟩)
  · exact .inr h
open PySem PySem.Spec PyProof.Rows
section
variable {κ:Type} [DecidableEq κ]
def cx (kvs:List (κ × V)) (k:κ):Option V:=(kvs.find? fun kv=>decide (kv.1=k)).map (·.2)
def db (kvs:List (κ × V)) (k:κ) (v:V):List (κ × V) :=
  if (kvs.any fun kv=>decide (kv.1=k))=true then kvs.map (fun kv=>if kv.1=k then (kv.1,v) else kv) else kvs++[(k,v)]
theorem bD {p:κ × V} {r:List (κ × V)} {k:κ} (e:p.1=k):cx (p :: r) k=some p.2:=by simp [cx,abw,e]
theorem bE {p:κ × V} {r:List (κ × V)} {k:κ} (e:¬ p.1=k):cx (p :: r) k=cx r k:=by simp [cx,abw,e]
theorem fY (k:κ):∀ kvs:List (κ × V),(kvs.any fun kv=>decide (kv.1=k))=(cx kvs k).isSome
  | []=>rfl
  | p :: r=>by
    rw [ab3];by_cases e:p.1=k
    · simp only [bD e,decide_eq_true e,Bool.true_or,Option.isSome_some]
    · rw [bE e,decide_eq_false e,Bool.false_or];exact fY k r
theorem kY (k j:κ) (y:V):∀ kvs:List (κ × V),cx (kvs.map fun kv=>if kv.1=k then (kv.1,y) else kv) j=(cx kvs j).map fun x=>if j=k then y else x
  | []=>rfl
  | p :: r=>by
    have ih:=kY k j y r;rw [aaF];by_cases h:p.1=k
    · rw [if_pos h];by_cases e:p.1=j
      · rw [bD (p:=(p.1,y)) e,bD e,ab5,if_pos (e.symm.trans h)]
      · rw [bE (p:=(p.1,y)) e,bE e,ih]
    · rw [if_neg h];by_cases e:p.1=j
      · rw [bD (p:=p) e,bD e,ab5,if_neg (fun z=>h (e.trans z))]
      · rw [bE (p:=p) e,bE e,ih]
theorem jo (k j:κ) (y:V):∀ kvs:List (κ × V),cx kvs k=none→cx (kvs++[(k,y)]) j=if j=k then some y else cx kvs j
  | [],_=>by
    by_cases e:k=j
    · rw [if_pos e.symm];exact bD (p:=(k,y)) e
    · rw [if_neg (fun z=>e z.symm)];exact bE (p:=(k,y)) e
  | p :: r,hn=>by
    rw [abL];have hk:¬ p.1=k:=fun z=>by rw [bD z] at hn;cases hn
    rw [bE hk] at hn;have ih:=jo k j y r hn;by_cases e:p.1=j
    · rw [bD e,bD e,if_neg (fun z=>hk (e.trans z))]
    · rw [bE e,bE e,ih]
theorem kX (kvs:List (κ × V)) (k j:κ) (y:V):cx (db kvs k y) j=if j=k then some y else cx kvs j:=by
  unfold db;by_cases a:(kvs.any fun kv=>decide (kv.1=k))=true
  · rw [if_pos a,kY];rw [fY] at a;by_cases e:j=k
    · obtain ⟨x,hx⟩:=abd.mp a;rw [if_pos e,e,hx,ab5,if_pos rfl]
    · rw [if_neg e];cases cx kvs j with
      | none=>rfl
      | some x=>rw [ab5,if_neg e]
  · rw [if_neg a];refine jo k j y kvs ?_;rw [fY] at a;cases q:cx kvs k with
    | none=>rfl
    | some x=>rw [q] at a;exact (a rfl).elim
theorem cG (kvs:List (κ × V)) (k:κ) (v:V):(db kvs k v).length≤kvs.length+1:=by
  unfold db;split
  · rw [aak];lia
  · rw [aan,aaD,aba];lia
theorem RelO.isSome_eq {o:Option V} {u:Option Value} (r:RelO o u):o.isSome=u.isSome:=by
  cases o with
  | none=>cases u with
    | none=>rfl
    | some _=>exact (show False from r).elim
  | some _=>cases u with
    | none=>exact (show False from r).elim
    | some _=>rfl
theorem KV.val {kvs:List (κ × V)} {vs:List (κ × Value)} (r:KV kvs vs) (k:κ):RelO (cx kvs k) (valueAt vs k):=by
  unfold KV at r
  induction r with
  | nil=>exact True.intro
  | @cons p q ps qs h t ih =>
    obtain ⟨h1,h2⟩:=h;by_cases e:p.1=k
    · have e':q.1=k:=h1.symm.trans e;have b:valueAt (q :: qs) k=some q.2:=by simp [valueAt,abw,e']
      rw [bD e,b];exact h2
    · have e':¬ q.1=k:=fun z=>e (h1.trans z);have b:valueAt (q :: qs) k=valueAt qs k:=by simp [valueAt,abw,e']
      rw [bE e,b];exact ih
theorem KV.any {kvs:List (κ × V)} {vs:List (κ × Value)} (r:KV kvs vs) (k:κ):(kvs.any fun kv=>decide (kv.1=k))=vs.any fun kv=>decide (kv.1=k):=by
  unfold KV at r
  induction r with
  | nil=>rfl
  | cons h t ih=>rw [ab3,ab3,ih,h.1]
theorem KV.repl {kvs:List (κ × V)} {vs:List (κ × Value)} (r:KV kvs vs) (k:κ) {y:V} {u:Value} (ry:RelV y u) :
    KV (kvs.map fun kv=>if kv.1=k then (kv.1,y) else kv) (vs.map fun kv=>if kv.1=k then (kv.1,u) else kv):=by
  unfold KV at r ⊢
  induction r with
  | nil=>exact .nil
  | @cons p q ps qs h t ih =>
    rw [aaF,aaF];refine .cons ?_ ih;obtain ⟨h1,h2⟩:=h;by_cases e:p.1=k
    · rw [if_pos e,if_pos (h1.symm.trans e)];exact ⟨h1,ry⟩
    · rw [if_neg e,if_neg (fun z=>e (h1.trans z))];exact ⟨h1,h2⟩
theorem KV.put {kvs:List (κ × V)} {vs:List (κ × Value)} (r:KV kvs vs) (k:κ) {y:V} {u:Value} (ry:RelV y u):KV (db kvs k y) (stored vs k u):=by
  unfold db stored;rw [r.any k];by_cases e:(vs.any fun kv=>decide (kv.1=k))=true
  · rw [if_pos e,if_pos e];exact r.repl k ry
  · rw [if_neg e,if_neg e];exact Paired.snoc r ⟨rfl,ry⟩
theorem KV.length {kvs:List (κ × V)} {vs:List (κ × Value)} (r:KV kvs vs):kvs.length=vs.length:=aa9 r
end
theorem jC {P:Program} {w:World} {k:Key} {u:Value} (r:RelV (kV k) u):(aD P w).is k u=true:=by
  cases k with
  | inl i=>obtain ⟨t,e⟩:=(show ∃ t,u=Value.int i t from r);subst e;exact lR P w i t
  | inr x=>obtain ⟨t,e⟩:=(show ∃ t,u=Value.str x t from r);subst e;exact lQ P w x t
theorem jF {P:Program} {w:World}:∀ {ks:List Key} {us:List Value},Vals (ks.map kV) us→ItemsAre (aD P w) ks us
  | [],_,r=>by rw [abB] at r;cases r;exact .nil
  | k :: ks,_,r=>by
    rw [aaF] at r;cases r with
    | cons h t=>exact .cons (jC h) (jF t)
abbrev KT (H:Hp):List (List Key × V)→List (List Key × Addr × Value)→Prop:=Paired fun p q=>p.1=q.1∧H q.2.1=some (.tup (p.1.map kV))∧RelV p.2 q.2.2
theorem KT.val {H:Hp} {kvs:List (List Key × V)} {xs:List (List Key × Addr × Value)} (r:KT H kvs xs) (k:List Key):RelO (cx kvs k) ((atKey xs k).map (·.2)):=by
  induction r with
  | nil=>exact True.intro
  | @cons p q ps qs h t ih =>
    obtain ⟨h1,_,h2⟩:=h;by_cases e:p.1=k
    · have e':q.1=k:=h1.symm.trans e;have b:atKey (q :: qs) k=some q.2:=by simp [atKey,abw,e']
      rw [bD e,b];exact h2
    · have e':¬ q.1=k:=fun z=>e (h1.trans z);have b:atKey (q :: qs) k=atKey qs k:=by simp [atKey,abw,e']
      rw [bE e,b];exact ih
theorem KT.repl {H:Hp} {kvs:List (List Key × V)} {xs:List (List Key × Addr × Value)} (r:KT H kvs xs) (k:List Key) {y:V} {u:Value} (ry:RelV y u) :
    KT H (kvs.map fun kv=>if kv.1=k then (kv.1,y) else kv) (xs.map (putAt k u)):=by
  induction r with
  | nil=>exact .nil
  | @cons p q ps qs h t ih =>
    rw [aaF,aaF];refine .cons ?_ ih;obtain ⟨h1,h2,h3⟩:=h;unfold putAt;by_cases e:p.1=k
    · rw [if_pos e,if_pos (h1.symm.trans e)];exact ⟨h1,h2,ry⟩
    · rw [if_neg e,if_neg (fun z=>e (h1.trans z))];exact ⟨h1,h2,h3⟩
theorem KT.put {H:Hp} {kvs:List (List Key × V)} {xs:List (List Key × Addr × Value)} (r:KT H kvs xs) (k:List Key) {b:Addr} {y:V} {u:Value} (hb:H b=some (.tup (k.map kV))) (ry:RelV y u) :
    KT H (db kvs k y) (storedH xs k b u):=by
  have e:(kvs.any fun kv=>decide (kv.1=k))=(atKey xs k).isSome:=by
    rw [fY,(r.val k).isSome_eq,Option.isSome_map]
  unfold db storedH;rw [e];by_cases q:(atKey xs k).isSome=true
  · rw [if_pos q,if_pos q];exact r.repl k ry
  · rw [if_neg q,if_neg q];exact Paired.snoc r ⟨rfl,hb,ry⟩
theorem KT.keeps {H H':Hp} {kvs:List (List Key × V)} {xs:List (List Key × Addr × Value)} (r:KT H kvs xs) (ht:∀ b ys,H b=some (.tup ys)→H' b=some (.tup ys)):KT H' kvs xs :=
  Paired.mapP r fun _ _ z=>⟨z.1,ht _ _ z.2.1,z.2.2⟩
section
variable {P:Program} {w:World} {H:Hp} {h:Heap} {a:Addr}
theorem sX {u:HO} (ok:HOk P w H h) (e:Rd H a u):ObjOk P w H h a u:=e.ok ok
theorem l8 {kvs:List (Key × V)} (ok:HOk P w H h) (e:Rd H a (.dK kvs)):kvs.length≤sizeLine∧(a == sysModules)=false∧∃ vs,KV kvs vs∧h.DictOf (aD P w) a vs :=
  show ObjOk P w H h a (.dK kvs) from sX ok e
theorem rA {kvs:List (Key × V)} (ok:HOk P w H h) (e:H a=some (.dK kvs)):kvs.length≤sizeLine∧(a == sysModules)=false∧∃ vs,KV kvs vs∧h.DictOf (aD P w) a vs:=l8 ok (.inl e)
theorem gE {ks:List Key} (ok:HOk P w H h) (e:H a=some (.tup (ks.map kV))):(tupleKind (aD P w)).is h ks a:=by
  obtain ⟨_,its,r,o,h1,h2,n,h3⟩:=(show ObjOk P w H h a (.tup (ks.map kV)) from ok a _ e)
  exact ⟨o,its.toArray,n,h1,h2,h3,by simpa using jF r⟩
theorem l7 {kvs:List (List Key × V)} (ok:HOk P w H h) (e:Rd H a (.dT kvs)):kvs.length≤sizeLine∧(a == sysModules)=false ∧
    ∃ xs,KT H kvs xs∧h.DictOfH (tupleKind (aD P w)) a xs:=by
  obtain ⟨z,y,xs,r,o,es,ep,h1,h2,h3,h4,h5⟩:=(show ObjOk P w H h a (.dT kvs) from sX ok e)
  refine ⟨z,y,xs,r,o,es,ep,h1,h2,h3,h4,fun x hx=>?_,h5⟩;have all:∀ {l:List (List Key × V)} {m:List (List Key × Addr × Value)},KT H l m→∀ x∈m,(tupleKind (aD P w)).is h x.1 x.2.1:=by
    intro l m q
    induction q with
    | nil=>intro x hx;exact nomatch hx
    | @cons p q ps qs hq t ih =>
      intro x hx;rcases aai.mp hx with e|hx
      · subst e;exact gE ok (by rw [← hq.1];exact hq.2.1)
      · exact ih x hx
  exact all r x hx
theorem ou {kvs:List (List Key × V)} (ok:HOk P w H h) (e:H a=some (.dT kvs)):kvs.length≤sizeLine∧(a == sysModules)=false ∧
    ∃ xs,KT H kvs xs∧h.DictOfH (tupleKind (aD P w)) a xs:=l7 ok (.inl e)
end
def DGet (H:Hp) (a:Addr) (y:V) (r:Option V):Prop :=
  (∃ kvs k,Rd H a (.dK kvs)∧y=kV k∧r=cx kvs k)∨∃ kvs k b,Rd H a (.dT kvs)∧y=.ref b∧H b=some (.tup (k.map kV))∧r=cx kvs k
def DPut (H:Hp) (a:Addr) (y v:V) (H':Hp):Prop :=
  (∃ kvs k,H a=some (.dK kvs)∧y=kV k∧kvs.length < sizeLine∧H'=upd H a (.dK (db kvs k v))) ∨
  ∃ kvs k b,H a=some (.dT kvs)∧y=.ref b∧H b=some (.tup (k.map kV))∧kvs.length < sizeLine∧H'=upd H a (.dT (db kvs k v))
theorem DGet.t {H:Hp} {a b:Addr} {kvs:List (List Key × V)} {k:List Key} (e:H a=some (.dT kvs)) (eb:H b=some (.tup (k.map kV))):DGet H a (.ref b) (cx kvs k):=.inr ⟨kvs,k,b,.inl e,rfl,eb,rfl⟩
theorem DPut.t {H:Hp} {a b:Addr} {kvs:List (List Key × V)} {k:List Key} {v:V} (e:H a=some (.dT kvs)) (eb:H b=some (.tup (k.map kV))) (hl:kvs.length < sizeLine) :
    DPut H a (.ref b) v (upd H a (.dT (db kvs k v))):=.inr ⟨kvs,k,b,e,rfl,eb,hl,rfl⟩
section
variable {X:Cx} {pins:List (Addr × Obj)} {σ:St} {H:Hp} {s:Shared} {a:Addr} {y v:V} {u r:Value} {o:Option V} {A:Around} {E:Value→Shared→Prop}
theorem Inv.big (I:Inv X pins σ H s):sysModules < s.heap.objs.size:=by
  have h:mainGlobals < s.heap.objs.size:=(I.mod.glob.keeps I.bk).lt;exact Nat.lt_trans (by decide) h
theorem pK {Q:Value→Shared→Prop} (hu:A.units+1 < cLine) (I:Inv X pins σ H s) (g:DGet H a y (some v)) (ry:RelV y u) (h:∀ w' s',Inv X pins σ H s'→RelV v w'→Q w' s') :
    wpAny (model X.prog X.w) A (getItem (.ref a) u) Q E s:=by
  rcases g with ⟨kvs,k,e,ey,l⟩|⟨kvs,k,b,e,ey,eb,l⟩
  · subst ey;obtain ⟨z,hd,vs,rel,dd⟩:=l8 I.hok e;obtain ⟨w',hw,rw'⟩:=RelO.some_of (v:=v) (o:=valueAt vs k) (by rw [l];exact rel.val k);exact wpAny_getItem_of (jC ry) dd.mapOf hw (h w' _ (I.tok _) rw')
  · subst ey;cases (show u=Value.ref b from ry);obtain ⟨z,hd,xs,rel,dd⟩:=l7 I.hok e;obtain ⟨w',hw,rw'⟩:=RelO.some_of (v:=v) (o:=(atKey xs k).map (·.2)) (by rw [l];exact rel.val k);obtain ⟨p,hp,hp2⟩:=aby.mp hw;refine wpAny_getItem_heap (tupleKind_room_in1 hu) (gE I.hok eb) dd hp ?_;rw [hp2];exact h w' _ (I.tok _) rw'
theorem wM {Q:Value→Shared→Prop} (hu:A.units+1 < cLine) (I:Inv X pins σ H s) (g:DGet H a y o) (ry:RelV y u) (h:∀ s',Inv X pins σ H s'→Q (.bool o.isSome) s') :
    wpAny (model X.prog X.w) A (compareOp .In u (.ref a)) Q E s:=by
  rcases g with ⟨kvs,k,e,ey,l⟩|⟨kvs,k,b,e,ey,eb,l⟩
  · subst ey;obtain ⟨z,hd,vs,rel,dd⟩:=l8 I.hok e;refine wpAny_in_of (jC ry) hd dd.mapOf ?_;rw [← (rel.val k).isSome_eq,← l];exact h _ (I.tok _)
  · subst ey;cases (show u=Value.ref b from ry);obtain ⟨z,hd,xs,rel,dd⟩:=l7 I.hok e;refine wpAny_in_heap (tupleKind_room_in1 hu) (gE I.hok eb) hd dd ?_;have q:=(rel.val k).isSome_eq;rw [Option.isSome_map] at q;rw [← q,← l];exact h _ (I.tok _)
theorem gl {h':Heap} {t':Nat} {ob:HO} (I:Inv X pins σ H s) (mu:Mut (H a)) (hs:abc a s.heap h') (he:∃ q,h'.get? a=some q) (new:ObjOk X.prog X.w (upd H a ob) h' a ob) :
    Inv X pins σ (upd H a ob) { s with heap:=h',toks:=t' } :=
  I.write (x:=a) (e:=a) mu (.inl rfl) (fun b q hb z=>(hs.2 b hb).trans z) he new
theorem rB {P:Program} {w:World} {H':Hp} {h':Heap} {kvs:List (Key × V)} {vs:List (Key × Value)} (z:kvs.length≤sizeLine) (hd:(a == sysModules)=false) (rel:KV kvs vs) (dd:h'.DictOf (aD P w) a vs) :
    ObjOk P w H' h' a (.dK kvs):=⟨z,hd,vs,rel,dd⟩
theorem pJ {H':Hp} {Q:Unit→Shared→Prop} (hu:A.units+1 < cLine) (I:Inv X pins σ H s) (g:DPut H a y v H') (ry:RelV y u) (rv:RelV v r) (h:∀ s',Inv X pins σ H' s'→Q () s') :
    wpAny (model X.prog X.w) A (setItem (.ref a) u r) Q E s:=by
  rcases g with ⟨kvs,k,e,ey,l,eH⟩|⟨kvs,k,b,e,ey,eb,l,eH⟩
  · subst ey eH;obtain ⟨z,hd,vs,rel,dd⟩:=rA I.hok e;have hz:vs.length≤sizeLine:=by rw [← rel.length];exact z
    have hl:(db kvs k v).length≤sizeLine:=by have:=cG kvs k v;lia
    refine wpAny_setItem_pairs (hsz:=hz) (jC ry) dd fun h' dd' hs=>h _ ?_;have he:∃ q,h'.get? a=some q:=let ⟨q,_,_,hq,_⟩:=dd';⟨q,hq⟩;exact gl I (by rw [e];exact True.intro) hs he (rB hl hd (rel.put k rv) dd')
  · subst ey eH;cases (show u=Value.ref b from ry);obtain ⟨z,hd,xs,rel,dd⟩:=ou I.hok e;have hz:xs.length≤sizeLine:=by rw [← aa9 rel];exact z
    have hl:(db kvs k v).length≤sizeLine:=by have:=cG kvs k v;lia
    refine wpAny_setItem_heap (hsz:=hz) (tupleKind_room_in1 hu) (gE I.hok eb) dd fun h' dd' hs=>h _ ?_;obtain ⟨q,es,ep,hq,h2,h3,h4,_,h5⟩:=dd';refine gl I (by rw [e];exact True.intro) hs ⟨q,hq⟩ ⟨hl,hd,_,(rel.put k eb rv).keeps fun c ys ec=>?_,q,es,ep,hq,h2,h3,h4,h5⟩;rw [aj (qO ec e (fun z=>nomatch z))];exact ec
end
section
variable {X:Cx} {pins:List (Addr × Obj)} {σ:St} {H:Hp} {s:Shared} {a:Addr} {kvs:List (Key × V)} {k:Key} {u:Value} {A:Around} {E:Value→Shared→Prop}
theorem vN {Q:Value→Shared→Prop} (I:Inv X pins σ H s) (e:Rd H a (.dK kvs)) (h:∀ t s',Inv X pins σ H s'→Q (.int kvs.length t) s'):wpAny (model X.prog X.w) A (call (.builtin "len") [.ref a]) Q E s:=by
  obtain ⟨z,hd,vs,rel,dd⟩:=l8 I.hok e;refine call_len_dict hd dd (by rw [← rel.length];rw [sizeLine_eq] at z;lia) ?_;rw [← rel.length];exact h _ _ (I.tok _)
end
def vQ (i:Expr):Prop:=∀ ov iv,subscripted i false ov iv=operate [ov,iv] (getItem ov iv)
theorem rW {prog:Program} {w:World} {A:Around} {E:Value→Shared→Prop} {s:Shared} {env:Env} {value slice:Expr} {pos:Pos} {T id:String} {Q:Value→Shared→Prop}
    (hl:typeLookup (.type T) "__getitem__" = pure (some (.builtin id))) (hs:vQ slice)
    (h:wpAny (model prog w) A (eval value env) (fun o s₁=>wpAny (model prog w) A (eval slice env) (fun i s₂=>s₂.TypeIs o T∧wpAny (model prog w) A (getItem o i) Q E s₂) E s₁) E s) :
    wpAny (model prog w) A (eval (.Subscript value slice pos) env) Q E s:=by
  refine Subscript_ (wpAny_mono h (fun o s₁ h₁=>wpAny_mono h₁ (fun i s₂ h₂=>?_) fun _ _ x=>x) fun _ _ x=>x);obtain ⟨hT,h₂⟩:=h₂;unfold subscriptTail;refine wpAny_bind ?_;rw [getitemInPython_of_ne hT.not_modules];refine wpAny_bind (wpAny_specialOf hT hl ?_);have fin:wpAny (model prog w) A (subscripted slice false o i) (fun r s₃=>wpAny (model prog w) A (letTemporaryGo value o r >>= fun _=>pure r) Q E s₃) E s₂:=by
    rw [hs o i];exact wpAny_operating (wpAny_mono h₂ (fun r s₃ h₃=>wpAny_bind (wpAny_letTemporaryGo (wpAny_pure h₃))) fun _ _ x=>x)
  first
    | exact wpAny_pure (wpAny_bind fin)
    | exact wpAny_bind (wpAny_pure (wpAny_bind fin))
    | exact wpAny_bind fin
theorem ma {X:Cx} {pins:List (Addr × Obj)} {σ:St} {H:Hp} {s:Shared} {a:Addr} {y:V} {o:Option V} (I:Inv X pins σ H s) (g:DGet H a y o):s.TypeIs (.ref a) "dict":=by
  rcases g with ⟨kvs,k,e,_,_⟩|⟨kvs,k,b,e,_,_,_⟩
  · obtain ⟨_,_,vs,_,dd⟩:=l8 I.hok e;exact dd.typeIs
  · obtain ⟨_,_,xs,_,dd⟩:=l7 I.hok e;exact dd.typeIs
def vc (td ty:TE):TE:=fun σ H Q=>td σ H fun x H1=>ty σ H1 fun y H2=>∃ a v,x=.ref a∧DGet H2 a y (some v)∧Q v H2
def va (ty td:TE):TE:=fun σ H Q=>ty σ H fun y H1=>td σ H1 fun x H2=>∃ a o,x=.ref a∧DGet H2 a y o∧Q (.bl o.isSome) H2
def vg (td ty tv:TE):TS:=fun D σ H=>tv σ H fun v H1=>td σ H1 fun x H2=>ty σ H2 fun y H3=>∃ a H4,x=.ref a∧DPut H3 a y v H4∧D.nx σ H4
section
variable {X:Cx} {o i e value:Expr} {pos pos' tpos:Pos} {td ty tv:TE}
theorem g4 (hu:X.A.units+1 < cLine) (ho:PE X o td) (hi:PE X i ty) (hs:vQ i):PE X (.Subscript o i pos) (vc td ty):=by
  intro pins s σ H Q I h;refine rW PySem.F.slot_dict_getitem.lookup hs (thn (ho pins s σ H _ I h) fun u s1 ⟨x,H1,I1,rx,q1⟩=>thn (hi pins s1 σ H1 _ I1 q1) fun iv s2 ⟨y,H2,I2,ry,a,v,ex,g,q2⟩=>?_);subst ex;obtain rfl:u=Value.ref a:=rx;exact ⟨ma I2 g,pK hu I2 g ry fun w' s3 I3 rw'=>⟨v,H2,I3,rw',q2⟩⟩
theorem uk (hu:X.A.units+1 < cLine) (hi:PE X i ty) (ho:PE X o td):PC X .In i o (va ty td):=by
  intro pins s σ H Q I h;refine thn (hi pins s σ H _ I h) fun iv s1 ⟨y,H1,I1,ry,q1⟩=>thn (ho pins s1 σ H1 _ I1 q1) fun u s2 ⟨x,H2,I2,rx,a,ov,ex,g,q2⟩=>?_;subst ex;obtain rfl:u=Value.ref a:=rx;exact wM hu I2 g ry fun s3 I3=>⟨.bl ov.isSome,H2,I3,rfl,q2⟩
theorem sg (hu:X.A.units+1 < cLine) (ho:PE X o td) (hi:PE X i ty) (hv:PE X value tv) (hs:swapsWith value (some (.Subscript o i pos')) pos.line X.env=pure false) :
    PS X (.Assign [.Subscript o i pos'] value pos) (vg td ty tv):=by
  intro pins s σ H D I h;refine wpAny_Assign_Subscript (thn (hv pins s σ H _ I h) fun r s1 ⟨v,H1,I1,rv,q1⟩=>thn (ho pins s1 σ H1 _ I1 q1) fun u s2 ⟨x,H2,I2,rx,q2⟩=>thn (hi pins s2 σ H2 _ I2 q2) fun iv s3 ⟨y,H3,I3,ry,a,H4,ex,g,q3⟩=>?_) hs;subst ex;obtain rfl:u=Value.ref a:=rx;exact pJ hu I3 g ry rv fun s4 I4=>⟨σ,H4,I4,q3⟩
end
theorem l_ {P:Program} {w:World} {H:Hp} (h:Heap) (hb:sysModules < h.objs.size):ObjOk P w H (h.push { cls:=.type "dict",data:=.dict #[] }) h.objs.size (.dK []) :=
  ⟨aaR _,beq_eq_false_iff_ne.mpr (abt (aas hb)),[],.nil,Heap.DictOf.new h⟩
theorem iN {P:Program} {w:World} {H:Hp} (h:Heap) (hb:sysModules < h.objs.size):ObjOk P w H (h.push { cls:=.type "dict",data:=.dict #[] }) h.objs.size (.dT []) :=
  ⟨aaR _,beq_eq_false_iff_ne.mpr (abt (aas hb)),[],.nil,_,#[],0,aap _ rfl,⟨rfl,rfl,rfl⟩,rfl,rfl,List.nodup_nil⟩
def tN:TE:=fun _ H Q=>∀ p,H p=none→Q (.ref p) (upd H p (.dK []))
def tL:TE:=fun _ H Q=>∀ p,H p=none→Q (.ref p) (upd H p (.dT []))
section
variable {X:Cx} {pos:Pos}
theorem fk:PE X (.Dict [] [] pos) tN:=fun pins s σ H Q I h =>
  wpAny_Dict_empty ⟨.ref s.heap.objs.size,_,I.laid (a:=s.heap.objs.size) (o:=.dK []) (t':=s.toks) (fun _ _ q=>aac _ q) (aah _) (l_ s.heap I.big),rfl,h _ (I.hok.fresh (aah _))⟩
theorem qG:PE X (.Dict [] [] pos) tL:=fun pins s σ H Q I h =>
  wpAny_Dict_empty ⟨.ref s.heap.objs.size,_,I.laid (a:=s.heap.objs.size) (o:=.dT []) (t':=s.toks) (fun _ _ q=>aac _ q) (aah _) (iN s.heap I.big),rfl,h _ (I.hok.fresh (aah _))⟩
end
def mt:List (TE × TE)→St→Hp→(List (V × V)→Hp→Prop)→Prop
  | [],_,H,Q=>Q [] H
  | (tk,tv) :: r,σ,H,Q=>tk σ H fun x H1=>tv σ H1 fun y H2=>mt r σ H2 fun ps H3=>Q ((x,y) :: ps) H3
abbrev VV:List (V × V)→List (Value × Value)→Prop:=Paired fun p q=>RelV p.1 q.1∧RelV p.2 q.2
def PPs (X:Cx) (pos:Pos) (keys:List (Option Expr)) (values:List Expr) (trs:List (TE × TE)):Prop :=
  ∀ (pins:List (Addr × Obj)) (s:Shared) (σ:St) (H:Hp) (Q:List (V × V)→Hp→Prop),Inv X pins σ H s→mt trs σ H Q →
    wpAny (model X.prog X.w) X.A (evalPairs (pairTrees keys values X.env pos)) (fun vs s'=>∃ ps H',Inv X pins σ H' s'∧VV ps vs∧Q ps H') X.xe s
theorem nV {X:Cx} {pos:Pos}:PPs X pos [] [] []:=fun pins s σ H Q I h=>pairTrees_nil_walk ⟨[],H,I,.nil,h⟩
theorem lF {X:Cx} {pos:Pos} {k v:Expr} {ks:List (Option Expr)} {vs:List Expr} {tk tv:TE} {trs:List (TE × TE)} (hk:PE X k tk) (hv:PE X v tv) (hr:PPs X pos ks vs trs) :
    PPs X pos (some k :: ks) (v :: vs) ((tk,tv) :: trs):=fun pins s σ H Q I h =>
  pairTrees_cons_walk (thn (hk pins s σ H _ I h) fun u s1 ⟨x,H1,I1,rx,q1⟩=>thn (hv pins s1 σ H1 _ I1 q1) fun w2 s2 ⟨y,H2,I2,ry,q2⟩ =>
    thn (hr pins s2 σ H2 _ I2 q2) fun ws s3 ⟨ps,H3,I3,rel,q3⟩=>⟨(x,y) :: ps,H3,I3,.cons ⟨rx,ry⟩ rel,q3⟩)
structure M1 (X:Cx) (o:Expr) (m:Str) (apos:Pos) (e:Expr) (cpos:Pos):Prop where
  base:attributeBase o m X.env (eval o X.env)=eval o X.env
  few:((backTo cpos (starEach [e] X.env)).all (fun x=>!x.1) && (backToKw cpos (keywordEach [] X.env)).all (fun x=>x.1.isSome)
    && decide (([e]:List Expr).length+([]:List Keyword).length+(if ([]:List Keyword).isEmpty then 0 else 1) < 30))=true
  line:(apos.endLine == cpos.line)=true
  trees:backTo cpos (starEach [e] X.env)=[(false,eval e X.env)]
structure M2 (X:Cx) (o:Expr) (m:Str) (apos:Pos) (e f:Expr) (cpos:Pos):Prop where
  base:attributeBase o m X.env (eval o X.env)=eval o X.env
  few:((backTo cpos (starEach [e,f] X.env)).all (fun x=>!x.1) && (backToKw cpos (keywordEach [] X.env)).all (fun x=>x.1.isSome)
    && decide (([e,f]:List Expr).length+([]:List Keyword).length+(if ([]:List Keyword).isEmpty then 0 else 1) < 30))=true
  line:(apos.endLine == cpos.line)=true
  trees:backTo cpos (starEach [e,f] X.env)=[(false,eval e X.env),(false,eval f X.env)]
section
variable {X:Cx} {pins:List (Addr × Obj)} {σ:St} {H:Hp} {s:Shared} {a:Addr} {y d:V} {u r:Value} {o:Option V} {A:Around} {E:Value→Shared→Prop}
end
section
variable {X:Cx} {o e f:Expr} {apos cpos:Pos} {td ty tx:TE}
end
section
variable {X:Cx} {pins:List (Addr × Obj)} {σ:St} {H:Hp} {s:Shared} {a:Addr} {kvs:List (Key × V)} {A:Around} {E:Value→Shared→Prop}
end
section
variable {X:Cx} {pins:List (Addr × Obj)} {σ:St} {H:Hp} {s:Shared} {a:Addr} {y:V} {u:Value} {A:Around} {E:Value→Shared→Prop}
end
open PySem PySem.Spec PyProof.Rows
section
variable {X:Cx}
theorem pZ:cz X (.builtin "len") (fun xs H Q=>∃ a kvs,xs=[V.ref a]∧H a=some (.dK kvs)∧Q (.int kvs.length) H):=by
  intro pins s σ H xs us Q I r h;obtain ⟨a,kvs,rfl,ha,q⟩:=h;obtain ⟨u,rfl,ru⟩:=dg r;cases ru;exact vN I (.inl ha) fun t s' I'=>⟨.int kvs.length,H,I',⟨t,rfl⟩,q⟩
end
section
variable {κ:Type} [DecidableEq κ]
end
end L2
set_option maxHeartbeats 4000000
namespace L2
open PySem PySem.Spec PyProof.Rows
theorem Inv.adopt {X:Cx} {pins:List (Addr × Obj)} {σ:St} {H:Hp} {s:Shared} {a:Addr} {o:HO} (I:Inv X pins σ H s) (hn:H a=none) (hs:X.s₀.heap.objs.size≤a) (hL:a≠X.env.locals) (hC:∀ x c,X.env.cells.lookup x=some c→c≠a) (hp:∀ p∈X.pn++pins,p.1≠a)
    (new:ObjOk X.prog X.w (upd H a o) s.heap a o):Inv X pins σ (upd H a o) s:=by
  have ne:∀ b u,X.s₀.heap.get? b=some u→b≠a:=fun b u e=>aas (aao (aag e) hs);refine ⟨I.ok,I.os,I.bare,⟨I.base.keep,I.base.slot,fun b u e n hx=>?_,I.base.there,fun b xs e=>?_,fun b u xs e=>?_,fun b ps e=>?_⟩,I.loc,I.cell,?_,fun x c e=>?_,fun p hq=>?_,fun b u e=>?_,I.len⟩
  · rw [aj (ne b u e)];exact I.base.free b u e n hx
  · have q:=I.base.tups b xs e;rw [aj (ap q hn)];exact q
  · have q:=I.base.frzs b u xs e;rw [aj (ap q hn)];exact q
  · obtain ⟨m,q⟩:=I.base.tbls b ps e;exact ⟨m,by rw [aj (ap q hn)];exact q⟩
  · rw [aj (abt hL)];exact I.free
  · rw [aj (hC x c e)];exact I.freeC x c e
  · obtain ⟨h1,h2,h3⟩:=I.pin p hq;exact ⟨h1,by rw [aj (hp p hq)];exact h2,h3⟩
  · by_cases hb:b=a
    · subst hb;rw [ac] at e;cases e;exact new
    · rw [aj hb] at e;exact (I.hok b u e).stay (fun c v _ q=>q) (fun c q=>by rw [aj (ap q hn)];exact q) fun c xs q=>by rw [aj (ap q hn)];exact q
def CellsIn (E:Env):List (Str × Addr)→Prop
  | []=>True
  | p :: r=>E.cells.lookup p.1=some p.2∧CellsIn E r
theorem CellsIn.get {E:Env}:∀ {cl:List (Str × Addr)} {x:Str} {c:Addr},CellsIn E cl→cl.lookup x=some c→E.cells.lookup x=some c:=by
  intro cl x c h e;have hm:=aa0 e;clear e
  induction cl with
  | nil=>exact nomatch hm
  | cons p r ih =>
    rcases aai.mp hm with q|q
    · have:=h.1;rw [← q] at this;exact this
    · exact ih h.2 q
def CapOk (XE:Env) (sc:Scope) (XN:List Str):List Str→List (Option Nat)→Prop
  | [],[]=>True
  | _ :: n,none :: c=>CapOk XE sc XN n c
  | x :: n,some i :: c=>(XN[i]?=some x∧(XE.kindOf x=some .cell∨XE.kindOf x=some .free)∧(sc.names.lookup x=some .cell∨sc.names.lookup x=some .free))∧CapOk XE sc XN n c
  | _,_=>False
def uR (σ:St) (o:Option Nat):Option V:=match o with
  | none=>none
  | some i=>(σ[i]?).join
def aG (cap:List (Option Nat)) (σ:St):St:=cap.map (uR σ)
theorem CapOk.len {XE:Env} {sc:Scope} {XN:List Str}:∀ {n:List Str} {c:List (Option Nat)},CapOk XE sc XN n c→c.length=n.length
  | [],[],_=>rfl
  | _ :: _,none :: _,h=>congrArg (·+1) (CapOk.len (n:=_) (c:=_) h)
  | _ :: _,some _ :: _,h=>congrArg (·+1) (CapOk.len h.2)
  | [],_ :: _,h=>(show False from h).elim
  | _ :: _,[],h=>(show False from h).elim
theorem CapOk.get {XE:Env} {sc:Scope} {XN:List Str} {σ:St}:∀ {n:List Str} {c:List (Option Nat)} {j:Nat} {x:Str} {v:V},CapOk XE sc XN n c→n[j]?=some x→(aG c σ)[j]?=some (some v) →
    ∃ i:Nat,XN[i]?=some x∧σ[i]?=some (some v)∧(XE.kindOf x=some .cell∨XE.kindOf x=some .free)∧(sc.names.lookup x=some .cell∨sc.names.lookup x=some .free)
  | [],[],_,_,_,_,h,_=>by simp at h
  | y :: n,none :: c,0,x,v,_,_,e=>by simp [aG,uR] at e
  | y :: n,none :: c,j+1,x,v,h,h1,e=>CapOk.get (n:=n) (c:=c) (j:=j) h (by simpa using h1) (by simpa [aG] using e)
  | y :: n,some i :: c,0,x,v,h,h1,e=>by
    simp at h1;subst h1;refine ⟨i,h.1.1,?_,h.1.2⟩;simp only [aG,uR,aaF,List.getElem?_cons_zero] at e;cases q:σ[i]? with
    | none=>rw [q] at e;simp at e
    | some w=>rw [q] at e;simp at e;rw [e]
  | y :: n,some i :: c,j+1,x,v,h,h1,e=>CapOk.get (n:=n) (c:=c) (j:=j) h.2 (by simpa using h1) (by simpa [aG] using e)
  | [],_ :: _,_,_,_,h,_,_=>(show False from h).elim
  | _ :: _,[],_,_,_,h,_,_=>(show False from h).elim
def ah (X:Cx) (scope:Scope) (cl:List (Str × Addr)) (NY:List Str) (fp:List Addr) (s:Shared) (H:Hp) (C:Addr):Cx where
  prog:=X.prog
  w:=X.w
  K:=X.K
  mg:=X.mg
  base:=X.base
  A:=X.A
  N:=NY
  s₀:=s
  H₀:=H
  env:=compEnvC scope cl C X.env
  outer:=X.stack
  stack:=X.stack
  ex:=fp
  fn:=fun _=>false
  calm:=X.calm
  pn:=[]
  xe:=fun _ _=>False
def iV (X:Cx) (ifs:List Expr) (t:TT):Prop :=
  ∀ (pins:List (Addr × Obj)) (s:Shared) (σ:St) (H:Hp) (Q:Bool→Hp→Prop),Inv X pins σ H s→t σ H Q →
    wpAny (model X.prog X.w) X.A (forIn ifs true fun c r=>if r=true then do let ok ← isTrue c X.env (eval c X.env);pure (ForInStep.yield ok) else pure (ForInStep.yield r)) (TP X pins σ Q) X.xe s
theorem bw {X:Cx}:iV X [] (fun _ H Q=>Q true H):=fun _ _ _ H _ I h=>wpAny_tests_nil ⟨H,I,h⟩
theorem jP {prog:Program} {w:World} {A:Around} {R:Result→Shared→Prop} {s:Shared} {elt target iter:Expr} {ifs:List Expr} {scope:Scope} {pos:Pos} {it acc:Value} {env:Env} (J:Nat→Shared→Prop)
    (turn:∀ n s,J n s→wpAny (model prog w) A (pyNext it) (fun r s₁=>match r with
      | none=>R (.ok .next) s₁
      | some v=>wpAny (model prog w) A (letOwnedTupleGo target it v) (fun _ s₁'=>wpAny (model prog w) A (assign target env v) (fun _ s₂ =>
          wpAny (model prog w) A (forIn ifs true fun c r=>if r=true then do let ok ← isTrue c env (eval c env);pure (ForInStep.yield ok) else pure (ForInStep.yield r)) (fun ok s₃ =>
            if ok=true then wpAny (model prog w) A (eval elt env) (fun x s₄ =>
              wpAny (model prog w) A (call (.builtin "list.append") [acc,x]) (fun _ s₅=>∃ m,m < n∧J m s₅) (fun _ _=>False) s₄) (fun _ _=>False) s₃
            else ∃ m,m < n∧J m s₃) (fun _ _=>False) s₂) (fun _ _=>False) s₁') (fun _ _=>False) s₁) (fun _ _=>False) s)
    (n:Nat) (h:J n s) :
    codeAny (model prog w) A (.compLoop (.ListComp elt [⟨target,iter,ifs,0⟩] scope pos) 0 it acc env) R s:=by
  refine codeAny_loop rfl J (fun n s hI=>?_) n h;show wpAny _ A ((compTurn (.ListComp elt [⟨target,iter,ifs,0⟩] scope pos) 0 it acc env).onRaise (fun x=>do noteFrame x env;theTreesLotGoes x)) _ _ s;refine wpAny_noted ?_;rw [compTurn_list];refine wpAny_bind (wpAny_standAt (wpAny_bind (wpAny_mono (turn n s hI) (fun r s₁ h₁=>?_) fun _ _ h'=>h'.elim)));cases r with
  | none=>exact wpAny_pure h₁
  | some v =>
    refine wpAny_bind (wpAny_mono h₁ (fun _ s₁' h₁'=>?_) fun _ _ h'=>h'.elim);refine wpAny_bind (wpAny_mono h₁' (fun _ s₂ h₂=>wpAny_bind (wpAny_mono h₂ (fun ok s₃ h₃=>?_) fun _ _ h'=>h'.elim)) fun _ _ h'=>h'.elim);cases ok with
    | false=>exact wpAny_pure ⟨rfl,h₃⟩
    | true =>
      exact wpAny_bind (wpAny_bind (wpAny_mono h₃ (fun x s₄ h₄=>wpAny_bind (wpAny_mono h₄ (fun _ s₅ h₅=>wpAny_pure (wpAny_pure ⟨rfl,h₅⟩)) fun _ _ h'=>h'.elim)) fun _ _ h'=>h'.elim))
abbrev rS (cap:List (Option Nat)) (g:TG) (tt:TT) (te:TE) (σ:St) (Q:VK) (J:It) (H1:Hp):Prop:=∃ W:Nat→Nat→List V→Hp→Prop,(∃ m,W 0 m [] H1)∧∀ i m ys H,W i m ys H →
  (J.stop i H∧∀ p,H p=none→Q (.ref p) (upd H p (.lst ys))) ∨
  (J.go i H∧ys.length < sizeLine∧∀ x H',J.yld i H x H'→g x (aG cap σ) H' fun σ2 H2=>tt σ2 H2 fun b H3=>if b=true then te σ2 H3 fun v H4=>∃ m',m' < m∧W (i+1) m' (ys++[v]) H4 else ∃ m',m' < m∧W (i+1) m' ys H3)
def tLc (cap:List (Option Nat)) (wi:TI) (g:TG) (tt:TT) (te:TE):TE:=fun σ H Q=>wi σ H (rS cap g tt te σ Q)
section
variable {X:Cx}
theorem ju {elt tg iter:Expr} {ifs:List Expr} {scope:Scope} {pos:Pos} {cl:List (Str × Addr)} {NY:List Str} {cap:List (Option Nat)} {wi:TI} {g:TG} {tt:TT} {te:TE} (hc:X.calm=true) (hi:PI X tg iter wi)
    (hclos:closureFor scope X.env=pure cl) (hci:CellsIn X.env cl) (hcap:CapOk X.env (relabel scope X.env) X.N NY cap)
    (hb:∀ fp s H C,PG (ah X scope cl NY fp s H C) tg g∧iV (ah X scope cl NY fp s H C) ifs tt∧PE (ah X scope cl NY fp s H C) elt te)
    (hkind:scope.kind=.function:=by rfl) (hnc:(scope.names.all fun y=>y.2 != .cell)=true:=by rfl)
    (hnames:(scope.names.all fun y=>y.2 != .local || scope.names.lookup y.1 == some .local)=true:=by rfl)
    (hhas:((relabel scope X.env).names.all fun p=>(p.2 != .cell && p.2 != .free) || (cl.lookup p.1).isSome)=true:=by rfl)
    (hs:∀ x,foldedSetIterable iter X.env x=pure x:=by intro _;rfl) :
    PE X (.ListComp elt [⟨tg,iter,ifs,0⟩] scope pos) (tLc cap wi g tt te):=by
  have hnc':∀ y∈scope.names,y.2≠.cell:=fun y hy=>by
    have q:=aaH.mp hnc y hy;simpa using q
  have hnames':∀ y∈scope.names,y.2=.local→scope.names.lookup y.1=some .local:=fun y hy e=>by
    have q:=aaH.mp hnames y hy;rw [e] at q;simpa using q
  intro pins s σ H Q I h;rw [eval_ListComp];refine wpAny_comprehension_free (use:=none) rfl hs hclos hkind hnames' (wpAny_mono (hi pins s σ H _ I h) (fun v s1 h1=>wpAny_mono h1 (fun itv s2 h2=>?_) fun _ _ e=>e) fun _ _ e=>e);obtain ⟨it,fp,tn,J,H2,e,I2,T,st2,f2,W,⟨m0,w0⟩,turn⟩:=h2;subst e;refine wpAny_newObj_type (wpAny_newFunctionEnv hnc' (by intro y hy;simp at hy) (fun h₁ hns₁ hsb₁=>?_) hkind);dsimp only at hns₁ hsb₁ ⊢;generalize hH2:s2.heap.push { cls:=.type "list",dict:=none,data:=.seq ([]:List Value).toArray }=G2 at hns₁ hsb₁ ⊢;have hC:G2.objs.size=s2.heap.objs.size+1:=by rw [← hH2,abM]
  have hDC:s2.heap.objs.size≠G2.objs.size:=by rw [hC];exact aas (abX _)
  have hDlt:s2.heap.objs.size≤G2.objs.size:=by rw [hC];exact abT _
  have below:∀ b,b < s2.heap.objs.size→b≠G2.objs.size∧b≠s2.heap.objs.size:=fun b hb=>⟨by rw [hC];exact aas (abk hb),aas hb⟩
  have old:∀ b o,s2.heap.get? b=some o→h₁.get? b=some o:=fun b o e=>hsb₁.extBut b o (below b (aag e)).1 (aac _ (hH2 ▸ aac _ e));have hacc:h₁.get? s2.heap.objs.size=some { cls:=.type "list",data:=.seq ([]:List Value).toArray 0 }:=hsb₁.extBut _ _ hDC (aac _ (hH2 ▸ aap _ rfl));have fpl:∀ b∈fp,b < s2.heap.objs.size:=fun b hb=>by
    obtain ⟨o,e,_⟩:=T.obj _ _ st2 b hb;exact aag e
  have freshD:H2 s2.heap.objs.size=none:=I2.hok.fresh (aah _);have freshC:H2 G2.objs.size=none:=I2.hok.fresh hDlt;have cellLt:∀ x c,X.env.cells.lookup x=some c→c < s2.heap.objs.size:=fun x c e=>by
    obtain ⟨v,q⟩:=I2.cell x c e;exact q.lt
  have hclX:∀ x c,cl.lookup x=some c→X.env.cells.lookup x=some c:=fun x c e=>hci.get e;obtain ⟨hbg,hbt,hbe⟩:=hb fp s2 H2 G2.objs.size;have okY:(ah X scope cl NY fp s2 H2 G2.objs.size).Ok:=by
    refine ⟨I2.ok.mod,hkind,I2.ok.glob,I2.ok.blt,hDlt,fun x y c e1 e2=>I2.ok.inj x y c (hclX x c e1) (hclX y c e2),fun x hx=>?_,fun x c hf _=>?_,I2.ok.hd,I2.ok.frames,.inl rfl,fun b hb=>⟨(below b (fpl b hb)).1,fun x c e z=>?_⟩,I2.bs,
      aaK I2.ok.bsz I2.sz,fun b o e hb=>?_,fun b hb hz=>?_,I2.stack,I2.stkFree⟩
    · have hx':(relabel scope X.env).names.lookup x=some .cell∨(relabel scope X.env).names.lookup x=some .free:=hx;have key:∀ k,(relabel scope X.env).names.lookup x=some k→(k=.cell∨k=.free)→∃ c,cl.lookup x=some c:=fun k e hk=>by
        have q:=aaH.mp hhas (x,k) (aa0 e);have q':(cl.lookup x).isSome=true:=by
          rcases hk with rfl|rfl <;> simpa using q
        exact abd.mp q'
      rcases hx' with e|e
      · exact key _ e (.inl rfl)
      · exact key _ e (.inr rfl)
    · exact absurd (show false=true from hf) aae
    · exact (f2 b hb).2.2.2.2.1 x c (hclX x c e) z
    · rcases (f2 b hb).2.2.2.1 with z|z
      · exact I2.ok.noex b o e z
      · exact absurd (aao (aag (I2.ok.bs b o e).1) z) (aaZ _)
    · rcases aai.mp (I2.stkSub b hz) with z|z
      · exact (f2 b hb).2.1 z
      · exact (f2 b hb).2.2.1 z
  have fpYs:∀ {H':Hp} {n:Nat} {its:List Value},(∀ b∈fp,H' b=none)→∀ b∈fp,gn (ah X scope cl NY fp s2 H2 G2.objs.size) [(s2.heap.objs.size,{ cls:=.type "list",data:=.seq its.toArray n })] H' b:=fun {H' n its} hn b hb=>by
    refine ⟨hn b hb,(below b (fpl b hb)).1,fun hz=>?_,.inl hb,fun x c e=>(f2 b hb).2.2.2.2.1 x c (hclX x c e),fun p hp=>?_⟩
    · rcases aai.mp (I2.stkSub b hz) with z|z
      · exact (f2 b hb).2.1 z
      · exact (f2 b hb).2.2.1 z
    · have e:p=(s2.heap.objs.size,{ cls:=.type "list",data:=.seq its.toArray n }):=by simpa [ah] using hp
      rw [e];exact abt (below b (fpl b hb)).2
  have nostk:∀ b,s2.heap.objs.size≤b→b∉frs X.stack:=fun b hb hz=>by
    rcases aai.mp (I2.stkSub b hz) with z|z
    · have:=I2.lt;rw [← z] at this;exact absurd (aao this hb) (aaZ _)
    · exact I2.nofs hb z
  have IY0:Inv (ah X scope cl NY fp s2 H2 G2.objs.size) [(s2.heap.objs.size,{ cls:=.type "list",data:=.seq ([]:List Value).toArray 0 })] (aG cap σ) H2 { s2 with heap:=h₁,toks:=s2.toks+([]:List (Str × Value)).length }:=by
    refine ⟨okY,rfl,I2.bare,Un.kept old,⟨_,hns₁,fun j x v e1 e2 e3=>?_⟩,fun x c e=>?_,freshC,fun x c e=>I2.freeC x c (hclX x c e),fun p hp=>?_,I2.hok.kept old,?_⟩
    · obtain ⟨i,h1,h2,h3,h4⟩:=CapOk.get (σ:=σ) hcap e1 e2;obtain ⟨m,hn,hl⟩:=I2.loc;have vis:Vis X.env.scope x:=by rcases h3 with z|z;exact .inr (.inl z);exact .inr (.inr z)
      obtain ⟨u,r,l⟩:=hl i x v h1 h2 vis;refine ⟨u,r,.inr ⟨h4,?_⟩⟩;rcases l with ⟨k,_⟩|⟨_,c,e,z⟩
      · rcases h3 with z|z <;> (rw [k] at z;cases z)
      · obtain ⟨c',e'⟩:=okY.has x h4;have e':cl.lookup x=some c':=e';have e'':=hclX x c' e';rw [e] at e'';cases e'';obtain ⟨o,ho,hd⟩:=z;exact ⟨c,e',o,old _ _ ho,hd⟩
    · obtain ⟨v,o,ho,hd⟩:=I2.cell x c (hclX x c e);exact ⟨v,o,old _ _ ho,hd⟩
    · have e:p=(s2.heap.objs.size,{ cls:=.type "list",data:=.seq ([]:List Value).toArray 0 }):=by simpa [ah] using hp
      rw [e];exact ⟨hacc,freshD,hDC,nostk _ (aah _),fun v z=>by cases z⟩
    · show (aG cap σ).length=NY.length;unfold aG;rw [aak];exact hcap.len
  have hcY:(ah X scope cl NY fp s2 H2 G2.objs.size).calm=true:=hc;have stW:tn 0 h₁:=T.keep _ _ _ st2 fun b _ o e=>old b o e;have loop:∀ s₃:Shared,s₃={ s2 with heap:=h₁,toks:=s2.toks+([]:List (Str × Value)).length } →
      codeAny (model X.prog X.w) X.A (.compLoop (.ListComp elt [⟨tg,iter,ifs,0⟩] scope pos) 0 (.ref it) (.ref s2.heap.objs.size) (compEnvC scope cl G2.objs.size X.env))
        (compPost (model X.prog X.w) X.A X.xe none (EP X pins σ Q) (.ref s2.heap.objs.size) G2.objs.size) s₃:=by
    rintro s₃ rfl;refine jP (fun n s'=>∃ i ys its k H',Inv (ah X scope cl NY fp s2 H2 G2.objs.size) [(s2.heap.objs.size,{ cls:=.type "list",data:=.seq its.toArray k })] (aG cap σ) H' s'∧Vals ys its∧ys.length≤sizeLine∧tn i s'.heap∧(∀ b∈fp,H' b=none)∧W i n ys H') ?_ m0
      ⟨0,[],[],0,H2,IY0,.nil,aaR _,stW,fun b hb=>(f2 b hb).1,w0⟩
    rintro n s3 ⟨i,ys,its,k,H3,I3,rv,hz,st3,fr3,w3⟩;rcases turn i n ys H3 w3 with ⟨stop,qn⟩|⟨go,hlt,step⟩
    · refine wpAny_mono (T.done (ah X scope cl NY fp s2 H2 G2.objs.size) rfl rfl rfl hcY i _ s3 _ H3 (fun _ _=>False) I3 (fpYs fr3) st3 stop) (fun r s4 ⟨hr,I4⟩=>?_) fun _ _ z=>z;subst hr;obtain ⟨m,hnC,_⟩:=id I4.loc;have hnC:s4.heap.Ns G2.objs.size m:=hnC;refine ⟨m,hnC,fun h' hsb=>?_⟩;have pD:=(I4.pin (s2.heap.objs.size,{ cls:=.type "list",data:=.seq its.toArray k }) (by simp [ah]))
      have un:Un (frs X.stack) fp H2 H3 s2.heap s4.heap:=I4.base;have I5:Inv X pins σ H3 s4:=I2.call' (ch:=fp) I4.os un I4.hok I4.bare fun b hb=>⟨(f2 b hb).2.2.2.1,(f2 b hb).2.1,(f2 b hb).2.2.2.2.1,(f2 b hb).2.2.2.2.2⟩
      have cC:H3 G2.objs.size=none:=I4.free;have szX:X.s₀.heap.objs.size≤s2.heap.objs.size:=I2.sz;have I6:Inv X pins σ H3 { s4 with heap:=h' }:=I5.turned (t':=s4.toks) (it:=G2.objs.size) (fun b o hb e=>hsb.extBut b o hb e) cC (aaO (aao I2.lt hDlt)) (.inr (aaK szX hDlt))
        (fun x c e z=>absurd (cellLt x c e) (by rw [z];exact aci.mpr hDlt)) (fun p hp z=>absurd (aag (I2.pin p hp).1) (by rw [z];exact aci.mpr hDlt))
      have I7:Inv X pins σ (upd H3 s2.heap.objs.size (.lst ys)) { s4 with heap:=h' }:=I6.adopt pD.2.1 szX (aaO I2.lt) (fun x c e=>aas (cellLt x c e)) (fun p hp=>aas (aag (I2.pin p hp).1))
        ⟨hz,its,k,rv,hsb.extBut _ _ hDC pD.1⟩
      exact ⟨.ref s2.heap.objs.size,_,I7,rfl,qn _ pD.2.1⟩
    · refine wpAny_mono (T.item (ah X scope cl NY fp s2 H2 G2.objs.size) rfl rfl rfl hcY i _ s3 _ H3 (fun _ _=>False) I3 (fpYs fr3) st3 go) (fun r s4 ⟨u,hr,h4⟩=>?_) fun _ _ z=>z;subst hr;refine wpAny_mono h4 (fun _ s5 ⟨x,H5,I5,r5,y5,st5,fr5⟩=>?_) fun _ _ z=>z;have I5':=I5.pinned (fpYs fr5) (T.obj _ _ st5);refine wpAny_mono (hbg _ s5 _ H5 x u _ I5' r5 (step x H5 y5)) (fun _ s6 ⟨σ6,H6,I6,q6⟩=>?_) fun _ _ z=>z;refine wpAny_mono (hbt _ s6 σ6 H6 _ I6 q6) (fun ok s7 ⟨H7,I7,q7⟩=>?_) fun _ _ z=>z;have lenY:∀ {σ':St} {pn} {H'} {s'},Inv (ah X scope cl NY fp s2 H2 G2.objs.size) pn σ' H' s'→(aG cap σ).length=σ'.length:=fun {σ' pn H' s'} Z=>IY0.len.trans Z.len.symm;have captured:∀ {σ':St} {pn} {H'} {s'},Inv (ah X scope cl NY fp s2 H2 G2.objs.size) pn σ' H' s'→Inv (ah X scope cl NY fp s2 H2 G2.objs.size) pn (aG cap σ) H' s':=fun {σ' pn H' s'} Z=>by
        refine ⟨Z.ok,Z.os,Z.bare,Z.base,?_,Z.cell,Z.free,Z.freeC,Z.pin,Z.hok,IY0.len⟩;obtain ⟨m,hn,_⟩:=Z.loc;refine ⟨m,hn,fun j x v e1 e2 e3=>?_⟩;obtain ⟨i',h1,h2,h3,h4⟩:=CapOk.get (σ:=σ) hcap e1 e2;obtain ⟨m',hn',hl⟩:=I2.loc;have vis:Vis X.env.scope x:=by rcases h3 with z|z;exact .inr (.inl z);exact .inr (.inr z)
        obtain ⟨u,r,l⟩:=hl i' x v h1 h2 vis;refine ⟨u,r,.inr ⟨h4,?_⟩⟩;rcases l with ⟨kk,_⟩|⟨_,c,e,z⟩
        · rcases h3 with z|z <;> (rw [kk] at z;cases z)
        · obtain ⟨c',e'⟩:=okY.has x h4;have e':cl.lookup x=some c':=e';have e'':=hclX x c' e';rw [e] at e'';cases e'';obtain ⟨o,ho,hd⟩:=z;have nfp:c∉fp:=fun hz=>(f2 c hz).2.2.2.2.1 x c e rfl;obtain ⟨sl,q⟩:=Z.base.any (show s2.heap.get? c=some o from ho) (I2.freeC x c e) nfp;exact ⟨c,e',_,q,hd⟩
      have again:∀ {ys':List V} {its':List Value} {k':Nat} {σ':St} {H':Hp} {s':Shared},Inv (ah X scope cl NY fp s2 H2 G2.objs.size) ([(s2.heap.objs.size,{ cls:=.type "list",data:=.seq its'.toArray k' })]++aZ fp s5.heap) σ' H' s'→Vals ys' its'→ys'.length≤sizeLine →
          (∃ m',m' < n∧W (i+1) m' ys' H')→∃ m,m < n∧∃ i ys its k H',Inv (ah X scope cl NY fp s2 H2 G2.objs.size) [(s2.heap.objs.size,{ cls:=.type "list",data:=.seq its.toArray k })] (aG cap σ) H' s'∧Vals ys its∧ys.length≤sizeLine∧tn i s'.heap∧(∀ b∈fp,H' b=none)∧W i m ys H':=fun {ys' its' k' σ' H' s'} Z rv' hz' hw=>by
        obtain ⟨m',hm,w'⟩:=hw;refine ⟨m',hm,i+1,ys',its',k',H',captured Z.unpinned,rv',hz',T.keep _ _ _ st5 fun b hb o e=>(Z.pin (b,o) (aaa _ (aaa _ (a7 hb e)))).1,fun b hb=>?_,w'⟩;obtain ⟨o,e,d⟩:=T.obj _ _ st5 b hb;exact (Z.pin (b,o) (aaa _ (aaa _ (a7 hb e)))).2.1
      cases ok with
      | false =>
        rw [if_neg aae] at q7 ⊢;exact again I7 rv hz q7
      | true =>
        rw [if_pos rfl] at q7 ⊢;refine wpAny_mono (hbe _ s7 σ6 H7 _ I7 q7) (fun xv s8 ⟨v,H8,I8,r8,q8⟩=>?_) fun _ _ z=>z;have pD:=I8.pin (s2.heap.objs.size,{ cls:=.type "list",data:=.seq its.toArray k }) (by simp [ah]);have hlen:=rv.length;refine append_at pD.1 (fun h9 hs9 hD9=>?_) (by rw [aaf];lia);have I9:Inv (ah X scope cl NY fp s2 H2 G2.objs.size) (aZ fp s5.heap) σ6 H8 s8:=I8.pins_of fun p hp=>I8.pin p (aaa _ (aaa _ hp));have I10:Inv (ah X scope cl NY fp s2 H2 G2.objs.size) (aZ fp s5.heap) σ6 H8 { s8 with heap:=h9 }:=I9.turned (t':=s8.toks) (it:=s2.heap.objs.size) (fun b o hb e=>hs9.extBut b o hb e) pD.2.1 hDC (.inr (aah _))
          (fun x c e=>aas (cellLt x c (hclX x c e))) fun p hp=>by
            have hp':p∈aZ fp s5.heap:=by simpa [ah] using hp
            exact abt (abt (below _ (fpl _ (cW hp').1)).2)
        have I11:Inv (ah X scope cl NY fp s2 H2 G2.objs.size) ([(s2.heap.objs.size,{ cls:=.type "list",data:=.seq (its++[xv]).toArray (k+1) })]++aZ fp s5.heap) σ6 H8 { s8 with heap:=h9 }:=I10.pins_of fun p hp=>by
          rcases aau.mp hp with z|z
          · have e:p=(s2.heap.objs.size,{ cls:=.type "list",data:=.seq (its++[xv]).toArray (k+1) }):=by simpa using z
            rw [e];refine ⟨?_,pD.2.1,hDC,nostk _ (aah _),fun v z=>by cases z⟩;rw [List.push_toArray] at hD9;exact hD9
          · exact I10.pin p (aaa _ z)
        exact again I11 (rv.append (.cons r8 .nil)) (by rw [aan,abm];exact hlt) q8
  exact codeAny_compStart_list (loop _ rfl) (T.self _ 0 _ _ _ stW (loop _ rfl))
end
open PySem PySem.Spec PyProof.Rows
section
variable {X:Cx}
theorem bq {n:String}:cz X (.builtin "isinstance") (fun xs H Q=>∃ x t b,xs=[x,.ty n]∧TyOf X.K H x t∧aaG X.K t (.type n)=some b∧Q (.bl b) H):=by
  intro pins s σ H xs us Q I r h;obtain ⟨x,t,b,rfl,ty,e,q⟩:=h;obtain ⟨u,w',rfl,rx,rt⟩:=qb r;cases rt;exact pE I rx ty e fun tk=>⟨.bl b,H,I.tok _,rfl,q⟩
theorem lI:OpR X (binaryOp .FloorDiv) (rI (fun _ j=>0 < j∧j < 2 ^ 64) fun i j=>.int (i / j)):=opI fun i j _ _ _ _ _ hc q=>by
  have h1:(0:Int) < j:=hc.1;have h2:j < 2 ^ 64:=hc.2;refine floordiv_int (by lia) (by rw [Int.fdiv_eq_ediv_of_nonneg i (by lia)];exact q) (.inl (PyProof.noPylong_of_log2 ?_));have h3:j.natAbs < 2 ^ 64:=by lia
  have h4:j.natAbs≠0:=by lia
  have h5:j.natAbs.log2 < 64:=(Nat.log2_lt h4).mpr h3;lia
def Cal (P:Program) (w:World) (K:aab) (mg:Str→Option Value) (base:Heap) (x:Str) (k:Nat) (ps:List Str) (sp:Sp):Prop :=
  ∃ f fd,FnOk P w K mg base CX0 k f fd ps sp∧Binds K fd ps []∧aaS K (.ref f)=true∧mg x=some (.ref f)
theorem al {x:Str} {k k':Nat} {ps:List Str} {sp:Sp} {e:Expr} {es:List Expr} {t:TA} {p pos:Pos} (C:Cal X.prog X.w X.K X.mg X.base x k ps sp) (hr:Room k' X.A) (hk:k≤k') (hg:Gl X x) (ha:PA X (e :: es) t)
    (hdb:(x == ("__debug__":Str))=false:=by decide) (he:starEach (e :: es) X.env=(false,eval e X.env) :: starEach es X.env:=by rfl) (hpl:(backTo pos (starEach es X.env)).any (·.1)=false:=by rfl) :
    PE X (.Call (.Name x p) (e :: es) [] pos) (nH sp [] E0 t):=by
  obtain ⟨f,fd,F,b,kp,m⟩:=C;exact kn F (hr.mono hk) hg m kp b .nil sZ ha hdb he hpl
end
theorem Same.new {H:Hp} {p:Addr} (h:H p=none) (o:HO):Same H (upd H p o):=fun b u q=>by rw [aj (ap q h)];exact q
def But (w:Addr) (H H':Hp):Prop:=∀ b o,b≠w→H b=some o→H' b=some o
theorem But.refl {w:Addr} {H:Hp}:But w H H:=fun _ _ _ h=>h
theorem But.trans {w:Addr} {H H1 H2:Hp} (a:But w H H1) (b:But w H1 H2):But w H H2:=fun c o n h=>b c o n (a c o n h)
theorem But.of {w:Addr} {H H':Hp} (a:Same H H'):But w H H':=fun c o _ h=>a c o h
theorem But.new {w:Addr} {H:Hp} {p:Addr} (h:H p=none) (o:HO):But w H (upd H p o):=But.of (Same.new h o)
theorem But.put {w:Addr} {H:Hp} {o:HO}:But w H (upd H w o):=fun b u n q=>by rw [aj n];exact q
end L2
namespace Srt
open PySem PySem.W PyProof.Rows
def run {α:Type} (lt:Nat→Nat→Bool):KasT α→α
  | .ret a=>a
  | .ask i j k=>run lt (k (lt i j))
section
variable (key:Nat→Int)
abbrev lt:Nat→Nat→Bool:=fun i j=>decide (key i < key j)
def kp (p:Array Nat) (x:Nat):Int:=key (p.getD x 0)
variable {key}
end
end Srt
namespace Srt
open PySem PySem.W PyProof.Rows
def Ent (n:Nat) (p:Array Nat):Prop:=∀ x,p.getD x 0 < n
section
variable {prog:Program} {w:World} {A:Around} {E:Value→Shared→Prop} {s:Shared}
end
end Srt
set_option maxHeartbeats 2000000
namespace L2
open PySem PySem.Spec PyProof.Rows
inductive EqR (K:aab) (H:Hp):Nat→V→V→Bool→Prop
  | flat {n:Nat} {x y:V} (fx:dQ x=true) (fy:dQ y=true):EqR K H n x y (eqV x y)
  | lens {n:Nat} {a b:Addr} {xs ys:List V} (ha:SqL K H a xs) (hb:SqL K H b ys) (hl:xs.length≠ys.length):EqR K H (n+1) (.ref a) (.ref b) false
  | lst {n:Nat} {a b:Addr} {xs ys:List V} {e:Nat→Bool} (ha:SqL K H a xs) (hb:SqL K H b ys) (hl:xs.length=ys.length) (h:∀ (j:Nat) x y,xs[j]?=some x→ys[j]?=some y→EqR K H n x y (e j)):EqR K H (n+1) (.ref a) (.ref b) ((abj xs.length).all e)
  | tup {n:Nat} {a b:Addr} {xs ys:List V} {e:Nat→Bool} (ha:SqT K H a xs) (hb:SqT K H b ys) (h:∀ (j:Nat) x y,xs[j]?=some x→ys[j]?=some y→EqR K H n x y (e j)) :
      EqR K H (n+1) (.ref a) (.ref b) ((abj (min xs.length ys.length)).all e && xs.length == ys.length)
theorem l6 {x:V} (f:dQ x=true):eqV x x=true:=by
  cases x <;> first|rfl|(simp [eqV];done)|exact absurd (show false=true from f) aae
section
variable {X:Cx} {pins:List (Addr × Obj)} {σ:St} {H:Hp} {s:Shared}
theorem EqR.self (I:Inv X pins σ H s) {n:Nat} {x y:V} {b:Bool} (h:EqR X.K H n x y b):x=y→b=true:=by
  induction h with
  | flat fx fy=>intro e;subst e;exact l6 fx
  | lens ha hb hl =>
    intro e;injection e with e;subst e
    exact absurd (by rw [I.list_inj ha hb]) hl
  | @lst n a b xs ys e ha hb hl h ih =>
    intro q;injection q with q;subst q
    obtain rfl:=I.list_inj ha hb;rw [aaH];intro j hj;have hj':j < xs.length:=abe.mp hj;exact ih j _ _ (aad hj') (aad hj') rfl
  | @tup n a b xs ys e ha hb h ih =>
    intro q;injection q with q;subst q
    obtain rfl:=I.tuple_inj ha hb;rw [abz,aaH];refine ⟨fun j hj=>?_,beq_self_eq_true _⟩;have hj':j < xs.length:=by have:=abe.mp hj;lia
    exact ih j _ _ (aad hj') (aad hj') rfl
theorem cc {xs:List V} {its:List Value} (r:Vals xs its) {j:Nat} (h:j < its.toArray.size):∃ x,xs[j]?=some x∧RelV x its.toArray[j]:=by
  have hl:=r.length;have h':j < xs.length:=by rw [hl];simpa using h
  obtain ⟨u,hu,ru⟩:=r.get (aad h');refine ⟨_,aad h',?_⟩;have e:its.toArray[j]=u:=by
    have : its[j]?=some u:=hu;rw [aad (by simpa using h)] at this;simpa using aaM this
  rw [e];exact ru
theorem EqR.at (I:Inv X pins σ H s) {n:Nat} {x y:V} {b:Bool} (h:EqR X.K H n x y b):∀ {A:Around} {u v:Value},RelV x u→RelV y v→A.units+n < cLine→SeqAt.EqAt A s u v b:=by
  induction h with
  | flat fx fy=>intro A u v rx ry hu;exact rq rx ry fx fy
  | @lens n a b xs ys ha hb hl =>
    intro A u v rx ry hu;cases rx;cases ry;obtain ⟨its,r,pl,_⟩:=I.list ha;obtain ⟨its2,r2,pl2,_⟩:=I.list hb;have ne:a≠b:=fun e=>by subst e;exact hl (by rw [I.list_inj ha hb])
    refine .of_refs ne (.lists_lengths pl.isList pl2.isList ?_ (by lia));rw [aaf,aaf,← r.length,← r2.length];exact bne_iff_ne.mpr hl
  | @lst n a b xs ys e ha hb hl h ih =>
    intro A u v rx ry hu;by_cases q:a=b
    · have:=(EqR.lst ha hb hl h).self I (by rw [q]);cases rx;cases ry;rw [this];subst q;exact SeqAt.EqAt.same _
    · cases rx;cases ry;obtain ⟨its,r,pl,_⟩:=I.list ha;obtain ⟨its2,r2,pl2,_⟩:=I.list hb;have e1:its.toArray.size=xs.length:=by rw [aaf,r.length]
      rw [← e1];refine .of_refs q (.lists pl.isList pl2.isList (by rw [aaf,aaf,← r.length,← r2.length];exact hl) (by lia) fun j h1 h2=>?_);obtain ⟨x,hx,rx⟩:=cc r h1;obtain ⟨y,hy,ry⟩:=cc r2 h2;exact ih j x y hx hy rx ry (by show A.units+1+n < cLine;lia)
  | @tup n a b xs ys e ha hb h ih =>
    intro A u v rx ry hu;by_cases q:a=b
    · have:=(EqR.tup ha hb h).self I (by rw [q]);cases rx;cases ry;rw [this];subst q;exact SeqAt.EqAt.same _
    · cases rx;cases ry;obtain ⟨its,r,pl,_⟩:=I.tuple ha;obtain ⟨its2,r2,pl2,_⟩:=I.tuple hb;have e1:its.toArray.size=xs.length:=by rw [aaf,r.length]
      have e2:its2.toArray.size=ys.length:=by rw [aaf,r2.length]
      rw [← e1,← e2];refine .of_refs q (.tuples pl pl2 (by lia) fun j h1 h2=>?_);obtain ⟨x,hx,rx⟩:=cc r h1;obtain ⟨y,hy,ry⟩:=cc r2 h2;exact ih j x y hx hy rx ry (by show A.units+1+n < cLine;lia)
def tX (K:aab) (neg:Bool):R2:=fun x y H Q=>∃ n a b xs ys,n≤60∧x=.ref a∧y=.ref b∧SqL K H a xs∧SqL K H b ys ∧
  ((xs.length≠ys.length∧Q (.bl neg) H)∨∃ e:Nat→Bool,xs.length=ys.length∧(∀ (j:Nat) x y,xs[j]?=some x→ys[j]?=some y→EqR K H n x y (e j))∧Q (.bl (if neg then !(abj xs.length).all e else (abj xs.length).all e)) H)
theorem ut (hu:X.A.units+64 < cLine):OpR X (compareOp .Eq) (tX X.K false):=by
  intro pins s σ H x y v u Q I rx ry h;obtain ⟨n,a,b,xs,ys,hn,rfl,rfl,ha,hb,h⟩:=h;cases rx;cases ry;obtain ⟨its,r,pl,_⟩:=I.list ha;obtain ⟨its2,r2,pl2,_⟩:=I.list hb;have e1:its.toArray.size=xs.length:=by rw [aaf,r.length]
  have e2:its2.toArray.size=ys.length:=by rw [aaf,r2.length]
  rcases h with ⟨hl,q⟩|⟨e,hl,he,q⟩
  · exact SeqAt.eq_list_lengthsAt pl.isList pl2.isList (by rw [e1,e2];exact bne_iff_ne.mpr hl) (by lia) ⟨.bl false,H,I,rfl,q⟩
  · refine SeqAt.eq_listAt (e:=e) pl.isList pl2.isList (by rw [e1,e2];exact hl) (by lia) (fun j h1 h2=>?_) ?_
    · obtain ⟨x,hx,rx⟩:=cc r h1;obtain ⟨y,hy,ry⟩:=cc r2 h2;exact (he j x y hx hy).at I rx ry (by show X.A.units+1+n < cLine;lia)
    · rw [e1];exact ⟨.bl _,H,I,rfl,q⟩
theorem uo (hu:X.A.units+64 < cLine):OpR X (compareOp .NotEq) (tX X.K true):=by
  intro pins s σ H x y v u Q I rx ry h;obtain ⟨n,a,b,xs,ys,hn,rfl,rfl,ha,hb,h⟩:=h;cases rx;cases ry;obtain ⟨its,r,pl,_⟩:=I.list ha;obtain ⟨its2,r2,pl2,_⟩:=I.list hb;have e1:its.toArray.size=xs.length:=by rw [aaf,r.length]
  have e2:its2.toArray.size=ys.length:=by rw [aaf,r2.length]
  rcases h with ⟨hl,q⟩|⟨e,hl,he,q⟩
  · exact SeqAt.RcNeAt.lists_lengths pl.isList pl2.isList (by rw [e1,e2];exact bne_iff_ne.mpr hl) (by lia) _ _ _ _ ⟨.bl true,H,I,rfl,q⟩
  · refine SeqAt.RcNeAt.lists (e:=e) pl.isList pl2.isList (by rw [e1,e2];exact hl) (by lia) (fun j h1 h2=>?_) _ _ _ _ ?_
    · obtain ⟨x,hx,rx⟩:=cc r h1;obtain ⟨y,hy,ry⟩:=cc r2 h2;exact (he j x y hx hy).at I rx ry (by show X.A.units+1+n < cLine;lia)
    · rw [e1];exact ⟨.bl _,H,I,rfl,q⟩
end
abbrev PairIn (H:Hp) (p:Int × Int) (v:V):Prop:=∃ a,v=.ref a∧H a=some (.tup [.int p.1,.int p.2])
abbrev PairsIn (H:Hp):List (Int × Int)→List V→Prop:=Paired (PairIn H)
theorem Inv.adopt2 {X:Cx} {pins:List (Addr × Obj)} {σ:St} {H:Hp} {s:Shared} {a:Addr} {o:HO} (I:Inv X pins σ H s) (hn:H a=none) (hx:∀ u,X.s₀.heap.get? a≠some u) (hL:a≠X.env.locals) (hC:∀ x c,X.env.cells.lookup x=some c→c≠a) (hp:∀ p∈X.pn++pins,p.1≠a)
    (new:ObjOk X.prog X.w (upd H a o) s.heap a o):Inv X pins σ (upd H a o) s:=by
  have ne:∀ b u,X.s₀.heap.get? b=some u→b≠a:=fun b u e z=>hx u (by rw [← z];exact e);refine ⟨I.ok,I.os,I.bare,⟨I.base.keep,I.base.slot,fun b u e n hx=>?_,I.base.there,fun b xs e=>?_,fun b u xs e=>?_,fun b ps e=>?_⟩,I.loc,I.cell,?_,fun x c e=>?_,fun p hq=>?_,fun b u e=>?_,I.len⟩
  · rw [aj (ne b u e)];exact I.base.free b u e n hx
  · have q:=I.base.tups b xs e;rw [aj (ap q hn)];exact q
  · have q:=I.base.frzs b u xs e;rw [aj (ap q hn)];exact q
  · obtain ⟨m,q⟩:=I.base.tbls b ps e;exact ⟨m,by rw [aj (ap q hn)];exact q⟩
  · rw [aj (abt hL)];exact I.free
  · rw [aj (hC x c e)];exact I.freeC x c e
  · obtain ⟨h1,h2,h3⟩:=I.pin p hq;exact ⟨h1,by rw [aj (hp p hq)];exact h2,h3⟩
  · by_cases hb:b=a
    · subst hb;rw [ac] at e;cases e;exact new
    · rw [aj hb] at e;exact (I.hok b u e).stay (fun c v _ q=>q) (fun c q=>by rw [aj (ap q hn)];exact q) fun c xs q=>by rw [aj (ap q hn)];exact q
open PySem PySem.Spec PyProof.Rows
theorem ObjOk.get {P:Program} {w:World} {H:Hp} {h:Heap} {a:Addr} {o:HO} (x:ObjOk P w H h a o):∃ u,h.get? a=some u:=by
  cases o with
  | lst xs=>obtain ⟨_,_,_,_,e⟩:=x;exact ⟨_,e⟩
  | tup xs=>obtain ⟨_,_,_,o,e,_⟩:=x;exact ⟨_,e⟩
  | dK kvs=>obtain ⟨_,_,_,_,o,_,_,e,_⟩:=x;exact ⟨_,e⟩
  | dT kvs=>obtain ⟨_,_,_,_,o,_,_,e,_⟩:=x;exact ⟨_,e⟩
  | set S n=>obtain ⟨o,_,_,_,e,_⟩:=x;exact ⟨_,e⟩
  | ins C dx fs=>obtain ⟨_,_,_,e,_⟩:=x;exact ⟨_,e⟩
  | own y=>obtain ⟨_,e⟩:=x;exact ⟨_,e⟩
  | xd fs=>obtain ⟨_,⟨_,_,_,e,_⟩,_⟩:=x;exact ⟨_,e⟩
  | rng lo hi=>obtain ⟨_,_,_,e⟩:=x;exact ⟨_,e⟩
  | frz ob u=>obtain ⟨e,_⟩:=x;exact ⟨_,e⟩
  | tbl ps=>exact ⟨_,(show h.get? a=some _ from x)⟩
  | met f y=>exact ⟨_,(show h.get? a=some _ from x)⟩
  | ext φ=>obtain ⟨_,⟨_,e⟩,_⟩:=x;exact ⟨_,e⟩
section
variable {X:Cx}
end
open PySem PySem.Spec PyProof.Rows
theorem jG {c A B:Prop} [Decidable c] (hc:c) (h:A):if decide c=true then A else B:=by
  rw [if_pos (decide_eq_true hc)];exact h
theorem jH {c A B:Prop} [Decidable c] (hc:¬ c) (h:B):if decide c=true then A else B:=by
  rw [if_neg (fun e=>hc (of_decide_eq_true e))];exact h
section
variable {X:Cx} {K:aab}
theorem gk (hK:X.K=K):IxR X (tW K):=by subst hK;exact cN
theorem gf {es:List Expr} {k:Nat} {pos:Pos} {t:TGs} {n:Nat} (hK:X.K=K) (hc:X.calm=true) (h:PGs X es t)
    (hn:(assignEach es X.env).length=n:=by rfl) (hst:(assignEach es X.env).findIdx? (·.1)=none:=by rfl):PG X (.Tuple es k pos) (vH K n t):=by subst hK;exact eD hc h hn hst
theorem nX {tg l:Expr} {tl:TE} (hK:X.K=K) (hl:PE X l tl):PI X tg l (vC K tl):=by subst hK;exact ua hl
end
def Nxt (n i:Nat) (P:Prop):Prop:=∃ m',m' < n - i∧m'=n - (i+1)∧i+1≤n∧P
theorem sH {K:aab} {a:Addr} {xs:List V} {cap:List (Option Nat)} {g:TG} {tt:TT} {te:TE} {σ:St} {H:Hp} {Q:VK} (Pv:Nat→List V→Hp→Prop) (h0:Pv 0 [] H) (hl:∀ i ys H,i≤xs.length→Pv i ys H→SqL K H a xs∧ys.length < sizeLine)
    (hs:∀ i x ys H,xs[i]?=some x→Pv i ys H→(∀ {P:Prop},P→Nxt xs.length i P)→g x (aG cap σ) H fun σ2 H2=>tt σ2 H2 fun b H3=>if b=true then te σ2 H3 fun v H4=>Nxt xs.length i (Pv (i+1) (ys++[v]) H4) else Nxt xs.length i (Pv (i+1) ys H3)) (hd:∀ ys H,Pv xs.length ys H→∀ p,H p=none→Q (.ref p) (upd H p (.lst ys))) :
    rS cap g tt te σ Q (Itl K a) H:=by
  refine ⟨fun i m ys H=>m=xs.length - i∧i≤xs.length∧Pv i ys H,⟨xs.length,by simp,aaR _,h0⟩,?_⟩;rintro i m ys H ⟨rfl,hi,p⟩;have q:=hl i ys H hi p;by_cases hlt:i < xs.length
  · refine .inr ⟨⟨xs,xs[i],q.1,by simp [hlt]⟩,q.2,fun x H' y=>?_⟩;obtain ⟨e,y⟩:=y;subst e;exact hs i x ys _ (y xs q.1) p fun h=>⟨_,by lia,rfl,hlt,h⟩
  · have e:i=xs.length:=by lia
    subst e;exact .inl ⟨⟨xs,q.1,aah _⟩,hd ys H p⟩
theorem qP {lo:Int} {n:Nat} {cap:List (Option Nat)} {g:TG} {tt:TT} {te:TE} {σ:St} {H:Hp} {Q:VK} (Pv:Nat→List V→Hp→Prop) (h0:Pv 0 [] H) (hl:∀ i ys H,i≤n→Pv i ys H→ys.length < sizeLine)
    (hs:∀ i ys H,i < n→Pv i ys H→(∀ {P:Prop},P→Nxt n i P)→g (.int (lo+i)) (aG cap σ) H fun σ2 H2=>tt σ2 H2 fun b H3=>if b=true then te σ2 H3 fun v H4=>Nxt n i (Pv (i+1) (ys++[v]) H4) else Nxt n i (Pv (i+1) ys H3)) (hd:∀ ys H,Pv n ys H→∀ p,H p=none→Q (.ref p) (upd H p (.lst ys))) :
    rS cap g tt te σ Q (Itr lo n) H:=by
  refine ⟨fun i m ys H=>m=n - i∧i≤n∧Pv i ys H,⟨n,by simp,aaR _,h0⟩,?_⟩;rintro i m ys H ⟨rfl,hi,p⟩;have q:=hl i ys H hi p;by_cases hlt:i < n
  · refine .inr ⟨hlt,q,fun x H' y=>?_⟩;obtain ⟨e,y⟩:=y;subst e y;exact hs i ys _ hlt p fun h=>⟨_,by lia,rfl,hlt,h⟩
  · have e:i=n:=by lia
    subst e;exact .inl ⟨aah _,hd ys H p⟩
theorem bX {H:Hp}:∀ {ps:List (Int × Int)} {vs:List V},PairsIn H ps vs→∀ {j:Nat} {x:V},vs[j]?=some x→∃ p,ps[j]?=some p∧PairIn H p x
  | _,_,.nil,j,x,h=>by simp at h
  | _,_,.cons a _,0,x,h=>by simp at h;subst h;exact ⟨_,rfl,a⟩
  | _,_,.cons _ b,j+1,x,h=>by
    obtain ⟨p,h1,h2⟩:=bX b (j:=j) (x:=x) (by simpa using h);exact ⟨p,by simpa using h1,h2⟩
open PySem PySem.Spec PyProof.Rows
def pA:Key→PyData
  | .inl i=>.int i
  | .inr x=>.str x
mutual
def Dat (H:Hp):PyData→V→Prop
  | .none,v=>v=.non
  | .bool b,v=>v=.bl b
  | .int i,v=>v=.int i
  | .str x,v=>v=.str x
  | .list ds,v=>∃ a xs,v=.ref a∧H a=some (.lst xs)∧DatAll H ds xs
  | .tuple ds,v=>∃ a xs,v=.ref a∧H a=some (.tup xs)∧DatAll H ds xs
  | .dict kvs,v=>∃ a ks,v=.ref a∧H a=some (.dK ks)∧DatKv H kvs ks
def DatAll (H:Hp):List PyData→List V→Prop
  | [],vs=>vs=[]
  | d :: ds,vs=>∃ v r,vs=v :: r∧Dat H d v∧DatAll H ds r
def DatKv (H:Hp):List (PyData × PyData)→List (Key × V)→Prop
  | [],ks=>ks=[]
  | (k,d) :: r,ks=>∃ q v t,ks=(q,v) :: t∧k=pA q∧Dat H d v∧DatKv H r t
end
mutual
theorem Dat.mono {H H':Hp} (g:Same H H'):∀ (d:PyData) (v:V),Dat H d v→Dat H' d v
  | .none,v,h=>h
  | .bool b,v,h=>h
  | .int i,v,h=>h
  | .str x,v,h=>h
  | .list ds,v,h=>by
    simp only [Dat] at h ⊢;obtain ⟨a,xs,e,h1,h2⟩:=h;exact ⟨a,xs,e,g _ _ h1,DatAll.mono g ds xs h2⟩
  | .tuple ds,v,h=>by
    simp only [Dat] at h ⊢;obtain ⟨a,xs,e,h1,h2⟩:=h;exact ⟨a,xs,e,g _ _ h1,DatAll.mono g ds xs h2⟩
  | .dict kvs,v,h=>by
    simp only [Dat] at h ⊢;obtain ⟨a,xs,e,h1,h2⟩:=h;exact ⟨a,xs,e,g _ _ h1,DatKv.mono g kvs xs h2⟩
theorem DatAll.mono {H H':Hp} (g:Same H H'):∀ (ds:List PyData) (vs:List V),DatAll H ds vs→DatAll H' ds vs
  | [],vs,h=>h
  | d :: ds,vs,h=>by
    simp only [DatAll] at h ⊢;obtain ⟨v,r,e,h1,h2⟩:=h;exact ⟨v,r,e,Dat.mono g d v h1,DatAll.mono g ds r h2⟩
theorem DatKv.mono {H H':Hp} (g:Same H H'):∀ (kvs:List (PyData × PyData)) (ks:List (Key × V)),DatKv H kvs ks→DatKv H' kvs ks
  | [],ks,h=>h
  | (k,d) :: r,ks,h=>by
    simp only [DatKv] at h ⊢;obtain ⟨q,v,t,e1,e2,h1,h2⟩:=h;exact ⟨q,v,t,e1,e2,Dat.mono g d v h1,DatKv.mono g r t h2⟩
end
theorem DatAll.len {H:Hp}:∀ {ds:List PyData} {vs:List V},DatAll H ds vs→ds.length=vs.length
  | [],vs,h=>by simp only [DatAll] at h;rw [h];rfl
  | d :: ds,vs,h=>by
    simp only [DatAll] at h;obtain ⟨v,r,rfl,_,h2⟩:=h;rw [aaD,aaD,DatAll.len h2]
theorem DatAll.app {H:Hp}:∀ {as:List PyData} {vs:List V} {bs:List PyData} {us:List V},DatAll H as vs→DatAll H bs us→DatAll H (as++bs) (vs++us)
  | [],vs,bs,us,h,k=>by simp only [DatAll] at h;subst h;exact k
  | d :: as,vs,bs,us,h,k=>by
    simp only [DatAll] at h;obtain ⟨v,r,rfl,h1,h2⟩:=h;show DatAll H (d :: (as++bs)) (v :: (r++us));simp only [DatAll];exact ⟨v,_,rfl,h1,DatAll.app h2 k⟩
theorem DatAll.one {H:Hp} {d:PyData} {v:V} (h:Dat H d v):DatAll H [d] [v]:=by simp only [DatAll];exact ⟨v,[],rfl,h,rfl⟩
theorem DatAll.last {H:Hp}:∀ {ds:List PyData} {vs:List V},DatAll H ds vs→vs≠[]→∃ ds' d vs' v,ds=ds'++[d]∧vs=vs'++[v]∧DatAll H ds' vs'∧Dat H d v
  | [],vs,h,ne=>by simp only [DatAll] at h;exact absurd h ne
  | [d],vs,h,ne=>by
    simp only [DatAll] at h;obtain ⟨v,r,rfl,h1,rfl⟩:=h;exact ⟨[],d,[],v,rfl,rfl,by simp only [DatAll],h1⟩
  | d :: e :: ds,vs,h,ne=>by
    have h':=h;simp only [DatAll] at h;obtain ⟨v,r,rfl,h1,v2,r2,rfl,h2,h3⟩:=h;have h23:DatAll H (e :: ds) (v2 :: r2):=by simp only [DatAll];exact ⟨v2,r2,rfl,h2,h3⟩
    obtain ⟨ds',d',vs',v',e1,e2,h4,h5⟩:=DatAll.last h23 (by simp);refine ⟨d :: ds',d',v :: vs',v',by rw [e1];rfl,by rw [e2];rfl,?_,h5⟩;simp only [DatAll];exact ⟨v,vs',rfl,h1,h4⟩
theorem sG {α:Type} {xs:List α} (h:xs.length=3):∃ x y z,xs=[x,y,z]:=match xs,h with|[x,y,z],_=>⟨x,y,z,rfl⟩
def off (w:Addr) (H:Hp):Hp:=fun b=>if b=w then none else H b
theorem qK {w b:Addr} {H:Hp} (h:b≠w):off w H b=H b:=if_neg h
def mn:PyData→String
  | .none=>"NoneType"
  | .bool _=>"bool"
  | .int _=>"int"
  | .str _=>"str"
  | .list _=>"list"
  | .tuple _=>"tuple"
  | .dict _=>"dict"
theorem Dat.ty {K:aab} {H:Hp} {d:PyData} {v:V} (h:Dat H d v):TyOf K H v (.type (mn d)):=by
  cases d with
  | none=>simp only [Dat] at h;subst h;exact .non
  | bool b=>simp only [Dat] at h;subst h;exact .bl b
  | int i=>simp only [Dat] at h;subst h;exact .int i
  | str x=>simp only [Dat] at h;subst h;exact .str x
  | list ds=>simp only [Dat] at h;obtain ⟨a,xs,rfl,e,_⟩:=h;exact .lst e
  | tuple ds=>simp only [Dat] at h;obtain ⟨a,xs,rfl,e,_⟩:=h;exact .tup e
  | dict kvs=>simp only [Dat] at h;obtain ⟨a,xs,rfl,e,_⟩:=h;exact .dK e
section
variable {X:Cx} {pins:List (Addr × Obj)} {σ:St} {H:Hp} {s:Shared}
theorem Inv.nosys (I:Inv X pins σ H s) {a:Addr} {o:HO} (h:H a=some o):a≠sysModules:=fun e=>by
  obtain ⟨mm,ob,es,ep,g,_⟩:=I.mod.sysm;have:=(I.bs _ _ g).2;rw [← e,h] at this;cases this
theorem jz {P:Program} {w:World} {h:Heap} {q:Key} {v:Value} (e:(aD P w).is q v=true):Reads h v (pA q) []:=by
  rw [mU] at e;rcases a5 e with ⟨i,t,rfl,rfl⟩|⟨x,t,rfl,rfl⟩
  · exact .int i t
  · exact .str x t
mutual
theorem Dat.reads (I:Inv X pins σ H s):∀ (d:PyData) (v:V) (u:Value),Dat H d v→RelV v u→∃ as,Reads s.heap u d as∧sysModules∉as
  | .none,v,u,h,r=>by
    simp only [Dat] at h;subst h;cases r;exact ⟨_,.none,by simp⟩
  | .bool b,v,u,h,r=>by
    simp only [Dat] at h;subst h;cases r;exact ⟨_,.bool b,by simp⟩
  | .int i,v,u,h,r=>by
    simp only [Dat] at h;subst h;obtain ⟨t,rfl⟩:=r;exact ⟨_,.int i t,by simp⟩
  | .str x,v,u,h,r=>by
    simp only [Dat] at h;subst h;obtain ⟨t,rfl⟩:=r;exact ⟨_,.str x t,by simp⟩
  | .list ds,v,u,h,r=>by
    simp only [Dat] at h;obtain ⟨a,xs,rfl,hr,hd⟩:=h;cases r;obtain ⟨its,rv,⟨o,n,e1,e2,_,e3⟩,_⟩:=I.list (SqL.of hr);obtain ⟨as,ra,na⟩:=DatAll.reads I ds xs its hd rv;have ho:=hr;refine ⟨_,.list e1 e2 e3 (by simpa using ra),fun z=>?_⟩;rcases aai.mp z with z|z
    · exact I.nosys ho z.symm
    · exact na z
  | .tuple ds,v,u,h,r=>by
    simp only [Dat] at h;obtain ⟨a,xs,rfl,hr,hd⟩:=h;cases r;obtain ⟨its,rv,⟨o,e1,e2,n,e3⟩,_⟩:=I.tuple (SqT.of hr);obtain ⟨as,ra,na⟩:=DatAll.reads I ds xs its hd rv;exact ⟨_,.tuple e1 e2 e3 (by simpa using ra),na⟩
  | .dict kvs,v,u,h,r=>by
    simp only [Dat] at h;obtain ⟨a,ks,rfl,hr,hd⟩:=h;cases r;obtain ⟨_,_,vs,rel,o,es,ep,e1,ex,e3,_,pr,_⟩:=rA I.hok hr;obtain ⟨as,bs,ra,rb,na,nb⟩:=DatKv.reads I kvs ks vs es.toList hd rel pr;have ho:=hr;refine ⟨_,.dict e1 ex.1 e3 ra rb,fun z=>?_⟩;rcases aau.mp z with z|z
    · rcases aai.mp z with z|z
      · exact I.nosys ho z.symm
      · exact na z
    · exact nb z
theorem DatAll.reads (I:Inv X pins σ H s):∀ (ds:List PyData) (vs:List V) (us:List Value),DatAll H ds vs→Vals vs us→∃ as,ReadsAll s.heap us ds as∧sysModules∉as
  | [],vs,us,h,r=>by
    simp only [DatAll] at h;subst h;cases r;exact ⟨_,.nil,by simp⟩
  | d :: ds,vs,us,h,r=>by
    simp only [DatAll] at h;obtain ⟨v,t,rfl,h1,h2⟩:=h;cases r with
    | cons r1 r2 =>
      obtain ⟨as,ra,na⟩:=Dat.reads I d v _ h1 r1;obtain ⟨bs,rb,nb⟩:=DatAll.reads I ds t _ h2 r2;exact ⟨_,.cons ra rb,fun z=>(aau.mp z).elim na nb⟩
theorem DatKv.reads (I:Inv X pins σ H s):∀ (kvs:List (PyData × PyData)) (ks:List (Key × V)) (vs:List (Key × Value)) (es:List DictEntry),DatKv H kvs ks→KV ks vs→Pairs (aD X.prog X.w) es vs →
    ∃ as bs,ReadsAll s.heap (es.map (·.key)) (kvs.map (·.1)) as∧ReadsAll s.heap (es.map (·.val)) (kvs.map (·.2)) bs∧sysModules∉as∧sysModules∉bs
  | [],ks,vs,es,h,r,p=>by
    simp only [DatKv] at h;subst h;cases r;cases p;exact ⟨_,_,.nil,.nil,by simp,by simp⟩
  | (k,d) :: kr,ks,vs,es,h,r,p=>by
    simp only [DatKv] at h;obtain ⟨q,v,t,rfl,rfl,h1,h2⟩:=h;cases r with
    | cons r1 r2 =>
      cases p with
      | cons p1 p2 p3 =>
        obtain ⟨rk,rv⟩:=r1;obtain ⟨as,bs,ra,rb,na,nb⟩:=DatKv.reads I kr t _ _ h2 r2 p3;obtain ⟨cs,rc,nc⟩:=Dat.reads I d v _ h1 rv;have rk':q=_:=rk;subst rk';have kd:=jz (h:=s.heap) p1;refine ⟨[]++as,cs++bs,.cons kd ra,.cons (by dsimp only;rw [p2];exact rc) rb,by simpa using na,fun z=>(aau.mp z).elim nc nb⟩
end
end
open PySem PySem.Spec PyProof.Rows
section
variable {X:Cx}
theorem oD {i:Int} (h:i.natAbs < 2 ^ 4000):Builtin.Int.intBits i≤2 ^ 20:=by
  have : Builtin.Int.intBits i≤4000:=by
    unfold Builtin.Int.intBits;by_cases c:i=0
    · simp [c]
    · rw [if_neg (by simpa using c)];have h4:i.natAbs≠0:=fun z=>c (Int.natAbs_eq_zero.mp z);exact (Nat.log2_lt h4).mpr h
  have e:(4000:Nat)≤2 ^ 20:=by decide
  lia
theorem fD:OpR X (binaryOp .Mult) (rI (fun i j=>i.natAbs < 2 ^ 4000∧j.natAbs < 2 ^ 4000) fun i j=>.int (i * j)):=opI fun _ _ _ _ _ _ _ hc q=>mul_int q (IntMulOk.of_bits (oD hc.1) (oD hc.2))
end
open PySem PySem.Spec PyProof.Rows
theorem Inv.turnedL {X:Cx} {pins:List (Addr × Obj)} {σ:St} {H:Hp} {s:Shared} {h':Heap} {t':Nat} {fp:List Addr} (I:Inv X pins σ H s) (k:∀ b o,b∉fp→s.heap.get? b=some o→h'.get? b=some o) (hf:∀ b∈fp,gn X pins H b):Inv X pins σ H { s with heap:=h',toks:=t' }:=by
  have nit:∀ b u,H b=some u→b∉fp:=fun b u e z=>by rw [(hf b z).1] at e;cases e
  refine I.step (g':=s.gens) (d':=s.drawn) (ch:=fp) (fun b hb=>⟨(hf b hb).2.2.2.1,(hf b hb).2.1,(hf b hb).2.2.2.2.1,(hf b hb).2.2.2.2.2⟩) (fun b o _ _ hc e _=>k b o hc e) (fun b o _ _ hc e _=>⟨o.slots,k b o hc e⟩) (fun _ _ _ _ n=>n)
    (fun b o hc e=>⟨o,k b o hc e⟩) (fun _ _ e=>e) (fun _ _ _ e=>e) (fun b ps e=>⟨#[],by rw [e];simp⟩) (fun m hm=>?_) (fun b u e=>?_) I.bare
  · obtain ⟨o,es,ep,ho,r⟩:=hm;exact ⟨o,es,ep,k _ o (fun z=>(hf _ z).2.1 rfl) ho,r⟩
  · refine (I.hok b u e).stay (fun c v hc q=>k c v ?_ q) (fun _ q=>q) fun _ _ q=>q;rcases hc with z|z
    · rw [z];exact nit b u e
    · exact nit c _ z
open PySem PySem.Spec PyProof.Rows
section
variable {prog:Program} {w:World} {κ:Type} [DecidableEq κ] {knd:HeapKind prog w κ} {A:Around} {E:Value→Shared→Prop} {s:Shared}
def gh (xs more:List (κ × Addr × Value)):List (κ × Addr × Value):=more.foldl (fun acc x=>storedH acc x.1 x.2.1 x.2.2) xs
theorem la (xs:List (κ × Addr × Value)) (k:κ) (a:Addr) (v:Value):(storedH xs k a v).length≤xs.length+1:=by
  unfold storedH;split <;> simp
end
open PySem PySem.Spec PyProof.Rows
def eI (kvs more:List (List Key × V)):List (List Key × V):=more.foldl (fun acc kv=>db acc kv.1 kv.2) kvs
theorem ix:∀ (more kvs:List (List Key × V)),(eI kvs more).length≤kvs.length+more.length
  | [],kvs=>by show kvs.length≤kvs.length+0;lia
  | p :: r,kvs=>by
    have h1:=ix r (db kvs p.1 p.2);have h2:=cG kvs p.1 p.2;show (eI (db kvs p.1 p.2) r).length≤_;rw [aaD];lia
theorem KT.merge {H:Hp} {more:List (List Key × V)} {ys:List (List Key × Addr × Value)} (r:KT H more ys):∀ {kvs:List (List Key × V)} {xs:List (List Key × Addr × Value)},KT H kvs xs→KT H (eI kvs more) (gh xs ys):=by
  unfold KT at r
  induction r with
  | nil=>intro kvs xs q;exact q
  | @cons p q ps qs h t ih =>
    intro kvs xs r0;obtain ⟨h1,h2,h3⟩:=h;have z:=KT.put r0 p.1 h2 h3;have z2:=ih z;show KT H (eI (db kvs p.1 p.2) ps) (gh (storedH xs q.1 q.2.1 q.2.2) qs);rw [← h1];exact z2
section
variable {prog:Program} {w:World} {κ:Type} [DecidableEq κ] {knd:HeapKind prog w κ} {A:Around} {E:Value→Shared→Prop} {s:Shared}
inductive HitsH (A:Around) (s:Shared) (kb:List (κ × Addr × Value)):List (κ × Addr × Value)→Bool→Prop
  | nil:HitsH A s kb [] true
  | miss {k:κ} {a:Addr} {v:Value} {r:List (κ × Addr × Value)}:atKey kb k=none→HitsH A s kb ((k,a,v) :: r) false
  | hit {k:κ} {a c:Addr} {v y:Value} {r:List (κ × Addr × Value)} {e b:Bool}:atKey kb k=some (c,y)→SeqAt.EqAt A s v y e→HitsH A s kb r b→HitsH A s kb ((k,a,v) :: r) (e && b)
end
open PySem PySem.Spec PyProof.Rows
inductive HitsV (K:aab) (H:Hp) (n:Nat) (kb:List (List Key × V)):List (List Key × V)→Bool→Prop
  | nil:HitsV K H n kb [] true
  | miss {k:List Key} {v:V} {r:List (List Key × V)}:cx kb k=none→HitsV K H n kb ((k,v) :: r) false
  | hit {k:List Key} {v y:V} {r:List (List Key × V)} {e b:Bool}:cx kb k=some y→EqR K H n v y e→HitsV K H n kb r b→HitsV K H n kb ((k,v) :: r) (e && b)
open PySem PySem.Spec PyProof.Rows
section
variable {prog:Program} {w:World} {κ:Type} [DecidableEq κ] {knd:HeapKind prog w κ} {A:Around} {E:Value→Shared→Prop}
theorem DictOfH.at {h:Heap} {d:Addr} {xs:List (κ × Addr × Value)} (m:h.DictOfH knd d xs):∃ o es ep,h.get? d=some o∧o.data=.dict es ep:=let ⟨o,es,ep,h1,_,h2,_⟩:=m;⟨o,es,ep,h1,h2⟩
theorem fI {d:Addr} (hu:knd.room A):∀ (xs acc:List (κ × Addr × Value)) (s:Shared) (Q:PUnit→Shared→Prop),(∀ x∈xs,knd.is s.heap x.1 x.2.1)→s.heap.DictOfH knd d acc→acc.length+xs.length≤sizeLine →
    (∀ h' t',h'.DictOfH knd d (gh acc xs)→abc d s.heap h'→Q PUnit.unit { s with heap:=h',toks:=t' }) →
    wpAny (model prog w) A (forIn (xs.map fun x=>(Value.ref x.2.1,x.2.2)) PUnit.unit fun (x:Value × Value) (_:PUnit)=>(do dictSet d x.1 x.2;pure (ForInStep.yield PUnit.unit):Sem (ForInStep PUnit))) Q E s
  | [],acc,s,Q,_,hm,_,hQ=>by
    rw [abB,List.forIn_nil];exact wpAny_pure (hQ s.heap s.toks hm (Heap.SameBut.refl _ _))
  | (k,a,v) :: xs,acc,s,Q,hk,hm,hsz,hQ=>by
    rw [aaD] at hsz;rw [aaF,List.forIn_cons];obtain ⟨o,es,ep,ho,hd⟩:=DictOfH.at hm;refine wpAny_bind (wpAny_bind (wpAny_dictSet_heap (hsz:=by lia) hu (hk _ (aav ..)) hm fun h₁ hm₁ hs₁=>wpAny_pure ?_));refine fI hu xs (storedH acc k a v) _ Q (fun x hx=>knd.keeps (hk x (aal _ hx)) ho hd hs₁) hm₁ (by have e:=la acc k a v;lia) fun h' t' hm' hs'=>?_;exact hQ h' t' hm' (hs₁.trans hs')
variable {s:Shared}
theorem jU {pairs:List (Sem Value × Sem Value)} {Q:Addr→Shared→Prop} (hu:knd.room A) (hlen:pairs.length≤15)
    (h:wpAny (model prog w) A (evalPairs pairs) (fun vs s₁=>∃ xs:List (κ × Addr × Value),vs=xs.map (fun x=>(Value.ref x.2.1,x.2.2))∧xs.length≤15∧(∀ x∈xs,knd.is s₁.heap x.1 x.2.1)∧s₁.heap.DictOfH knd s.heap.objs.size [] ∧
      ∀ h' t',h'.DictOfH knd s.heap.objs.size (gh [] xs)→abc s.heap.objs.size s₁.heap h'→Q s.heap.objs.size { s₁ with heap:=h',toks:=t' }) E
      { s with heap:=s.heap.push { cls:=.type "dict",data:=.dict #[] } }) :
    wpAny (model prog w) A (subDict pairs) Q E s:=by
  unfold subDict;refine wpAny_bind (wpAny_alloc ?_);refine wpAny_bind (wpAny_holding ?_);rw [if_pos hlen];refine wpAny_bind (wpAny_mono h (fun vs s₁ h₁=>?_) fun _ _ e=>e);obtain ⟨xs,rfl,hx,hk,hm,hQ⟩:=h₁;have hsz:([]:List (κ × Addr × Value)).length+xs.length≤sizeLine:=by
    rw [sizeLine_eq,aba];lia
  refine wpAny_holding ?_;refine wpAny_bind (fI (knd:=knd) hu xs [] s₁ _ hk hm hsz fun h' t' hm' hs'=>wpAny_pure (wpAny_pure (hQ h' t' hm' hs')))
theorem p9 {env:Env} {keys:List (Option Expr)} {values:List Expr} {pos:Pos} {Q:Value→Shared→Prop} (hu:knd.room A)
    (hall:keys.all (·.isSome)=true) (hl:keys.length=values.length) (h0:keys≠[]) (hlen:keys.length≤15)
    (h:wpAny (model prog w) A (evalPairs (pairTrees keys values env pos)) (fun vs s₁=>∃ xs:List (κ × Addr × Value),vs=xs.map (fun x=>(Value.ref x.2.1,x.2.2))∧xs.length≤15∧(∀ x∈xs,knd.is s₁.heap x.1 x.2.1)∧s₁.heap.DictOfH knd s.heap.objs.size [] ∧
      ∀ h' t',h'.DictOfH knd s.heap.objs.size (gh [] xs)→abc s.heap.objs.size s₁.heap h'→Q (.ref s.heap.objs.size) { s₁ with heap:=h',toks:=t' }) E
      { s with heap:=s.heap.push { cls:=.type "dict",data:=.dict #[] } }) :
    wpAny (model prog w) A (eval (.Dict keys values pos) env) Q E s:=by
  have hn:=pairTrees_length keys values env pos hall hl;have hne:pairTrees keys values env pos≠[]:=by
    intro he;rw [he] at hn;exact h0 (abJ.mp hn.symm)
  rw [arm_eval_Dict,zip_pairTrees keys values env pos hall hl,dictDisplay_pairs _ hne (by lia)];exact wpAny_bind (wpAny_standAt (wpAny_bind (jU (knd:=knd) (Q:=fun d s'=>wpAny (model prog w) A (pure (Value.ref d)) Q E s') hu (by lia)
    (wpAny_mono h (fun vs s₁ h₁=>by obtain ⟨xs,h1,h2,h3,h4,hq⟩:=h₁;exact ⟨xs,h1,h2,h3,h4,fun h' t' a b=>wpAny_pure (hq h' t' a b)⟩) fun _ _ e=>e))))
end
def tK (trs:List (TE × TE)):TE:=fun σ H Q=>∀ p,H p=none→mt trs σ (upd H p (.dT [])) fun ps H2=>H2 p=some (.dT [])∧∃ bs:List (Addr × List Key × V),ps=bs.map (fun b=>(V.ref b.1,b.2.2))∧(∀ b∈bs,H2 b.1=some (.tup (b.2.1.map kV)))∧bs.length≤15 ∧
  Q (.ref p) (upd H2 p (.dT (eI [] (bs.map (·.2)))))
theorem rN {H:Hp}:∀ {bs:List (Addr × List Key × V)} {ws:List (Value × Value)},VV (bs.map fun b=>(V.ref b.1,b.2.2)) ws→(∀ b∈bs,H b.1=some (.tup (b.2.1.map kV)))→∃ xs:List (List Key × Addr × Value),ws=xs.map (fun x=>(Value.ref x.2.1,x.2.2))∧KT H (bs.map (·.2)) xs
  | [],_,r,_=>by rw [abB] at r;cases r;exact ⟨[],rfl,.nil⟩
  | (a,k,v) :: bs,_,r,hk=>by
    rw [aaF] at r;cases r with
    | @cons x y as cs h t =>
      obtain ⟨xs,e,q⟩:=rN t (fun b hb=>hk b (aal _ hb));obtain ⟨y1,y2⟩:=y;obtain ⟨h1,h2⟩:=h;have e1:y1=Value.ref a:=h1;subst e1;refine ⟨(k,a,y2) :: xs,by rw [e];rfl,.cons ⟨rfl,hk _ (aav ..),h2⟩ q⟩
theorem lG {X:Cx} {pos:Pos} {keys:List (Option Expr)} {values:List Expr} {trs:List (TE × TE)} (hu:X.A.units+1 < cLine) (h:PPs X pos keys values trs) (hall:keys.all (·.isSome)=true:=by rfl) (hl:keys.length=values.length:=by rfl) (h0:keys≠[]:=by simp)
    (h15:keys.length≤15:=by decide):PE X (.Dict keys values pos) (tK trs):=by
  intro pins s σ H Q I q;have hn:=I.hok.fresh (aah s.heap.objs.size);have I1:=I.laid (a:=s.heap.objs.size) (o:=.dT []) (h':=s.heap.push { cls:=.type "dict",data:=.dict #[] }) (t':=s.toks) (fun _ _ q=>aac _ q) (aah _) (iN s.heap I.big);have hr:(tupleKind (aD X.prog X.w)).room X.A:=by show X.A.units < cLine;lia
  refine p9 (knd:=tupleKind (aD X.prog X.w)) hr hall hl h0 h15 (thn (h pins _ σ _ _ I1 (q _ hn)) fun ws s2 ⟨ps,H2,I2,rel,e,bs,ep,hk,lk,q2⟩=>?_);subst ep;obtain ⟨xs,ew,rk⟩:=rN rel hk;obtain ⟨z,hd,vs0,r0,dd⟩:=ou I2.hok e;cases r0;have lx:=aa9 rk;rw [aak] at lx;refine ⟨xs,ew,by lia,fun x hx=>?_,dd,fun h' t' dd' hs=>⟨.ref s.heap.objs.size,_,?_,rfl,q2⟩⟩
  · have all:∀ {l:List (List Key × V)} {m:List (List Key × Addr × Value)},KT H2 l m→∀ x∈m,(tupleKind (aD X.prog X.w)).is s2.heap x.1 x.2.1:=by
      intro l m q
      induction q with
      | nil=>intro x hx;exact nomatch hx
      | @cons p q ps qs hq t ih =>
        intro x hx;rcases aai.mp hx with e|hx
        · subst e;exact gE I2.hok (by rw [← hq.1];exact hq.2.1)
        · exact ih x hx
    exact all rk x hx
  · have hz:(eI [] (bs.map (·.2))).length≤sizeLine:=by
      have h1:=ix (bs.map (·.2)) [];rw [aba,aak] at h1;rw [sizeLine_eq];lia
    obtain ⟨q1,es,ep,hq,h2,h3,h4,_,h5⟩:=dd';refine gl (ob:=.dT (eI [] (bs.map (·.2)))) I2 (by rw [e];exact True.intro) hs ⟨q1,hq⟩ ⟨hz,hd,_,(KT.merge rk .nil).keeps fun c ys ec=>?_,q1,es,ep,hq,h2,h3,h4,h5⟩;rw [aj (qO ec e (fun z=>nomatch z))];exact ec
open PySem PySem.Spec PyProof.Rows
theorem Inv.retype {X:Cx} {pins:List (Addr × Obj)} {σ:St} {H:Hp} {s:Shared} {a:Addr} {u u':HO} (I:Inv X pins σ H s) (e:H a=some u) (n1:∀ xs,u≠.tup xs) (n2:∀ ps,u≠.tbl ps) (n3:∀ y,u≠.own y) (hf:∀ o v,X.H₀ a≠some (.frz o v))
    (new:ObjOk X.prog X.w H s.heap a u'):Inv X pins σ (upd H a u') s:=by
  have nt:∀ c xs,H c=some (.tup xs)→c≠a:=fun c xs q z=>by rw [z,e] at q;injection q with q;exact n1 _ q
  have no:∀ c y,H c=some (.own y)→c≠a:=fun c y q z=>by rw [z,e] at q;injection q with q;exact n3 _ q
  have nn:∀ c,H c=none→c≠a:=fun c q z=>by rw [z,e] at q;cases q
  refine ⟨I.ok,I.os,I.bare,⟨I.base.keep,I.base.slot,fun b ob q n hx=>?_,I.base.there,fun b xs q=>?_,fun b ob xs q=>?_,fun b ps q=>?_⟩,I.loc,I.cell,?_,fun x c q=>?_,fun p hp=>?_,fun b v q=>?_,I.len⟩
  · have z:=I.base.free b ob q n hx;rw [aj (nn b z)];exact z
  · have z:=I.base.tups b xs q;rw [aj (nt b xs z)];exact z
  · have z:=I.base.frzs b ob xs q;have nb:b≠a:=fun y=>hf ob xs (by rw [← y];exact q);rw [aj nb];exact z
  · obtain ⟨m,z⟩:=I.base.tbls b ps q;have nb:b≠a:=fun y=>by rw [y,e] at z;injection z with z;exact n2 _ z
    exact ⟨m,by rw [aj nb];exact z⟩
  · rw [aj (nn _ I.free)];exact I.free
  · rw [aj (nn _ (I.freeC x c q))];exact I.freeC x c q
  · obtain ⟨h1,h2,h3⟩:=I.pin p hp;exact ⟨h1,by rw [aj (nn _ h2)];exact h2,h3⟩
  · by_cases hb:b=a
    · subst hb;rw [ac] at q;cases q;exact new.stay (fun c v _ q=>q) (fun c q=>by rw [aj (no c _ q)];exact q) fun c xs q=>by rw [aj (nt c xs q)];exact q
    · rw [aj hb] at q;exact (I.hok b v q).stay (fun c v _ q=>q) (fun c q=>by rw [aj (no c _ q)];exact q) fun c xs q=>by rw [aj (nt c xs q)];exact q
section
variable {prog:Program} {w:World} {A:Around} {E:Value→Shared→Prop} {s:Shared}
end
theorem Paired.nth {α β:Type} {R:α→β→Prop}:∀ {l:List α} {m:List β},Paired R l m→∀ (i:Nat) (x:α) (y:β),l[i]?=some x→m[i]?=some y→R x y
  | _,_,.nil,i,x,y,h,_=>by simp at h
  | _,_,.cons r t,0,x,y,h,h'=>by simp at h h';subst h h';exact r
  | _,_,.cons r t,i+1,x,y,h,h'=>Paired.nth t i x y (by simpa using h) (by simpa using h')
theorem iL {P:Program} {w:World} {H:Hp} {h:Heap} {d:Addr} {o:Obj} {es:Array DictEntry} {ep:Nat} {kvs:List (List Key × V)} (ok:HOk P w H h) (e:H d=some (.frz o (.dT kvs))) (hd:o.data=.dict es ep) :
    h.get? d=some o∧o.ExactDict∧(d == sysModules)=false∧es.size=kvs.length∧∃ xs,KT H kvs xs∧es.toList=xs.map (entryOfKey (tupleKind (aD P w))):=by
  obtain ⟨ho,z,hs,xs,rel,o2,es2,ep2,ho2,c,dat,l,nd⟩:=(show ObjOk P w H h d (.frz o (.dT kvs)) from ok d _ e)
  rw [ho] at ho2;cases ho2;rw [hd] at dat;cases dat;exact ⟨ho,c,hs,by rw [size_of_entries l,← aa9 rel],xs,rel,l⟩
end L2
namespace L2
open PySem PySem.Spec PyProof.Rows PySem.W
section
variable {prog:Program} {w:World} {A:Around} {E:Value→Shared→Prop} {s:Shared}
theorem jh (d:Addr) (hd:(d == sysModules)=false) :
    MeetsIn prog w (Builtin.«dict.values» ⟨[.ref d],[]⟩) (fun _ R s=>s.TypeIs (.ref d) "dict" ∧
      R (.ok (.ret (.ref s.heap.objs.size))) { s with heap:=s.heap.push { cls:=.type "dict_values",data:=.fields #[.ref d] } }) :=
  .of_wp fun A R s ⟨hm,h⟩=>by
    refine wpAny_bind ?_;unfold Builtin.Dict.noArgs;refine wpAny_bind (wpAny_notOrdered_dict hm ?_);show wpAny _ _ (pure d) _ _ s;refine wpAny_pure ?_;show wpAny _ _ (abS d >>= _) _ _ s;unfold abS;rw [if_neg (by rw [hd];exact aae)];refine wpAny_bind (wpAny_pure ?_);exact wpAny_bind (wpAny_newObj_type (wpAny_pure ⟨_,rfl,h⟩))
theorem pB {v d:Addr} {o:Obj} {es:Array DictEntry} {ep:Nat} {Q:Value→Shared→Prop} (hv:s.heap.IsValuesView v d) (ho:s.heap.get? d=some o) (hdat:o.data=.dict es ep)
    (hQ:Q (.ref s.heap.objs.size) { s with heap:=s.heap.push { cls:=.type "dict_valueiterator",data:=.fields #[.ref d,.int 0 0,.int es.size 0,.int ep 0] } }) :
    wpAny (model prog w) A (pyIter (.ref v)) Q E s:=by
  obtain ⟨ov,hov,hcv,hdv⟩:=id hv;refine wpAny_pyIter_slot hv.typeIs F.slot_dict_values_iter (wpAny_call_entry F.slot_dict_values_iter hv.typeIs F.entry_dict_values_iter ?_ (F.args_dict_values_iter_1 _));unfold Builtin.«dict_values.__iter__»;refine wpAny_bind (wpAny_pure ?_);refine wpAny_bind ?_;unfold Builtin.Dict_items.dictOf;refine wpAny_bind (wpAny_field hov hdv (x:=.ref d) rfl (wpAny_pure ?_));refine wpAny_bind ?_;unfold Builtin.Dict_items.newIterator;refine wpAny_bind (wpAny_dictEntries ho hdat ?_);refine wpAny_bind (wpAny_dictEpoch ho hdat ?_);have hown:aa4 "dict_valueiterator" = false:=by decide
  simp only [hown,abP,if_false];refine wpAny_newObj_type (wpAny_pure ⟨_,rfl,"dict_valueiterator",_,⟨_,aap _ rfl,rfl⟩,F.slot_dict_valueiterator_next.lookup,?_⟩);simpa [rawInt] using hQ
theorem qN {it d:Addr} {i n ep:Nat} {o:Obj} {es:Array DictEntry} {e:DictEntry} {Q:Option Value→Shared→Prop} (hit:s.heap.IsValIter it d i n ep) (hod:s.heap.get? d=some o) (hdd:o.data=.dict es ep) (hsz:es.size=n) (hx:es[i]?=some e)
    (hQ:∀ h',h'.IsValIter it d (i+1) n ep→abc it s.heap h'→Q (some e.val) { s with heap:=h' }) :
    wpAny (model prog w) A (pyNext (.ref it)) Q E s:=by
  obtain ⟨oi,ho,hc,hd⟩:=id hit;unfold pyNext;refine wpAny_bind (wpAny_attempt (wpAny_callSpecial?_slot (name:=abu "__next__") hit.typeIs abl
    (wpAny_call_entry abl hit.typeIs ace ?_ (ab9 _))))
  refine wpAny_bind (wpAny_pure ?_);refine wpAny_bind ?_;refine wpAny_bind ?_
  first|refine wpAny_bind (wpAny_typeNameOfWhole_valiter hit.typeIs (wpAny_pure ?_))|refine wpAny_bind (wpAny_typeNameOf_valiter hit.typeIs (wpAny_pure ?_))
  refine wpAny_bind (wpAny_fieldsOf ho hd ?_);have hown:aa4 "dict_valueiterator" = false:=by decide
  simp only [hown,abP,if_false];show wpAny _ _ (if (Value.ref d == Value.none)=true then _ else _) _ _ s;rw [if_neg (show ¬ ((Value.ref d == Value.none)=true) from aae)];refine wpAny_bind (wpAny_pure ?_);refine wpAny_bind (wpAny_dictEntries hod hdd ?_);rw [if_neg (by rw [hsz];simp)];refine wpAny_bind (wpAny_pure ?_);refine wpAny_bind (wpAny_dictEpoch hod hdd ?_);rw [if_neg (by simp)];refine wpAny_pure ?_;simp only [show ¬ ((i:Int) < 0) from by lia,if_false,acg,hx];refine wpAny_bind ?_
  first|refine wpAny_bind (wpAny_typeNameOfWhole_valiter hit.typeIs (wpAny_pure ?_))|refine wpAny_bind (wpAny_typeNameOf_valiter hit.typeIs (wpAny_pure ?_))
  refine wpAny_bind (wpAny_isOneOf_valiter hit.typeIs ?_);show wpAny _ _ (setField (.ref it) 1 (rawInt ((i:Int)+1)) >>= _) _ _ s;refine wpAny_bind (wpAny_setField ho hd (by simp) ?_);have hit':(s.heap.update it (Obj.mapFields (·.setIfInBounds 1 (rawInt ((i:Int)+1))))).IsValIter it d (i+1) n ep :=
    ⟨_,Heap.get?_update_self _ ho (Obj.isFreed_of_fields (Obj.data_mapFields hd _)),(Obj.cls_mapFields ..).trans hc,by rw [Obj.data_mapFields hd];simp [rawInt]⟩
  refine wpAny_bind (wpAny_holding ?_);refine wpAny_bind (wpAny_isOneOf_valiter (s:={ s with heap:=s.heap.update it (Obj.mapFields (·.setIfInBounds 1 (rawInt ((i:Int)+1)))) }) hit'.typeIs ?_);refine wpAny_bind (wpAny_isOneOf_valiter (s:={ s with heap:=s.heap.update it (Obj.mapFields (·.setIfInBounds 1 (rawInt ((i:Int)+1)))) }) hit'.typeIs ?_);show wpAny _ _ (pure e.val) _ _ _;exact wpAny_pure (wpAny_pure ⟨_,rfl,wpAny_pure (hQ _ hit' (aa6 ..))⟩)
theorem oU {it d:Addr} {i n ep:Nat} {o:Obj} {es:Array DictEntry} {Q:Option Value→Shared→Prop} (hh:A.handled=none) (hit:s.heap.IsValIter it d i n ep) (hod:s.heap.get? d=some o) (hdd:o.data=.dict es ep) (hsz:es.size=n) (hge:es.size≤i)
    (hQ:∀ h',Heap.ExtBut it s.heap h'→Q none { s with heap:=h' }):wpAny (model prog w) A (pyNext (.ref it)) Q E s:=by
  obtain ⟨oi,ho,hc,hd⟩:=id hit;unfold pyNext;refine wpAny_bind (wpAny_attempt (wpAny_callSpecial?_slot (name:=abu "__next__") hit.typeIs abl
    (wpAny_call_entry abl hit.typeIs ace ?_ (ab9 _))))
  refine wpAny_bind (wpAny_pure ?_);refine wpAny_bind ?_;refine wpAny_bind ?_
  first|refine wpAny_bind (wpAny_typeNameOfWhole_valiter hit.typeIs (wpAny_pure ?_))|refine wpAny_bind (wpAny_typeNameOf_valiter hit.typeIs (wpAny_pure ?_))
  refine wpAny_bind (wpAny_fieldsOf ho hd ?_);have hown:aa4 "dict_valueiterator" = false:=by decide
  simp only [hown,abP,if_false];show wpAny _ _ (if (Value.ref d == Value.none)=true then _ else _) _ _ s;rw [if_neg (show ¬ ((Value.ref d == Value.none)=true) from aae)];refine wpAny_bind (wpAny_pure ?_);refine wpAny_bind (wpAny_dictEntries hod hdd ?_);rw [if_neg (by rw [hsz];simp)];refine wpAny_bind (wpAny_pure ?_);refine wpAny_bind (wpAny_dictEpoch hod hdd ?_);rw [if_neg (by simp)];refine wpAny_pure ?_;simp only [show ¬ ((i:Int) < 0) from by lia,if_false,acg,aca hge];refine wpAny_bind ?_
  first|refine wpAny_bind (wpAny_typeNameOfWhole_valiter hit.typeIs (wpAny_pure ?_))|refine wpAny_bind (wpAny_typeNameOf_valiter hit.typeIs (wpAny_pure ?_))
  show wpAny _ _ (setField (.ref it) 0 .none >>= _) _ _ s;refine wpAny_bind (wpAny_setField ho hd (by simp) ?_);show wpAny _ _ (newExc (.type "StopIteration") [] >>= _) _ _ _;refine wpAny_bind ?_;simp only [newExc,newTuple];refine wpAny_bind (wpAny_newObj_type ?_ (by size_fits));refine wpAny_bind (m:=firstArgMember _ _) (wpAny_of_eq (a:=Value.none) (by first|rfl|(simp only [firstArgMember];rfl)) ?_);refine wpAny_newObj_type ?_ (by size_fits);simp only [raiseNew];refine wpAny_bind (wpAny_handled ?_);rw [show A.in1.handled=none from hh];refine wpAny_bind (wpAny_pure (wpAny_throw ?_));refine wpAny_bind (wpAny_isInstance (T:="StopIteration") (b:=true) ⟨_,aap _ rfl,rfl⟩ isSubtype_stop ?_);exact wpAny_pure (hQ _ (((aa6 ..).extBut.push _).push _))
end
end L2
namespace L2
theorem u1 {a:Nat} (h:a+64 < PySem.cLine):a+1 < PySem.cLine:=by lia
open PySem PySem.Spec PyProof.Rows
section
variable {prog:Program} {w:World} {A:Around} {E:Value→Shared→Prop} {s:Shared}
end
open PySem PySem.Spec PyProof.Rows
open PySem PySem.Spec PyProof.Rows
def Its (z:Str):It :=
  ⟨fun i _=>i < z.cps.size,fun i H x H'=>H'=H∧∃ c,z.cps[i]?=some c∧x=.str ⟨#[c]⟩,fun i _=>z.cps.size≤i⟩
theorem qe {P:Program} {w:World} {K:aab} {tg:Expr} (it:Addr) (z:Str) (t:Tok):Turn P w K tg (Its z) [it] it (fun i h=>h.IsStrIter it "str_ascii_iterator" z t i) where
  mem:=by simp
  obj:=fun i h st b hb=>by
    have e:b=it:=by simpa using hb
    subst e;obtain ⟨o,e,c,d⟩:=st;exact ⟨o,e,fun v z=>by rw [d] at z;cases z⟩
  keep:=fun i h h' st k=>by
    obtain ⟨o,e,r⟩:=st;exact ⟨o,k it (by simp) o e,r⟩
  item:=by
    intro X hP hw hK hc i pins s σ H E I hf st hg;subst hP hw hK;have hg:i < z.cps.size:=hg;obtain ⟨f0,f1,f2,f3,f4,f5⟩:=hf it (by simp);have hx:z.cps[i]?=some z.cps[i]:=by simp [hg]
    refine wpAny_pyNext_ascii_item st (c:=z.cps[i]) hx fun h' st' sb=>?_;have I1:Inv X pins σ H { s with heap:=h',toks:=s.toks+1 }:=I.turned (t':=s.toks+1) (fun b o hb e=>(sb.2 b hb).trans e) f0 f1 f3 f4 f5;obtain ⟨o,e,c,d⟩:=id st';exact ⟨_,rfl,l4 (s:={ s with heap:=h',toks:=s.toks+1 }) e c d (by decide) ⟨.str ⟨#[z.cps[i]]⟩,H,I1,⟨_,rfl⟩,⟨rfl,_,hx,rfl⟩,st',fun b hb=>(hf b hb).1⟩⟩
  done:=by
    intro X hP hw hK hc i pins s σ H E I hf st hg;subst hP hw hK;have hg:z.cps.size≤i:=hg;obtain ⟨f0,f1,f2,f3,f4,f5⟩:=hf it (by simp);exact wpAny_pyNext_ascii_end (I.ok.hd hc) st (by simp [hg]) fun h' eb=>⟨rfl,I.turned (t':=s.toks) (fun b o hb e=>eb b o hb e) f0 f1 f3 f4 f5⟩
  self:=fun _ _ _ _ _ st h=>wpAny_pyIter_striter_ascii st h
def wI (tl:TE):TI:=fun σ H R=>tl σ H fun x H1=>∃ z,x=.str z∧z.cps.all (· < 128)=true∧R (Its z) H1
theorem qB {X:Cx} {tg l:Expr} {tl:TE} (hl:PE X l tl):PI X tg l (wI tl):=by
  intro pins s σ H R I h;refine thn (hl pins s σ H _ I h) fun v s1 ⟨x,H1,I1,r1,q1⟩=>?_;obtain ⟨z,e,ha,q⟩:=q1;subst e;obtain ⟨t,rfl⟩:=r1;refine wpAny_pyIter_ascii ha ?_;refine ⟨s1.heap.objs.size,[s1.heap.objs.size],_,_,H1,rfl,I1.kept (t':=s1.toks) fun b o e=>aac _ e,qe _ z t,⟨_,aap _ rfl,rfl,rfl⟩,fun b hb=>?_,q⟩;have e:b=s1.heap.objs.size:=by simpa using hb
  subst e;exact I1.fpOk (aah _) (I1.hok.fresh (aah _))
theorem uD {z:Str} {cap:List (Option Nat)} {g:TG} {tt:TT} {te:TE} {σ:St} {H:Hp} {Q:VK} (Pv:Nat→List V→Hp→Prop) (h0:Pv 0 [] H) (hl:∀ i ys H,i≤z.cps.size→Pv i ys H→ys.length < sizeLine)
    (hs:∀ i c ys H,z.cps[i]?=some c→Pv i ys H→(∀ {P:Prop},P→Nxt z.cps.size i P)→g (.str ⟨#[c]⟩) (aG cap σ) H fun σ2 H2=>tt σ2 H2 fun b H3=>if b=true then te σ2 H3 fun v H4=>Nxt z.cps.size i (Pv (i+1) (ys++[v]) H4) else Nxt z.cps.size i (Pv (i+1) ys H3)) (hd:∀ ys H,Pv z.cps.size ys H→∀ p,H p=none→Q (.ref p) (upd H p (.lst ys))) :
    rS cap g tt te σ Q (Its z) H:=by
  refine ⟨fun i m ys H=>m=z.cps.size - i∧i≤z.cps.size∧Pv i ys H,⟨z.cps.size,by simp,aaR _,h0⟩,?_⟩;rintro i m ys H ⟨rfl,hi,p⟩;have q:=hl i ys H hi p;by_cases hlt:i < z.cps.size
  · refine .inr ⟨hlt,q,fun x H' y=>?_⟩;obtain ⟨e,c,y,ex⟩:=y;subst e ex;exact hs i c ys _ y p fun h=>⟨_,by lia,rfl,hlt,h⟩
  · have e:i=z.cps.size:=by lia
    subst e;exact .inl ⟨aah _,hd ys H p⟩
theorem sO {z:Str} {g:TG} {tb:TS} {D:Ends} {σ:St} {H:Hp} (Pv:Nat→St→Hp→Prop) (h0:Pv 0 σ H)
    (hs:∀ i c σ H,z.cps[i]?=some c→Pv i σ H→g (.str ⟨#[c]⟩) σ H fun σ2 H2=>tb { D with nx:=Pv (i+1),ct:=Pv (i+1),bk:=D.nx } σ2 H2) (hd:∀ σ H,Pv z.cps.size σ H→D.nx σ H) :
    ∃ W:Nat→Nat→St→Hp→Prop,(∃ m,W 0 m σ H)∧∀ i m σ H,W i m σ H →
      ((Its z).stop i H∧D.nx σ H)∨((Its z).go i H∧∃ N:St→Hp→Prop,(∀ σ' H',N σ' H'→∃ m',m' < m∧W (i+1) m' σ' H')∧∀ x H',(Its z).yld i H x H'→g x σ H' fun σ2 H2=>tb { D with nx:=N,ct:=N,bk:=D.nx } σ2 H2):=by
  refine ⟨fun i m σ H=>m=z.cps.size - i∧i≤z.cps.size∧Pv i σ H,⟨z.cps.size,by simp,aaR _,h0⟩,?_⟩;rintro i m σ H ⟨rfl,hi,p⟩;by_cases hlt:i < z.cps.size
  · refine .inr ⟨hlt,Pv (i+1),fun σ' H' p'=>⟨z.cps.size - (i+1),by lia,rfl,hlt,p'⟩,fun x H' y=>?_⟩;obtain ⟨e,c,y,ex⟩:=y;subst e ex;exact hs i c σ _ y p
  · have e:i=z.cps.size:=by lia
    subst e;exact .inl ⟨aah _,hd σ H p⟩
def wd (t u:TS):TS:=fun D σ H=>∃ J:St→Hp→Prop,t { D with nx:=J } σ H∧∀ σ' H',J σ' H'→u D σ' H'
theorem gY {X:Cx} {st:Stmt} {df:List Stmt} {t u:TS} (h1:PS X st t) (h2:PSs X df u):PSs X (st :: df) (wd t u):=by
  intro pins s σ H D I h;obtain ⟨J,h,hJ⟩:=h;refine wpAny_execs_cons (thn (h1 pins s σ H { D with nx:=J } I h) fun f s1 q=>?_);cases f with
  | next =>
    obtain ⟨σ',H',I',q⟩:=q;exact h2 pins s1 σ' H' D I' (hJ σ' H' q)
  | ret v=>exact q
  | brk=>exact q
  | cont=>exact q
end L2
namespace PySem
open Sem (wp)
namespace F
end F
section
variable {prog:Program} {w:World} {A:Around} {E:Value→Shared→Prop} {h:Heap} {g:Array GenState} {d:Drawn} {t:Nat} {os:OsState} {a:Addr} {vs:Array Value}
end
end PySem
namespace L2
open PySem PySem.Spec PyProof.Rows
section
variable {prog:Program} {w:World} {A:Around} {E:Value→Shared→Prop} {s:Shared}
end
theorem Paired.app {α β:Type} {R:α→β→Prop} {a c:List α} {b d:List β} (h:Paired R a b) (k:Paired R c d):Paired R (a++c) (b++d):=by
  induction h with
  | nil=>exact k
  | cons x _ ih=>exact .cons x ih
open PySem PySem.Spec PyProof.Rows
theorem fw {X:Cx} (hc:X.calm=true):cz X (.builtin "all") (fun xs H Q=>∃ (p:Addr) (bs:List Bool),xs=[.ref p]∧SqL X.K H p (bs.map V.bl)∧Q (.bl (bs.all id)) H):=by
  intro pins s σ H xs us Q I r h;obtain ⟨p,bs,rfl,hq,q⟩:=h;obtain ⟨u,rfl,rx⟩:=dg r;cases rx;obtain ⟨its,r',pl,hz⟩:=I.list hq;have hlen:=r'.length;rw [aak] at hlen;have hps:p < s.heap.objs.size:=by obtain ⟨o,n,ho,_⟩:=pl;exact aag ho
  refine call_all_walk (wpAny_pyIter_list pl.isList ?_);refine ⟨s.heap.objs.size,_,_,_,_,_,fun i=>bs.getD i true,rfl,acr (A:=X.A.in1) (I.ok.hd hc) s.heap.objs.size p (aas hps) its.toArray,⟨⟨_,aap _ rfl,rfl,rfl⟩,pl.isList.at fun o x=>aac _ x⟩,?_,?_⟩
  · intro i v s' Q' E' hP hQ';have hv:its.toArray[i]?=some v:=hP;have hv2:its[i]?=some v:=by simpa using hv
    have hi:i < bs.length:=by
      have:=(aaj.mp hv2).1;lia
    have hb:(bs.map V.bl)[i]?=some (.bl bs[i]):=by rw [aaU,aad hi];rfl
    obtain ⟨u,hu,ru⟩:=r'.get hb;rw [hv2] at hu;cases hu;cases ru;have e:bs.getD i true=bs[i]:=by rw [aay,aad hi];rfl
    have hQ2:Q' (bs.getD i true) s':=hQ';rw [e] at hQ2;exact wpAny_pure hQ2
  · intro h' tk k;have I2:Inv X pins σ H { s with heap:=h',toks:=tk }:=by
      refine I.turnedL (fp:=[s.heap.objs.size]) (t':=tk) (fun b o hb x=>k b o (by simpa using hb) (aac _ x)) fun b hb=>?_;have e:b=s.heap.objs.size:=by simpa using hb
      subst e;exact I.fpOk (aah _) (I.hok.fresh (aah _))
    have e:(abj its.toArray.size).all (fun i=>bs.getD i true)=bs.all id:=by
      have e1:its.toArray.size=bs.length:=by simp;lia
      rw [e1];apply Bool.eq_iff_iff.mpr;rw [aaH,aaH];constructor
      · intro hh b hb;obtain ⟨i,hi,e⟩:=abI hb;have:=hh i (abe.mpr hi);rw [aay,aad hi] at this;rw [← e];exact this
      · intro hh i hi;have hi:=abe.mp hi;rw [aay,aad hi];exact hh _ (abp hi)
    rw [e];exact ⟨.bl (bs.all id),H,I2,rfl,q⟩
open PySem PySem.Spec PyProof.Rows
open PySem PySem.Spec PyProof.Rows
theorem kN {elt tg iter tg2 iter2:Expr} {ifs ifs2:List Expr} {G:List Comprehension} {k:Nat} (hk:G[k]?=some ⟨tg,iter,ifs,0⟩) (hk2:G[k+1]?=some ⟨tg2,iter2,ifs2,0⟩) {scope:Scope} {pos:Pos} {it acc:Value} {env:Env} :
    compTurn (.ListComp elt G scope pos) k it acc env=(do
      standAt iter.pos
      match ← pyNext it with
      | none=>pure (.done .next)
      | some v =>
        letOwnedTupleGo tg it v
        assign tg env v
        let mut ok:=true
        for c in ifs do
          if ok then ok ← isTrue c env (eval c env)
        if ok then do
          let x ← eval iter2 env
          standAt iter2.pos
          let x ← foldedSetIterable iter2 env x
          let i ← holding [x] (pyIter x)
          let _ ← runOwn (.compStart (.ListComp elt G scope pos) (k+1) i acc env) env
          again (.compLoop (.ListComp elt G scope pos) k it acc env)
        else again (.compLoop (.ListComp elt G scope pos) k it acc env)):=by
  unfold compTurn;simp only [hk,hk2];rfl
theorem jj {elt tg2 iter2:Expr} {ifs2:List Expr} {G:List Comprehension} {k:Nat} (hk:G[k]?=some ⟨tg2,iter2,ifs2,0⟩) (hk2:G[k+1]?=none) {scope:Scope} {pos:Pos} {it acc:Value} {env:Env} :
    compTurn (.ListComp elt G scope pos) k it acc env=(do
      standAt iter2.pos
      match ← pyNext it with
      | none=>pure (.done .next)
      | some v =>
        letOwnedTupleGo tg2 it v
        assign tg2 env v
        let mut ok:=true
        for c in ifs2 do
          if ok then ok ← isTrue c env (eval c env)
        if ok then
          (do let _ ← call (.builtin "list.append") [acc,← eval elt env])
        again (.compLoop (.ListComp elt G scope pos) k it acc env)):=by
  unfold compTurn;simp only [hk,hk2];rfl
theorem iQ {prog:Program} {w:World} {A:Around} {R:Result→Shared→Prop} {s:Shared} {elt tg iter tg2 iter2:Expr} {ifs ifs2:List Expr} {G:List Comprehension} {k:Nat} (hk:G[k]?=some ⟨tg,iter,ifs,0⟩) (hk2:G[k+1]?=some ⟨tg2,iter2,ifs2,0⟩) {scope:Scope} {pos:Pos} {it acc:Value} {env:Env} (J:Nat→Shared→Prop) (hs2:∀ x,foldedSetIterable iter2 env x=pure x)
    (turn:∀ n s,J n s→wpAny (model prog w) A (pyNext it) (fun r s₁=>match r with
      | none=>R (.ok .next) s₁
      | some v=>wpAny (model prog w) A (letOwnedTupleGo tg it v) (fun _ s₁'=>wpAny (model prog w) A (assign tg env v) (fun _ s₂ =>
          wpAny (model prog w) A (forIn ifs true fun c r=>if r=true then do let ok ← isTrue c env (eval c env);pure (ForInStep.yield ok) else pure (ForInStep.yield r)) (fun ok s₃ =>
            if ok=true then wpAny (model prog w) A (eval iter2 env) (fun x s₄=>wpAny (model prog w) A (pyIter x) (fun it2 s₅ =>
              codeAny (model prog w) A (.compStart (.ListComp elt G scope pos) (k+1) it2 acc env) (fun r s₆=>match r with|.ok _=>∃ m,m < n∧J m s₆|.error _=>False) s₅) (fun _ _=>False) s₄) (fun _ _=>False) s₃
            else ∃ m,m < n∧J m s₃) (fun _ _=>False) s₂) (fun _ _=>False) s₁') (fun _ _=>False) s₁) (fun _ _=>False) s)
    (n:Nat) (h:J n s) :
    codeAny (model prog w) A (.compLoop (.ListComp elt G scope pos) k it acc env) R s:=by
  refine codeAny_loop rfl J (fun n s hI=>?_) n h;show wpAny _ A ((compTurn (.ListComp elt G scope pos) k it acc env).onRaise (fun x=>do noteFrame x env;theTreesLotGoes x)) _ _ s;refine wpAny_noted ?_;rw [kN hk hk2];refine wpAny_bind (wpAny_standAt (wpAny_bind (wpAny_mono (turn n s hI) (fun r s₁ h₁=>?_) fun _ _ h'=>h'.elim)));cases r with
  | none=>exact wpAny_pure h₁
  | some v =>
    refine wpAny_bind (wpAny_mono h₁ (fun _ s₁' h₁'=>?_) fun _ _ h'=>h'.elim);refine wpAny_bind (wpAny_mono h₁' (fun _ s₂ h₂=>wpAny_bind (wpAny_mono h₂ (fun ok s₃ h₃=>?_) fun _ _ h'=>h'.elim)) fun _ _ h'=>h'.elim);cases ok with
    | false=>exact wpAny_pure ⟨rfl,h₃⟩
    | true =>
      refine wpAny_bind (wpAny_mono h₃ (fun x s₄ h₄=>?_) fun _ _ h'=>h'.elim);refine wpAny_bind (wpAny_standAt (wpAny_bind (wpAny_of_eq (hs2 x) (wpAny_bind (wpAny_holding (wpAny_mono h₄ (fun it2 s₅ h₅=>?_) fun _ _ h'=>h'.elim))))));refine wpAny_bind (wpAny_runOwn (codeAny_mono h₅ fun r s₆ h₆=>?_));cases r with
      | ok f=>exact wpAny_pure ⟨rfl,h₆⟩
      | error e=>exact h₆.elim
theorem nv {prog:Program} {w:World} {A:Around} {R:Result→Shared→Prop} {s:Shared} {elt tg2 iter2:Expr} {ifs2:List Expr} {G:List Comprehension} {k:Nat} (hk:G[k]?=some ⟨tg2,iter2,ifs2,0⟩) (hk2:G[k+1]?=none) {scope:Scope} {pos:Pos} {it acc:Value} {env:Env} (J:Nat→Shared→Prop)
    (turn:∀ n s,J n s→wpAny (model prog w) A (pyNext it) (fun r s₁=>match r with
      | none=>R (.ok .next) s₁
      | some v=>wpAny (model prog w) A (letOwnedTupleGo tg2 it v) (fun _ s₁'=>wpAny (model prog w) A (assign tg2 env v) (fun _ s₂ =>
          wpAny (model prog w) A (forIn ifs2 true fun c r=>if r=true then do let ok ← isTrue c env (eval c env);pure (ForInStep.yield ok) else pure (ForInStep.yield r)) (fun ok s₃ =>
            if ok=true then wpAny (model prog w) A (eval elt env) (fun x s₄ =>
              wpAny (model prog w) A (call (.builtin "list.append") [acc,x]) (fun _ s₅=>∃ m,m < n∧J m s₅) (fun _ _=>False) s₄) (fun _ _=>False) s₃
            else ∃ m,m < n∧J m s₃) (fun _ _=>False) s₂) (fun _ _=>False) s₁') (fun _ _=>False) s₁) (fun _ _=>False) s)
    (n:Nat) (h:J n s) :
    codeAny (model prog w) A (.compLoop (.ListComp elt G scope pos) k it acc env) R s:=by
  refine codeAny_loop rfl J (fun n s hI=>?_) n h;show wpAny _ A ((compTurn (.ListComp elt G scope pos) k it acc env).onRaise (fun x=>do noteFrame x env;theTreesLotGoes x)) _ _ s;refine wpAny_noted ?_;rw [jj hk hk2];refine wpAny_bind (wpAny_standAt (wpAny_bind (wpAny_mono (turn n s hI) (fun r s₁ h₁=>?_) fun _ _ h'=>h'.elim)));cases r with
  | none=>exact wpAny_pure h₁
  | some v =>
    refine wpAny_bind (wpAny_mono h₁ (fun _ s₁' h₁'=>?_) fun _ _ h'=>h'.elim);refine wpAny_bind (wpAny_mono h₁' (fun _ s₂ h₂=>wpAny_bind (wpAny_mono h₂ (fun ok s₃ h₃=>?_) fun _ _ h'=>h'.elim)) fun _ _ h'=>h'.elim);cases ok with
    | false=>exact wpAny_pure ⟨rfl,h₃⟩
    | true =>
      exact wpAny_bind (wpAny_bind (wpAny_mono h₃ (fun x s₄ h₄=>wpAny_bind (wpAny_mono h₄ (fun _ s₅ h₅=>wpAny_pure (wpAny_pure ⟨rfl,h₅⟩)) fun _ _ h'=>h'.elim)) fun _ _ h'=>h'.elim))
theorem iP {prog:Program} {w:World} {A:Around} {R:Result→Shared→Prop} {s:Shared} {elt tg2 iter2:Expr} {ifs2:List Expr} {G:List Comprehension} {k:Nat} (hk:G[k]?=some ⟨tg2,iter2,ifs2,0⟩) {scope:Scope} {pos:Pos} {it acc:Value} {env:Env}
    (h0:codeAny (model prog w) A (.compLoop (.ListComp elt G scope pos) k it acc env) R s)
    (h:wpAny (model prog w) A (pyIter it) (fun it' s'=>codeAny (model prog w) A (.compLoop (.ListComp elt G scope pos) k it' acc env) R s')
      (notedBy (model prog w) A env fun x s'=>R (.error x) s') s) :
    codeAny (model prog w) A (.compStart (.ListComp elt G scope pos) k it acc env) R s:=by
  refine codeAny_of_tree ?_;show wpAny _ _ ((compStart (.ListComp elt G scope pos) k it acc env).onRaise (fun x=>do noteFrame x env;standAt theWindowsPlace)) _ _ s;refine wpAny_notedAt ?_;unfold compStart;rw [show (clausesOf (.ListComp elt G scope pos))[k]?=some ⟨tg2,iter2,ifs2,0⟩ from hk];show wpAny _ _ (ask >>= _) _ _ s;refine wpAny_bind (wpAny_askSetting (wpAny_ite ?_));split
  · first
      | exact wpAny_bind (wpAny_pure (wpAny_pure (And.intro rfl h0)))
      | exact wpAny_pure (And.intro rfl h0)
  · first
      | exact wpAny_bind (wpAny_rule (wpAny_bind (wpAny_standAt (wpAny_bind (wpAny_mono h (fun it' s' h'=>wpAny_pure (And.intro rfl h')) fun _ _ x=>x)))))
      | (refine wpAny_bind (wpAny_rule ?_);show wpAny _ _ (standAt iter2.pos >>= _) _ _ s;exact wpAny_bind (wpAny_standAt (wpAny_bind (wpAny_mono h (fun it' s' h'=>wpAny_pure (And.intro rfl h')) fun _ _ x=>x))))
structure PCl (Y:Cx) (c:Comprehension) (r:TI × TG × TT):Prop where
  as:c.is_async=0
  it:PI Y c.target c.iter r.1
  tg:PG Y c.target r.2.1
  fs:iV Y c.ifs r.2.2
  st:∀ E x,foldedSetIterable c.iter E x=pure x
abbrev kU (g2:TG) (tt2:TT) (te:TE) (ys:List V) (σ2:St) (Fin:List V→St→Hp→Prop) (J2:It) (H4:Hp):Prop:=∃ W2:Nat→Nat→List V→St→Hp→Prop,(∃ m,W2 0 m ys σ2 H4)∧∀ i m ys σ H,W2 i m ys σ H →
  (J2.stop i H∧Fin ys σ H) ∨
  (J2.go i H∧ys.length < sizeLine∧∀ x H',J2.yld i H x H'→g2 x σ H' fun σ3 H5=>tt2 σ3 H5 fun b H6=>if b=true then te σ3 H6 fun v H7=>∃ m',m' < m∧W2 (i+1) m' (ys++[v]) σ3 H7 else ∃ m',m' < m∧W2 (i+1) m' ys σ3 H6)
abbrev LcT:List (TI × TG × TT)→TG→TT→TE→List V→St→(List V→St→Hp→Prop)→It→Hp→Prop
  | [],g,tt,te,ys,σ,Fn,J,H=>kU g tt te ys σ Fn J H
  | r :: rs,g,tt,te,ys,σ2,Fn,J2,H4=>∃ W2:Nat→Nat→List V→St→Hp→Prop,(∃ m,W2 0 m ys σ2 H4)∧∀ i m ys σ H,W2 i m ys σ H →
    (J2.stop i H∧Fn ys σ H) ∨
    (J2.go i H∧∀ x H',J2.yld i H x H'→g x σ H' fun σ3 H5=>tt σ3 H5 fun b H6=>if b=true then r.1 σ3 H6 (LcT rs r.2.1 r.2.2 te ys σ3 fun ys' σ' H7=>∃ m',m' < m∧W2 (i+1) m' ys' σ' H7) else ∃ m',m' < m∧W2 (i+1) m' ys σ3 H6)
abbrev Lp (D:Addr) (its:List Value) (k:Nat):Addr × Obj:=(D,{ cls:=.type "list",data:=.seq its.toArray k })
def uV (Y:Cx) (D:Addr) (P:List (Addr × Obj)) (Fin:List V→St→Hp→Prop) (s:Shared):Prop:=∃ ys its k σ H,Inv Y (Lp D its k :: P) σ H s∧Vals ys its∧ys.length≤sizeLine∧Fin ys σ H
theorem qX {Y:Cx} (hc:Y.calm=true) (hxe:Y.xe=fun _ _=>False) {D:Addr} (hDx:D∈Y.ex∨Y.s₀.heap.objs.size≤D) (hDc:∀ x c,Y.env.cells.lookup x=some c→c≠D) (hDp:∀ p∈Y.pn,p.1≠D)
    {elt:Expr} {te:TE} {G:List Comprehension} {scope:Scope} {pos:Pos} (hbe:PE Y elt te) :
    ∀ (rs:List (TI × TG × TT)) (c:Comprehension) (r:TI × TG × TT) (k:Nat),G[k]?=some c→PCl Y c r→Paired (PCl Y) (G.drop (k+1)) rs →
    ∀ (P:List (Addr × Obj)),(∀ p∈P,p.1≠D)→∀ {σ:St} {H:Hp} {s:Shared} {ys:List V} {its:List Value} {kk:Nat} {Fin:List V→St→Hp→Prop},Inv Y (Lp D its kk :: P) σ H s→Vals ys its→ys.length≤sizeLine →
      r.1 σ H (LcT rs r.2.1 r.2.2 te ys σ Fin) →
      wpAny (model Y.prog Y.w) Y.A (eval c.iter Y.env) (fun x s₄=>wpAny (model Y.prog Y.w) Y.A (pyIter x) (fun it2 s₅ =>
        codeAny (model Y.prog Y.w) Y.A (.compStart (.ListComp elt G scope pos) k it2 (.ref D) Y.env) (fun r s₆=>match r with|.ok _=>uV Y D P Fin s₆|.error _=>False) s₅) (fun _ _=>False) s₄) (fun _ _=>False) s:=by
  intro rs;have xe:∀ e s,Y.xe e s→False:=fun e s z=>by rw [hxe] at z;exact z
  induction rs with
  | nil =>
    intro c r k hk hcl hG P hP σ H s ys its kk Fin I rv hz h;have hk2:G[k+1]?=none:=by
      have l:=aa9 hG;rw [abA] at l;exact List.getElem?_eq_none (by simp at l;lia)
    obtain ⟨tg,iter,ifs,as⟩:=c;have as0:as=0:=hcl.as;subst as0;refine wpAny_mono (hcl.it _ s σ H _ I h) (fun v s1 h1=>wpAny_mono h1 (fun itv s2 h2=>?_) fun e s z=>(xe e s z).elim) fun e s z=>(xe e s z).elim;obtain ⟨it,fp,tn,J,H2,e,I2,T,st2,f2,W,⟨m0,w0⟩,turn⟩:=h2;subst e;have neD:∀ b∈fp,D≠b:=fun b hb=>(f2 b hb).2.2.2.2.2 (Lp D its kk) (aaa _ aav);have fpYs:∀ {H':Hp} {n:Nat} {its':List Value},(∀ b∈fp,H' b=none)→∀ b∈fp,gn Y (Lp D its' n :: P) H' b:=fun {H' n its'} hn b hb=>by
      refine ⟨hn b hb,(f2 b hb).2.1,(f2 b hb).2.2.1,(f2 b hb).2.2.2.1,(f2 b hb).2.2.2.2.1,fun p hp=>?_⟩;rcases aau.mp hp with z|z
      · exact (f2 b hb).2.2.2.2.2 p (aaz _ z)
      · rcases aai.mp z with z|z
        · rw [z];exact neD b hb
        · exact (f2 b hb).2.2.2.2.2 p (aaa _ (aal _ z))
    have loop:codeAny (model Y.prog Y.w) Y.A (.compLoop (.ListComp elt G scope pos) k (.ref it) (.ref D) Y.env) (fun r s₆=>match r with|.ok _=>uV Y D P Fin s₆|.error _=>False) s2:=by
      refine nv hk hk2 (fun n s'=>∃ i ys its k σ H',Inv Y (Lp D its k :: P) σ H' s'∧Vals ys its∧ys.length≤sizeLine∧tn i s'.heap∧(∀ b∈fp,H' b=none)∧W i n ys σ H') ?_ m0 ⟨0,ys,its,kk,σ,H2,I2,rv,hz,st2,fun b hb=>(f2 b hb).1,w0⟩;rintro n s3 ⟨i,ys3,its3,k3,σ3,H3,I3,rv3,hz3,st3,fr3,w3⟩;rcases turn i n ys3 σ3 H3 w3 with ⟨stop,qn⟩|⟨go,hlt,step⟩
      · refine wpAny_mono (T.done Y rfl rfl rfl hc i _ s3 _ H3 (fun _ _=>False) I3 (fpYs fr3) st3 stop) (fun r s4 ⟨hr,I4⟩=>?_) fun _ _ z=>z;subst hr;exact ⟨ys3,its3,k3,σ3,H3,I4,rv3,hz3,qn⟩
      · refine wpAny_mono (T.item Y rfl rfl rfl hc i _ s3 _ H3 (fun _ _=>False) I3 (fpYs fr3) st3 go) (fun r s4 ⟨u,hr,h4⟩=>?_) fun _ _ z=>z;subst hr;refine wpAny_mono h4 (fun _ s5 ⟨x,H5,I5,r5,y5,st5,fr5⟩=>?_) fun _ _ z=>z;have I5':=I5.pinned (fpYs fr5) (T.obj _ _ st5);refine wpAny_mono (hcl.tg _ s5 _ H5 x u _ I5' r5 (step x H5 y5)) (fun _ s6 ⟨σ6,H6,I6,q6⟩=>?_) fun e s z=>(xe e s z).elim;refine wpAny_mono (hcl.fs _ s6 σ6 H6 _ I6 q6) (fun ok s7 ⟨H7,I7,q7⟩=>?_) fun e s z=>(xe e s z).elim;have again:∀ {ys':List V} {its':List Value} {k':Nat} {σ':St} {H':Hp} {s':Shared},Inv Y (Lp D its' k' :: (P++aZ fp s5.heap)) σ' H' s'→Vals ys' its'→ys'.length≤sizeLine→(∃ m',m' < n∧W (i+1) m' ys' σ' H') →
            ∃ m,m < n∧∃ i ys its k σ H',Inv Y (Lp D its k :: P) σ H' s'∧Vals ys its∧ys.length≤sizeLine∧tn i s'.heap∧(∀ b∈fp,H' b=none)∧W i m ys σ H':=fun {ys' its' k' σ' H' s'} Z rv' hz' hw=>by
          obtain ⟨m',hm,w'⟩:=hw;have pn:∀ {b:Addr} {o:Obj},b∈fp→s5.heap.get? b=some o→_:=fun {b o} hb e=>Z.pin (b,o) (aaa _ (aal _ (aaa _ (a7 hb e))));refine ⟨m',hm,i+1,ys',its',k',σ',H',Inv.unpinned (pl:=aZ fp s5.heap) Z,rv',hz',T.keep _ _ _ st5 fun b hb o e=>(pn hb e).1,fun b hb=>?_,w'⟩;obtain ⟨o,e,d⟩:=T.obj _ _ st5 b hb;exact (pn hb e).2.1
        cases ok with
        | false =>
          rw [if_neg aae] at q7 ⊢;exact again I7 rv3 hz3 q7
        | true =>
          rw [if_pos rfl] at q7 ⊢;refine wpAny_mono (hbe _ s7 σ6 H7 _ I7 q7) (fun xv s15 ⟨v,H15,I15,r15,q15⟩=>?_) fun e s z=>(xe e s z).elim;have pD:=I15.pin (Lp D its3 k3) (aaa _ aav);have hlen:=rv3.length;refine append_at pD.1 (fun h16 hs16 hD16=>?_) (by rw [aaf];lia);have I16:Inv Y (P++aZ fp s5.heap) σ6 H15 s15:=I15.pins_of fun p hp=>I15.pin p (aaa _ (aal _ hp));have I17:Inv Y (P++aZ fp s5.heap) σ6 H15 { s15 with heap:=h16 }:=I16.turned (t':=s15.toks) (it:=D) (fun b o hb e=>hs16.extBut b o hb e) pD.2.1 pD.2.2.1 hDx hDc fun p hp=>by
            rcases aau.mp hp with z|z
            · exact hDp p z
            · rcases aau.mp z with z|z
              · exact hP p z
              · exact abt (neD _ (cW z).1)
          have I18:Inv Y (Lp D (its3++[xv]) (k3+1) :: (P++aZ fp s5.heap)) σ6 H15 { s15 with heap:=h16 }:=I17.pins_of fun p hp=>by
            rcases aai.mp hp with z|z
            · rw [z];refine ⟨?_,pD.2.1,pD.2.2.1,pD.2.2.2.1,fun v z=>by cases z⟩;rw [List.push_toArray] at hD16;exact hD16
            · exact I17.pin p (aaa _ z)
          exact again I18 (rv3.append (.cons r15 .nil)) (by rw [aan,abm];exact hlt) q15
    exact iP hk loop (T.self _ 0 _ _ _ st2 loop)
  | cons r2 rs ih =>
    intro c r k hk hcl hG P hP σ H s ys its kk Fin I rv hz h;obtain ⟨c2,hk2,hcl2,hG2⟩:∃ c2,G[k+1]?=some c2∧PCl Y c2 r2∧Paired (PCl Y) (G.drop (k+1+1)) rs:=by
      cases e:G.drop (k+1) with
      | nil=>rw [e] at hG;cases hG
      | cons c2 l =>
        rw [e] at hG;have e1:G[k+1]?=some c2:=by
          have:=congrArg (·[0]?) e;simpa using this
        have e2:G.drop (k+1+1)=l:=by rw [← List.drop_drop,e];rfl
        cases hG with
        | cons a b=>exact ⟨c2,e1,a,by rw [e2];exact b⟩
    obtain ⟨tg,iter,ifs,as⟩:=c;have as0:as=0:=hcl.as;subst as0;obtain ⟨tg2,iter2,ifs2,as2⟩:=c2;have as20:as2=0:=hcl2.as;subst as20;refine wpAny_mono (hcl.it _ s σ H _ I h) (fun v s1 h1=>wpAny_mono h1 (fun itv s2 h2=>?_) fun e s z=>(xe e s z).elim) fun e s z=>(xe e s z).elim;obtain ⟨it,fp,tn,J,H2,e,I2,T,st2,f2,W,⟨m0,w0⟩,turn⟩:=h2;subst e;have neD:∀ b∈fp,D≠b:=fun b hb=>(f2 b hb).2.2.2.2.2 (Lp D its kk) (aaa _ aav);have fpYs:∀ {H':Hp} {n:Nat} {its':List Value},(∀ b∈fp,H' b=none)→∀ b∈fp,gn Y (Lp D its' n :: P) H' b:=fun {H' n its'} hn b hb=>by
      refine ⟨hn b hb,(f2 b hb).2.1,(f2 b hb).2.2.1,(f2 b hb).2.2.2.1,(f2 b hb).2.2.2.2.1,fun p hp=>?_⟩;rcases aau.mp hp with z|z
      · exact (f2 b hb).2.2.2.2.2 p (aaz _ z)
      · rcases aai.mp z with z|z
        · rw [z];exact neD b hb
        · exact (f2 b hb).2.2.2.2.2 p (aaa _ (aal _ z))
    have loop:codeAny (model Y.prog Y.w) Y.A (.compLoop (.ListComp elt G scope pos) k (.ref it) (.ref D) Y.env) (fun r s₆=>match r with|.ok _=>uV Y D P Fin s₆|.error _=>False) s2:=by
      refine iQ hk hk2 (fun n s'=>∃ i ys its k σ H',Inv Y (Lp D its k :: P) σ H' s'∧Vals ys its∧ys.length≤sizeLine∧tn i s'.heap∧(∀ b∈fp,H' b=none)∧W i n ys σ H') (hcl2.st _) ?_ m0 ⟨0,ys,its,kk,σ,H2,I2,rv,hz,st2,fun b hb=>(f2 b hb).1,w0⟩;rintro n s3 ⟨i,ys3,its3,k3,σ3,H3,I3,rv3,hz3,st3,fr3,w3⟩;rcases turn i n ys3 σ3 H3 w3 with ⟨stop,qn⟩|⟨go,step⟩
      · refine wpAny_mono (T.done Y rfl rfl rfl hc i _ s3 _ H3 (fun _ _=>False) I3 (fpYs fr3) st3 stop) (fun r s4 ⟨hr,I4⟩=>?_) fun _ _ z=>z;subst hr;exact ⟨ys3,its3,k3,σ3,H3,I4,rv3,hz3,qn⟩
      · refine wpAny_mono (T.item Y rfl rfl rfl hc i _ s3 _ H3 (fun _ _=>False) I3 (fpYs fr3) st3 go) (fun r s4 ⟨u,hr,h4⟩=>?_) fun _ _ z=>z;subst hr;refine wpAny_mono h4 (fun _ s5 ⟨x,H5,I5,r5,y5,st5,fr5⟩=>?_) fun _ _ z=>z;have I5':=I5.pinned (fpYs fr5) (T.obj _ _ st5);refine wpAny_mono (hcl.tg _ s5 _ H5 x u _ I5' r5 (step x H5 y5)) (fun _ s6 ⟨σ6,H6,I6,q6⟩=>?_) fun e s z=>(xe e s z).elim;refine wpAny_mono (hcl.fs _ s6 σ6 H6 _ I6 q6) (fun ok s7 ⟨H7,I7,q7⟩=>?_) fun e s z=>(xe e s z).elim;have again:∀ {ys':List V} {its':List Value} {k':Nat} {σ':St} {H':Hp} {s':Shared},Inv Y (Lp D its' k' :: (P++aZ fp s5.heap)) σ' H' s'→Vals ys' its'→ys'.length≤sizeLine→(∃ m',m' < n∧W (i+1) m' ys' σ' H') →
            ∃ m,m < n∧∃ i ys its k σ H',Inv Y (Lp D its k :: P) σ H' s'∧Vals ys its∧ys.length≤sizeLine∧tn i s'.heap∧(∀ b∈fp,H' b=none)∧W i m ys σ H':=fun {ys' its' k' σ' H' s'} Z rv' hz' hw=>by
          obtain ⟨m',hm,w'⟩:=hw;have pn:∀ {b:Addr} {o:Obj},b∈fp→s5.heap.get? b=some o→_:=fun {b o} hb e=>Z.pin (b,o) (aaa _ (aal _ (aaa _ (a7 hb e))));refine ⟨m',hm,i+1,ys',its',k',σ',H',Inv.unpinned (pl:=aZ fp s5.heap) Z,rv',hz',T.keep _ _ _ st5 fun b hb o e=>(pn hb e).1,fun b hb=>?_,w'⟩;obtain ⟨o,e,d⟩:=T.obj _ _ st5 b hb;exact (pn hb e).2.1
        cases ok with
        | false =>
          rw [if_neg aae] at q7 ⊢;exact again I7 rv3 hz3 q7
        | true =>
          rw [if_pos rfl] at q7 ⊢;refine wpAny_mono (ih ⟨tg2,iter2,ifs2,0⟩ r2 (k+1) hk2 hcl2 hG2 (P++aZ fp s5.heap) (fun p hp=>?_) I7 rv3 hz3 q7) (fun x s8 h8=>wpAny_mono h8 (fun it2 s9 h9=>codeAny_mono h9 fun r s10 h10=>?_) fun _ _ z=>z) fun _ _ z=>z
          · rcases aau.mp hp with z|z
            · exact hP p z
            · exact abt (neD _ (cW z).1)
          · cases r with
            | error e=>exact h10.elim
            | ok f =>
              obtain ⟨ys',its',k',σ',H',Z,rv',hz',w'⟩:=h10;exact again Z rv' hz' w'
    exact iP hk loop (T.self _ 0 _ _ _ st2 loop)
abbrev rR (cap:List (Option Nat)) (g:TG) (tt:TT) (r2:TI × TG × TT) (rs:List (TI × TG × TT)) (te:TE) (σ:St) (Q:VK) (J:It) (H1:Hp):Prop:=∃ W:Nat→Nat→List V→Hp→Prop,(∃ m,W 0 m [] H1)∧∀ i m ys H,W i m ys H →
  (J.stop i H∧∀ p,H p=none→Q (.ref p) (upd H p (.lst ys))) ∨
  (J.go i H∧∀ x H',J.yld i H x H'→g x (aG cap σ) H' fun σ2 H2=>tt σ2 H2 fun b H3=>if b=true then r2.1 σ2 H3 (LcT rs r2.2.1 r2.2.2 te ys σ2 fun ys' _ H4=>∃ m',m' < m∧W (i+1) m' ys' H4) else ∃ m',m' < m∧W (i+1) m' ys H3)
def v6 (cap:List (Option Nat)) (wi:TI) (g:TG) (tt:TT) (r2:TI × TG × TT) (rs:List (TI × TG × TT)) (te:TE):TE:=fun σ H Q=>wi σ H (rR cap g tt r2 rs te σ Q)
section
variable {X:Cx}
theorem qE {elt tg iter:Expr} {ifs:List Expr} {G:List Comprehension} {r2:TI × TG × TT} {rs:List (TI × TG × TT)} {scope:Scope} {pos:Pos} {cl:List (Str × Addr)} {NY:List Str} {cap:List (Option Nat)} {wi:TI} {g:TG} {tt:TT} {te:TE} (hc:X.calm=true) (hi:PI X tg iter wi)
    (hclos:closureFor scope X.env=pure cl) (hci:CellsIn X.env cl) (hcap:CapOk X.env (relabel scope X.env) X.N NY cap)
    (hb:∀ fp s H C,PG (ah X scope cl NY fp s H C) tg g∧iV (ah X scope cl NY fp s H C) ifs tt∧Paired (PCl (ah X scope cl NY fp s H C)) G (r2 :: rs)∧PE (ah X scope cl NY fp s H C) elt te)
    (hkind:scope.kind=.function:=by rfl) (hnc:(scope.names.all fun y=>y.2 != .cell)=true:=by rfl)
    (hnames:(scope.names.all fun y=>y.2 != .local || scope.names.lookup y.1 == some .local)=true:=by rfl)
    (hhas:((relabel scope X.env).names.all fun p=>(p.2 != .cell && p.2 != .free) || (cl.lookup p.1).isSome)=true:=by rfl)
    (hs:∀ x,foldedSetIterable iter X.env x=pure x:=by intro _;rfl) :
    PE X (.ListComp elt (⟨tg,iter,ifs,0⟩ :: G) scope pos) (v6 cap wi g tt r2 rs te):=by
  have hnc':∀ y∈scope.names,y.2≠.cell:=fun y hy=>by
    have q:=aaH.mp hnc y hy;simpa using q
  have hnames':∀ y∈scope.names,y.2=.local→scope.names.lookup y.1=some .local:=fun y hy e=>by
    have q:=aaH.mp hnames y hy;rw [e] at q;simpa using q
  intro pins s σ H Q I h;rw [eval_ListComp];refine wpAny_comprehension_free (use:=none) rfl hs hclos hkind hnames' (wpAny_mono (hi pins s σ H _ I h) (fun v s1 h1=>wpAny_mono h1 (fun itv s2 h2=>?_) fun _ _ e=>e) fun _ _ e=>e);obtain ⟨it,fp,tn,J,H2,e,I2,T,st2,f2,W,⟨m0,w0⟩,turn⟩:=h2;subst e;refine wpAny_newObj_type (wpAny_newFunctionEnv hnc' (by intro y hy;simp at hy) (fun h₁ hns₁ hsb₁=>?_) hkind);dsimp only at hns₁ hsb₁ ⊢;generalize hH2:s2.heap.push { cls:=.type "list",dict:=none,data:=.seq ([]:List Value).toArray }=G2 at hns₁ hsb₁ ⊢;have hC:G2.objs.size=s2.heap.objs.size+1:=by rw [← hH2,abM]
  have hDC:s2.heap.objs.size≠G2.objs.size:=by rw [hC];exact aas (abX _)
  have hDlt:s2.heap.objs.size≤G2.objs.size:=by rw [hC];exact abT _
  have below:∀ b,b < s2.heap.objs.size→b≠G2.objs.size∧b≠s2.heap.objs.size:=fun b hb=>⟨by rw [hC];exact aas (abk hb),aas hb⟩
  have old:∀ b o,s2.heap.get? b=some o→h₁.get? b=some o:=fun b o e=>hsb₁.extBut b o (below b (aag e)).1 (aac _ (hH2 ▸ aac _ e));have hacc:h₁.get? s2.heap.objs.size=some { cls:=.type "list",data:=.seq ([]:List Value).toArray 0 }:=hsb₁.extBut _ _ hDC (aac _ (hH2 ▸ aap _ rfl));have fpl:∀ b∈fp,b < s2.heap.objs.size:=fun b hb=>by
    obtain ⟨o,e,_⟩:=T.obj _ _ st2 b hb;exact aag e
  have freshD:H2 s2.heap.objs.size=none:=I2.hok.fresh (aah _);have freshC:H2 G2.objs.size=none:=I2.hok.fresh hDlt;have cellLt:∀ x c,X.env.cells.lookup x=some c→c < s2.heap.objs.size:=fun x c e=>by
    obtain ⟨v,q⟩:=I2.cell x c e;exact q.lt
  have hclX:∀ x c,cl.lookup x=some c→X.env.cells.lookup x=some c:=fun x c e=>hci.get e;obtain ⟨hbg,hbt,hbG,hbe⟩:=hb fp s2 H2 G2.objs.size;obtain ⟨c2,G',eG,hcl2,hG'⟩:∃ c2 G',G=c2 :: G'∧PCl (ah X scope cl NY fp s2 H2 G2.objs.size) c2 r2∧Paired (PCl (ah X scope cl NY fp s2 H2 G2.objs.size)) G' rs:=by
    cases hbG with
    | cons a b=>exact ⟨_,_,rfl,a,b⟩
  obtain ⟨tg2,iter2,ifs2,as2⟩:=c2;have as20:as2=0:=hcl2.as;subst as20;have okY:(ah X scope cl NY fp s2 H2 G2.objs.size).Ok:=by
    refine ⟨I2.ok.mod,hkind,I2.ok.glob,I2.ok.blt,hDlt,fun x y c e1 e2=>I2.ok.inj x y c (hclX x c e1) (hclX y c e2),fun x hx=>?_,fun x c hf _=>?_,I2.ok.hd,I2.ok.frames,.inl rfl,fun b hb=>⟨(below b (fpl b hb)).1,fun x c e z=>?_⟩,I2.bs,
      aaK I2.ok.bsz I2.sz,fun b o e hb=>?_,fun b hb hz=>?_,I2.stack,I2.stkFree⟩
    · have hx':(relabel scope X.env).names.lookup x=some .cell∨(relabel scope X.env).names.lookup x=some .free:=hx;have key:∀ k,(relabel scope X.env).names.lookup x=some k→(k=.cell∨k=.free)→∃ c,cl.lookup x=some c:=fun k e hk=>by
        have q:=aaH.mp hhas (x,k) (aa0 e);have q':(cl.lookup x).isSome=true:=by
          rcases hk with rfl|rfl <;> simpa using q
        exact abd.mp q'
      rcases hx' with e|e
      · exact key _ e (.inl rfl)
      · exact key _ e (.inr rfl)
    · exact absurd (show false=true from hf) aae
    · exact (f2 b hb).2.2.2.2.1 x c (hclX x c e) z
    · rcases (f2 b hb).2.2.2.1 with z|z
      · exact I2.ok.noex b o e z
      · exact absurd (aao (aag (I2.ok.bs b o e).1) z) (aaZ _)
    · rcases aai.mp (I2.stkSub b hz) with z|z
      · exact (f2 b hb).2.1 z
      · exact (f2 b hb).2.2.1 z
  have fpYs:∀ {H':Hp} {n:Nat} {its:List Value},(∀ b∈fp,H' b=none)→∀ b∈fp,gn (ah X scope cl NY fp s2 H2 G2.objs.size) [(s2.heap.objs.size,{ cls:=.type "list",data:=.seq its.toArray n })] H' b:=fun {H' n its} hn b hb=>by
    refine ⟨hn b hb,(below b (fpl b hb)).1,fun hz=>?_,.inl hb,fun x c e=>(f2 b hb).2.2.2.2.1 x c (hclX x c e),fun p hp=>?_⟩
    · rcases aai.mp (I2.stkSub b hz) with z|z
      · exact (f2 b hb).2.1 z
      · exact (f2 b hb).2.2.1 z
    · have e:p=(s2.heap.objs.size,{ cls:=.type "list",data:=.seq its.toArray n }):=by simpa [ah] using hp
      rw [e];exact abt (below b (fpl b hb)).2
  have nostk:∀ b,s2.heap.objs.size≤b→b∉frs X.stack:=fun b hb hz=>by
    rcases aai.mp (I2.stkSub b hz) with z|z
    · have:=I2.lt;rw [← z] at this;exact absurd (aao this hb) (aaZ _)
    · exact I2.nofs hb z
  have IY0:Inv (ah X scope cl NY fp s2 H2 G2.objs.size) [(s2.heap.objs.size,{ cls:=.type "list",data:=.seq ([]:List Value).toArray 0 })] (aG cap σ) H2 { s2 with heap:=h₁,toks:=s2.toks+([]:List (Str × Value)).length }:=by
    refine ⟨okY,rfl,I2.bare,Un.kept old,⟨_,hns₁,fun j x v e1 e2 e3=>?_⟩,fun x c e=>?_,freshC,fun x c e=>I2.freeC x c (hclX x c e),fun p hp=>?_,I2.hok.kept old,?_⟩
    · obtain ⟨i,h1,h2,h3,h4⟩:=CapOk.get (σ:=σ) hcap e1 e2;obtain ⟨m,hn,hl⟩:=I2.loc;have vis:Vis X.env.scope x:=by rcases h3 with z|z;exact .inr (.inl z);exact .inr (.inr z)
      obtain ⟨u,r,l⟩:=hl i x v h1 h2 vis;refine ⟨u,r,.inr ⟨h4,?_⟩⟩;rcases l with ⟨k,_⟩|⟨_,c,e,z⟩
      · rcases h3 with z|z <;> (rw [k] at z;cases z)
      · obtain ⟨c',e'⟩:=okY.has x h4;have e':cl.lookup x=some c':=e';have e'':=hclX x c' e';rw [e] at e'';cases e'';obtain ⟨o,ho,hd⟩:=z;exact ⟨c,e',o,old _ _ ho,hd⟩
    · obtain ⟨v,o,ho,hd⟩:=I2.cell x c (hclX x c e);exact ⟨v,o,old _ _ ho,hd⟩
    · have e:p=(s2.heap.objs.size,{ cls:=.type "list",data:=.seq ([]:List Value).toArray 0 }):=by simpa [ah] using hp
      rw [e];exact ⟨hacc,freshD,hDC,nostk _ (aah _),fun v z=>by cases z⟩
    · show (aG cap σ).length=NY.length;unfold aG;rw [aak];exact hcap.len
  have hcY:(ah X scope cl NY fp s2 H2 G2.objs.size).calm=true:=hc;have stW:tn 0 h₁:=T.keep _ _ _ st2 fun b _ o e=>old b o e;have loop:∀ s₃:Shared,s₃={ s2 with heap:=h₁,toks:=s2.toks+([]:List (Str × Value)).length } →
      codeAny (model X.prog X.w) X.A (.compLoop (.ListComp elt (⟨tg,iter,ifs,0⟩ :: G) scope pos) 0 (.ref it) (.ref s2.heap.objs.size) (compEnvC scope cl G2.objs.size X.env))
        (compPost (model X.prog X.w) X.A X.xe none (EP X pins σ Q) (.ref s2.heap.objs.size) G2.objs.size) s₃:=by
    rintro s₃ rfl;refine iQ (k:=0) rfl (show (⟨tg,iter,ifs,0⟩ :: G:List Comprehension)[1]?=some ⟨tg2,iter2,ifs2,0⟩ by rw [eG];rfl) (fun n s'=>∃ i ys its k H',Inv (ah X scope cl NY fp s2 H2 G2.objs.size) [(s2.heap.objs.size,{ cls:=.type "list",data:=.seq its.toArray k })] (aG cap σ) H' s'∧Vals ys its∧ys.length≤sizeLine∧tn i s'.heap∧(∀ b∈fp,H' b=none)∧W i n ys H') (hcl2.st _) ?_ m0
      ⟨0,[],[],0,H2,IY0,.nil,aaR _,stW,fun b hb=>(f2 b hb).1,w0⟩
    rintro n s3 ⟨i,ys,its,k,H3,I3,rv,hz,st3,fr3,w3⟩;rcases turn i n ys H3 w3 with ⟨stop,qn⟩|⟨go,step⟩
    · refine wpAny_mono (T.done (ah X scope cl NY fp s2 H2 G2.objs.size) rfl rfl rfl hcY i _ s3 _ H3 (fun _ _=>False) I3 (fpYs fr3) st3 stop) (fun r s4 ⟨hr,I4⟩=>?_) fun _ _ z=>z;subst hr;obtain ⟨m,hnC,_⟩:=id I4.loc;have hnC:s4.heap.Ns G2.objs.size m:=hnC;refine ⟨m,hnC,fun h' hsb=>?_⟩;have pD:=(I4.pin (s2.heap.objs.size,{ cls:=.type "list",data:=.seq its.toArray k }) (by simp [ah]))
      have un:Un (frs X.stack) fp H2 H3 s2.heap s4.heap:=I4.base;have I5:Inv X pins σ H3 s4:=I2.call' (ch:=fp) I4.os un I4.hok I4.bare fun b hb=>⟨(f2 b hb).2.2.2.1,(f2 b hb).2.1,(f2 b hb).2.2.2.2.1,(f2 b hb).2.2.2.2.2⟩
      have cC:H3 G2.objs.size=none:=I4.free;have szX:X.s₀.heap.objs.size≤s2.heap.objs.size:=I2.sz;have I6:Inv X pins σ H3 { s4 with heap:=h' }:=I5.turned (t':=s4.toks) (it:=G2.objs.size) (fun b o hb e=>hsb.extBut b o hb e) cC (aaO (aao I2.lt hDlt)) (.inr (aaK szX hDlt))
        (fun x c e z=>absurd (cellLt x c e) (by rw [z];exact aci.mpr hDlt)) (fun p hp z=>absurd (aag (I2.pin p hp).1) (by rw [z];exact aci.mpr hDlt))
      have I7:Inv X pins σ (upd H3 s2.heap.objs.size (.lst ys)) { s4 with heap:=h' }:=I6.adopt pD.2.1 szX (aaO I2.lt) (fun x c e=>aas (cellLt x c e)) (fun p hp=>aas (aag (I2.pin p hp).1))
        ⟨hz,its,k,rv,hsb.extBut _ _ hDC pD.1⟩
      exact ⟨.ref s2.heap.objs.size,_,I7,rfl,qn _ pD.2.1⟩
    · refine wpAny_mono (T.item (ah X scope cl NY fp s2 H2 G2.objs.size) rfl rfl rfl hcY i _ s3 _ H3 (fun _ _=>False) I3 (fpYs fr3) st3 go) (fun r s4 ⟨u,hr,h4⟩=>?_) fun _ _ z=>z;subst hr;refine wpAny_mono h4 (fun _ s5 ⟨x,H5,I5,r5,y5,st5,fr5⟩=>?_) fun _ _ z=>z;have I5':=I5.pinned (fpYs fr5) (T.obj _ _ st5);refine wpAny_mono (hbg _ s5 _ H5 x u _ I5' r5 (step x H5 y5)) (fun _ s6 ⟨σ6,H6,I6,q6⟩=>?_) fun _ _ z=>z;refine wpAny_mono (hbt _ s6 σ6 H6 _ I6 q6) (fun ok s7 ⟨H7,I7,q7⟩=>?_) fun _ _ z=>z;have lenY:∀ {σ':St} {pn} {H'} {s'},Inv (ah X scope cl NY fp s2 H2 G2.objs.size) pn σ' H' s'→(aG cap σ).length=σ'.length:=fun {σ' pn H' s'} Z=>IY0.len.trans Z.len.symm;have captured:∀ {σ':St} {pn} {H'} {s'},Inv (ah X scope cl NY fp s2 H2 G2.objs.size) pn σ' H' s'→Inv (ah X scope cl NY fp s2 H2 G2.objs.size) pn (aG cap σ) H' s':=fun {σ' pn H' s'} Z=>by
        refine ⟨Z.ok,Z.os,Z.bare,Z.base,?_,Z.cell,Z.free,Z.freeC,Z.pin,Z.hok,IY0.len⟩;obtain ⟨m,hn,_⟩:=Z.loc;refine ⟨m,hn,fun j x v e1 e2 e3=>?_⟩;obtain ⟨i',h1,h2,h3,h4⟩:=CapOk.get (σ:=σ) hcap e1 e2;obtain ⟨m',hn',hl⟩:=I2.loc;have vis:Vis X.env.scope x:=by rcases h3 with z|z;exact .inr (.inl z);exact .inr (.inr z)
        obtain ⟨u,r,l⟩:=hl i' x v h1 h2 vis;refine ⟨u,r,.inr ⟨h4,?_⟩⟩;rcases l with ⟨kk,_⟩|⟨_,c,e,z⟩
        · rcases h3 with z|z <;> (rw [kk] at z;cases z)
        · obtain ⟨c',e'⟩:=okY.has x h4;have e':cl.lookup x=some c':=e';have e'':=hclX x c' e';rw [e] at e'';cases e'';obtain ⟨o,ho,hd⟩:=z;have nfp:c∉fp:=fun hz=>(f2 c hz).2.2.2.2.1 x c e rfl;obtain ⟨sl,q⟩:=Z.base.any (show s2.heap.get? c=some o from ho) (I2.freeC x c e) nfp;exact ⟨c,e',_,q,hd⟩
      have again:∀ {ys':List V} {its':List Value} {k':Nat} {σ':St} {H':Hp} {s':Shared},Inv (ah X scope cl NY fp s2 H2 G2.objs.size) ([(s2.heap.objs.size,{ cls:=.type "list",data:=.seq its'.toArray k' })]++aZ fp s5.heap) σ' H' s'→Vals ys' its'→ys'.length≤sizeLine →
          (∃ m',m' < n∧W (i+1) m' ys' H')→∃ m,m < n∧∃ i ys its k H',Inv (ah X scope cl NY fp s2 H2 G2.objs.size) [(s2.heap.objs.size,{ cls:=.type "list",data:=.seq its.toArray k })] (aG cap σ) H' s'∧Vals ys its∧ys.length≤sizeLine∧tn i s'.heap∧(∀ b∈fp,H' b=none)∧W i m ys H':=fun {ys' its' k' σ' H' s'} Z rv' hz' hw=>by
        obtain ⟨m',hm,w'⟩:=hw;refine ⟨m',hm,i+1,ys',its',k',H',captured Z.unpinned,rv',hz',T.keep _ _ _ st5 fun b hb o e=>(Z.pin (b,o) (aaa _ (aaa _ (a7 hb e)))).1,fun b hb=>?_,w'⟩;obtain ⟨o,e,d⟩:=T.obj _ _ st5 b hb;exact (Z.pin (b,o) (aaa _ (aaa _ (a7 hb e)))).2.1
      cases ok with
      | false =>
        rw [if_neg aae] at q7 ⊢;exact again I7 rv hz q7
      | true =>
        rw [if_pos rfl] at q7 ⊢;have fpD:∀ p∈aZ fp s5.heap,p.1≠s2.heap.objs.size:=fun p hp=>(below _ (fpl _ (cW hp).1)).2;have go2:=qX (Y:=ah X scope cl NY fp s2 H2 G2.objs.size) hcY rfl (D:=s2.heap.objs.size) (.inr (aah _)) (fun x c e=>aas (cellLt x c (hclX x c e))) (fun p hp=>absurd hp (by simp [ah])) (elt:=elt) (G:=⟨tg,iter,ifs,0⟩ :: G) (scope:=scope) (pos:=pos) hbe rs ⟨tg2,iter2,ifs2,0⟩ r2 1 (by rw [eG];rfl) hcl2 (by rw [eG];exact hG') (aZ fp s5.heap) fpD I7 rv hz q7;refine wpAny_mono go2 (fun x s8 h8=>wpAny_mono h8 (fun it2 s9 h9=>codeAny_mono h9 fun r s10 h10=>?_) fun _ _ z=>z) fun _ _ z=>z;cases r with
        | error e=>exact h10.elim
        | ok f =>
          obtain ⟨ys',its',k',σ',H',Z,rv',hz',w'⟩:=h10;exact again Z rv' hz' w'
  exact codeAny_compStart_list (loop _ rfl) (T.self _ 0 _ _ _ stW (loop _ rfl))
end
abbrev tz (g2:TG) (tt2:TT) (te:TE) (ys:List V) (σ2:St) (Fin:List V→Hp→Prop) (J2:It) (H4:Hp):Prop:=kU g2 tt2 te ys σ2 (fun ys _ H=>Fin ys H) J2 H4
abbrev tF (cap:List (Option Nat)) (g:TG) (tt:TT) (wi2:TI) (g2:TG) (tt2:TT) (te:TE) (σ:St) (Q:VK) (J:It) (H1:Hp):Prop:=rR cap g tt (wi2,g2,tt2) [] te σ Q J H1
def v8 (cap:List (Option Nat)) (wi:TI) (g:TG) (tt:TT) (wi2:TI) (g2:TG) (tt2:TT) (te:TE):TE:=fun σ H Q=>wi σ H (tF cap g tt wi2 g2 tt2 te σ Q)
abbrev rQ (g2:TG) (tt2:TT) (wi3:TI) (g3:TG) (tt3:TT) (te:TE) (ys:List V) (σ2:St) (Fin:List V→Hp→Prop) (J2:It) (H4:Hp):Prop:=LcT [(wi3,g3,tt3)] g2 tt2 te ys σ2 (fun ys _ H=>Fin ys H) J2 H4
abbrev tE (cap:List (Option Nat)) (g:TG) (tt:TT) (wi2:TI) (g2:TG) (tt2:TT) (wi3:TI) (g3:TG) (tt3:TT) (te:TE) (σ:St) (Q:VK) (J:It) (H1:Hp):Prop:=rR cap g tt (wi2,g2,tt2) [(wi3,g3,tt3)] te σ Q J H1
def v7 (cap:List (Option Nat)) (wi:TI) (g:TG) (tt:TT) (wi2:TI) (g2:TG) (tt2:TT) (wi3:TI) (g3:TG) (tt3:TT) (te:TE):TE:=fun σ H Q=>wi σ H (tE cap g tt wi2 g2 tt2 wi3 g3 tt3 te σ Q)
section
variable {X:Cx}
theorem ue {elt tg iter tg2 iter2:Expr} {ifs ifs2:List Expr} {scope:Scope} {pos:Pos} {cl:List (Str × Addr)} {NY:List Str} {cap:List (Option Nat)} {wi wi2:TI} {g g2:TG} {tt tt2:TT} {te:TE} (hc:X.calm=true) (hi:PI X tg iter wi)
    (hclos:closureFor scope X.env=pure cl) (hci:CellsIn X.env cl) (hcap:CapOk X.env (relabel scope X.env) X.N NY cap)
    (hb:∀ fp s H C,PG (ah X scope cl NY fp s H C) tg g∧iV (ah X scope cl NY fp s H C) ifs tt∧PI (ah X scope cl NY fp s H C) tg2 iter2 wi2∧PG (ah X scope cl NY fp s H C) tg2 g2∧iV (ah X scope cl NY fp s H C) ifs2 tt2∧PE (ah X scope cl NY fp s H C) elt te)
    (hkind:scope.kind=.function:=by rfl) (hnc:(scope.names.all fun y=>y.2 != .cell)=true:=by rfl)
    (hnames:(scope.names.all fun y=>y.2 != .local || scope.names.lookup y.1 == some .local)=true:=by rfl)
    (hhas:((relabel scope X.env).names.all fun p=>(p.2 != .cell && p.2 != .free) || (cl.lookup p.1).isSome)=true:=by rfl)
    (hs:∀ x,foldedSetIterable iter X.env x=pure x:=by intro _;rfl) (hs2:∀ E x,foldedSetIterable iter2 E x=pure x:=by intro _ _;rfl) :
    PE X (.ListComp elt [⟨tg,iter,ifs,0⟩,⟨tg2,iter2,ifs2,0⟩] scope pos) (v8 cap wi g tt wi2 g2 tt2 te) :=
  qE (r2:=(wi2,g2,tt2)) (rs:=[]) hc hi hclos hci hcap (fun fp s H C=>by obtain ⟨hbg,hbt,i2,t2,f2,hbe⟩:=hb fp s H C;exact ⟨hbg,hbt,(.cons ⟨rfl,i2,t2,f2,hs2⟩ .nil),hbe⟩) hkind hnc hnames hhas hs
theorem ud {elt tg iter tg2 iter2 tg3 iter3:Expr} {ifs ifs2 ifs3:List Expr} {scope:Scope} {pos:Pos} {cl:List (Str × Addr)} {NY:List Str} {cap:List (Option Nat)} {wi wi2 wi3:TI} {g g2 g3:TG} {tt tt2 tt3:TT} {te:TE} (hc:X.calm=true) (hi:PI X tg iter wi)
    (hclos:closureFor scope X.env=pure cl) (hci:CellsIn X.env cl) (hcap:CapOk X.env (relabel scope X.env) X.N NY cap)
    (hb:∀ fp s H C,PG (ah X scope cl NY fp s H C) tg g∧iV (ah X scope cl NY fp s H C) ifs tt∧PI (ah X scope cl NY fp s H C) tg2 iter2 wi2∧PG (ah X scope cl NY fp s H C) tg2 g2∧iV (ah X scope cl NY fp s H C) ifs2 tt2∧PI (ah X scope cl NY fp s H C) tg3 iter3 wi3∧PG (ah X scope cl NY fp s H C) tg3 g3∧iV (ah X scope cl NY fp s H C) ifs3 tt3∧PE (ah X scope cl NY fp s H C) elt te)
    (hkind:scope.kind=.function:=by rfl) (hnc:(scope.names.all fun y=>y.2 != .cell)=true:=by rfl)
    (hnames:(scope.names.all fun y=>y.2 != .local || scope.names.lookup y.1 == some .local)=true:=by rfl)
    (hhas:((relabel scope X.env).names.all fun p=>(p.2 != .cell && p.2 != .free) || (cl.lookup p.1).isSome)=true:=by rfl)
    (hs:∀ x,foldedSetIterable iter X.env x=pure x:=by intro _;rfl) (hs2:∀ E x,foldedSetIterable iter2 E x=pure x:=by intro _ _;rfl) (hs3:∀ E x,foldedSetIterable iter3 E x=pure x:=by intro _ _;rfl) :
    PE X (.ListComp elt [⟨tg,iter,ifs,0⟩,⟨tg2,iter2,ifs2,0⟩,⟨tg3,iter3,ifs3,0⟩] scope pos) (v7 cap wi g tt wi2 g2 tt2 wi3 g3 tt3 te) :=
  qE (r2:=(wi2,g2,tt2)) (rs:=[(wi3,g3,tt3)]) hc hi hclos hci hcap (fun fp s H C=>by obtain ⟨hbg,hbt,i2,t2,f2,i3,t3,f3,hbe⟩:=hb fp s H C;exact ⟨hbg,hbt,(.cons ⟨rfl,i2,t2,f2,hs2⟩ (.cons ⟨rfl,i3,t3,f3,hs3⟩ .nil)),hbe⟩) hkind hnc hnames hhas hs
end
open PySem PySem.Spec PyProof.Rows
def gD (h:Heap) (S:List Addr):Heap:=⟨h.objs.mapIdx fun i o=>if i∈S then { o with data:=.freed } else o,h.life⟩
theorem dk {h:Heap} {S:List Addr} {b:Addr} (hb:b∈S):(gD h S).get? b=none:=by
  unfold gD Heap.get?;simp only [Array.getElem?_mapIdx];cases e:h.objs[b]? with
  | none=>rfl
  | some o=>simp [hb]
theorem iB {h:Heap} {S:List Addr} {b:Addr} (hb:b∉S):(gD h S).get? b=h.get? b:=by
  unfold gD Heap.get?;simp only [Array.getElem?_mapIdx];cases e:h.objs[b]? with
  | none=>rfl
  | some o=>simp [hb]
theorem eK (h:Heap) (S:List Addr):(gD h S).StaysIn h:=fun b o e=>by
  by_cases hb:b∈S
  · rw [dk hb] at e;cases e
  · rw [iB hb] at e;exact e
theorem cH {h h1 base:Heap} {S:List Addr}:∀ {l:List Env},(∀ b∈l.filterMap (·.frame),b∈S)→h1.FunFrames base l→h1.FunFrames (gD h S) l
  | [],_,_=>trivial
  | env :: df,hs,⟨hk,⟨L,o,hf,hn,ho,hd⟩,hr⟩=>by
    refine ⟨hk,⟨L,o,hf,dk (hs L ?_),ho,hd⟩,cH (fun b hb=>hs b ?_) hr⟩
    · rw [abi,hf];exact aav
    · rw [abi,hf];exact aal _ hb
def Trc (h:Heap) (e T:Addr) (cls:Value):Prop:=∃ oe vs oT ts a0,h.get? e=some oe∧(oe.cls=cls∧vs[0]?=some a0)∧oe.data=.fields vs∧vs[1]?=some (.ref T)∧T≠e∧h.get? T=some oT∧oT.data=.fields ts∧ts[3]?=some .none
section
variable {M:Model} {A:Around} {E:Value→Shared→Prop} {s:Shared}
structure Lft (l:List Env) (e:Addr) (x:List Addr) (h h':Heap):Prop where
  keep:∀ b o,b∉l.filterMap (·.frame)→b≠e→b∉x→h.get? b=some o→h'.get? b=some o
  slot:∀ b o,b∈l.filterMap (·.frame)→h.get? b=some o→∃ sl,h'.get? b=some { o with slots:=sl }
theorem kI {base b0:Heap} {l:List Env} {e:Addr} {x:List Addr} {cls:Value} {h h':Heap} (hl:h.FunFrames b0 l) {a0:Value} (L:Heap.LeftW (gD h (e :: x++l.filterMap (·.frame))) l e cls a0 h h') (he:h.get? e≠none) :
    Lft l e x h h'∧∃ T,Trc h' e T cls∧(T∈x∨h.get? T=none):=by
  obtain ⟨k1,k2,k3,k4⟩:=L;refine ⟨⟨fun b o hb hbe hx ho=>k1 b o (by rw [iB];exact ho;simp [hb,hbe,hx]),fun b o hb ho=>?_⟩,?_⟩
  · obtain ⟨_,o',ho',hd⟩:=hl.mem hb;rw [ho] at ho';cases ho';exact k4 b o ho hd
  · obtain ⟨oe,vs,T,oT,ts,h1,h2,h3,h4,h5,h6,h7,h8,h9⟩:=k3;refine ⟨T,⟨oe,vs,oT,ts,a0,h1,h2,h3,h4,h6,h7,h8,h9⟩,?_⟩;by_cases hT:T∈x
    · exact .inl hT
    · refine .inr ?_;have nf:T∉l.filterMap (·.frame):=fun z=>by
        obtain ⟨_,o,ho,hd⟩:=k2.mem z;rw [h7] at ho;cases ho;exact hd ts h8
      rw [iB (by simp [hT,h6,nf])] at h5;exact h5
theorem lT {b0:Heap} {env:Env} {outer:List Env} {L e:Addr} {oe:Obj} {vs:Array Value} {Q:Unit→Shared→Prop} (hfr:A.frames=some (env :: outer)) (hl:s.heap.FunFrames b0 (env :: outer)) (hf:env.frame=some L)
    (he:s.heap.get? e=some oe) (hd:oe.data=.fields vs) (h1:vs[1]?=some .none) {a0:Value} (h0:vs[0]?=some a0)
    (h:∀ h' T,Lft (env :: outer) e [] s.heap h'→Trc h' e T oe.cls→s.heap.get? T=none→Q () { s with heap:=h' }):wpAny M A (leaving env (.ref e)) Q E s:=by
  refine wpAny_leaving_firstW (a0:=a0) (base:=gD s.heap (e :: []++(env :: outer).filterMap (·.frame))) hfr (cH (fun b hb=>aaa _ hb) hl) hf he (eK _ _) (dk (by simp)) hd h1 h0 fun h' L'=>?_;obtain ⟨l',T,t,z⟩:=kI (base:=b0) hl L' (by rw [he];simp);rcases z with z|z
  · exact absurd z (by simp)
  · exact h h' T l' t z
theorem mY {b0:Heap} {env:Env} {outer:List Env} {L e T:Addr} {cls:Value} {Q:Unit→Shared→Prop} (hfr:A.frames=some (env :: outer)) (hl:s.heap.FunFrames b0 (env :: outer)) (hf:env.frame=some L)
    (ht:Trc s.heap e T cls)
    (h:∀ h' T',Lft (env :: outer) e [T] s.heap h'→Trc h' e T' cls→(T'=T∨s.heap.get? T'=none)→Q () { s with heap:=h' }):wpAny M A (leaving env (.ref e)) Q E s:=by
  obtain ⟨oe,vs,oT,ts,a0,h1,h2,h3,h4,h6,h7,h8,h9⟩:=ht;refine wpAny_leaving_nextW (a0:=a0) (base:=gD s.heap (e :: [T]++(env :: outer).filterMap (·.frame))) (cls:=cls) hfr (cH (fun b hb=>aaa _ hb) hl) hf ⟨oe,vs,T,oT,ts,h1,h2,h3,h4,dk (by simp),h6,h7,h8,h9⟩ (eK _ _) (dk (by simp)) fun h' L'=>?_;obtain ⟨l',T',t,z⟩:=kI (base:=b0) hl L' (by rw [h1];simp);refine h h' T' l' t ?_;rcases z with z|z
  · exact .inl (by simpa using z)
  · exact .inr z
end
def CX1 (P:Program) (w:World):CXT:=fun outer H s E e s'=>∃ (ea T C:Addr) (H':Hp),e=.ref ea∧s'.os=s.os∧AllBare s'.gens∧Un (frs outer) [] H H' s.heap s'.heap∧HOk P w H' s'.heap∧s.heap.get? ea=none∧s.heap.get? T=none∧H' ea=none∧H' T=none∧Trc s'.heap ea T (.ref C)∧E (.ref C) none H'
theorem gF {h h' base:Heap}:∀ {l:List Env},(∀ b∈frs l,∀ o,h.get? b=some o→∃ sl,h'.get? b=some { o with slots:=sl })→h.FunFrames base l→h'.FunFrames base l
  | [],_,_=>trivial
  | env :: df,k,⟨hk,⟨L,o,hf,hn,ho,hd⟩,hr⟩=>by
    have m:∀ b,b=L∨b∈frs df→b∈frs (env :: df):=fun b hb=>by
      show b∈(env :: df).filterMap (·.frame);rw [abi,hf];rcases hb with rfl|hb
      · exact aav
      · exact aal _ hb
    obtain ⟨sl,e⟩:=k L (m L (.inl rfl)) o ho;exact ⟨hk,⟨L,_,hf,hn,e,hd⟩,gF (fun b hb=>k b (m b (.inr hb))) hr⟩
theorem iM {env:Env} {outer:List Env} {L:Addr} (hf:env.frame=some L):frs (env :: outer)=L :: frs outer:=by
  show (env :: outer).filterMap (·.frame)=_;rw [abi,hf];rfl
theorem nF {env:Env} {outer:List Env} {L e:Addr} {x:List Addr} {H0 H':Hp} {h0 h1 h2:Heap} (hf:env.frame=some L) (u:Un (frs (env :: outer)) [] H0 H' h0 h1) (l:Lft (env :: outer) e x h1 h2) (hL:h0.get? L=none) (he:h0.get? e=none) (hx:∀ b∈x,h0.get? b=none) :
    Un (frs outer) [] H0 H' h0 h2:=by
  have ne:∀ b o,h0.get? b=some o→b≠L∧b≠e∧b∉x:=fun b o q=>⟨(fun z=>by rw [z,hL] at q;cases q),(fun z=>by rw [z,he] at q;cases q),(fun z=>by rw [hx b z] at q;cases q)⟩
  have fr:∀ b,b∈frs (env :: outer)↔b=L∨b∈frs outer:=fun b=>by rw [iM hf,aai]
  have fwd:∀ b o,h0.get? b=some o→∀ o',h1.get? b=some o'→∃ sl,h2.get? b=some { o' with slots:=sl }:=fun b o q o' q'=>by
    by_cases hb:b∈frs (env :: outer)
    · exact l.slot b o' hb q'
    · exact ⟨o'.slots,l.keep b o' hb (ne b o q).2.1 (ne b o q).2.2 q'⟩
  refine ⟨fun b o q n hb _=>?_,fun b o q n hb _=>?_,fun b o q n h=>u.free b o q n h,fun b o q h=>?_,u.tups,u.frzs,u.tbls⟩
  · have nb:b∉frs (env :: outer):=fun z=>((fr b).mp z).elim (ne b o q).1 hb;exact l.keep b o nb (ne b o q).2.1 (ne b o q).2.2 (u.keep b o q n nb (by simp))
  · obtain ⟨sl,e1⟩:=u.slot b o q n ((fr b).mpr (.inr hb)) (by simp);obtain ⟨sl',e2⟩:=fwd b o q _ e1;exact ⟨sl',e2⟩
  · obtain ⟨o',e1⟩:=u.there b o q h;obtain ⟨sl,e2⟩:=fwd b o q o' e1;exact ⟨_,e2⟩
theorem l0 {P:Program} {w:World} {l:List Env} {e:Addr} {x:List Addr} {H:Hp} {h1 h2:Heap} (ok:HOk P w H h1) (f:Lft l e x h1 h2) (hl:∀ b∈frs l,H b=none) (he:H e=none) (hx:∀ b∈x,H b=none):HOk P w H h2:=fun b u q =>
  (ok b u q).stay (fun c v hc r=>by
    have hn:H c≠none:=by rcases hc with rfl|hc;rw [q];simp;rw [hc];simp
    exact f.keep c v (fun z=>hn (hl c z)) (fun z=>hn (by rw [z];exact he)) (fun z=>hn (hx c z)) r) (fun _ r=>r) fun _ _ r=>r
section
variable {P:Program} {w:World} {K:aab} {mg:Str→Option Value} {base:Heap} {N:List Str} {qual:Str} {scope:Scope} {f:Addr} {cd:Value} {A:Around} {outer:List Env} {s0:Shared} {H0:Hp} {E:XK}
theorem tV {pins:List (Addr × Obj)} {σ:St} {H:Hp} {s:Shared} {h':Heap} {e C:Addr} {args:List Value} (I:Inv (fH (CX1 P w) P w K mg base N qual scope f cd A outer s0 H0 E) pins σ H s) (mk:Heap.MadeExcOf s.heap h' e (.ref C) args) (q:E (.ref C) none H) :
    (fH (CX1 P w) P w K mg base N qual scope f cd A outer s0 H0 E).xe (.ref e) { s with heap:=h' }:=by
  have hf:(envOfC qual scope s0.heap.objs.size f cd).frame=some s0.heap.objs.size:=rfl;obtain ⟨t,he,ht,_⟩:=mk.there;have fr:h'.FunFrames base (envOfC qual scope s0.heap.objs.size f cd :: outer):=gF (fun b _ o ho=>⟨o.slots,mk.keeps b o ho⟩) I.stack;have un1:Un (frs (envOfC qual scope s0.heap.objs.size f cd :: outer)) [] H0 H s0.heap h':=(Un.mono I.base (fun b hb=>by rw [iM hf];exact aal _ hb) (fun b hb=>hb)).trans (Un.kept mk.keeps);have none_of:∀ b,s.heap.get? b=none→s0.heap.get? b=none∧H b=none:=fun b hb=>by
    constructor
    · cases z:s0.heap.get? b with
      | none=>rfl
      | some o =>
        obtain ⟨o',z'⟩:=I.base.there b o z (fun z=>nomatch z);rw [hb] at z';cases z'
    · cases z:H b with
      | none=>rfl
      | some o =>
        obtain ⟨u,hu⟩:=(I.hok b o z).get;rw [hb] at hu;cases hu
  refine lT (b0:=base) (s:={ s with heap:=h' }) (oe:={ cls:=.ref C,data:=.fields #[.ref t,.none,.none,.none,.bool false,.none] }) I.ok.frames fr hf he rfl rfl (a0:=.ref t) rfl fun h2 T lf tr hT=>?_;have hT':s.heap.get? T=none:=by
    cases z:s.heap.get? T with
    | none=>rfl
    | some o =>
      have:=mk.keeps T o z;have hT:h'.get? T=none:=hT;rw [hT] at this;cases this
  have hL:s0.heap.get? s0.heap.objs.size=none:=by
    cases z:s0.heap.get? s0.heap.objs.size with
    | none=>rfl
    | some o=>exact absurd (aag z) (aaZ _)
  exact ⟨e,T,C,H,rfl,I.os,I.bare,nF hf un1 lf hL (none_of e mk.new).1 (fun b hb=>nomatch hb),l0 (I.hok.kept mk.keeps) lf I.stkFree (none_of e mk.new).2 (fun b hb=>nomatch hb),(none_of e mk.new).1,(none_of T hT').1,(none_of e mk.new).2,(none_of T hT').2,tr,q⟩
theorem im:iU (CX1 P w) (fH (CX1 P w) P w K mg base N qual scope f cd A outer s0 H0 E) E:=by
  rintro pins σ H s e s' I ⟨ea,T,C,H',rfl,os,bare,un,hok,n1,n2,m1,m2,tr,q⟩;have hf:(envOfC qual scope s0.heap.objs.size f cd).frame=some s0.heap.objs.size:=rfl;have un:Un (frs (envOfC qual scope s0.heap.objs.size f cd :: outer)) [] H H' s.heap s'.heap:=un;have fr:s'.heap.FunFrames base (envOfC qual scope s0.heap.objs.size f cd :: outer):=gF (fun b hb o ho=>un.any ho (I.stkFree b hb) (fun z=>nomatch z)) I.stack;have un1:Un (frs (envOfC qual scope s0.heap.objs.size f cd :: outer)) [] H0 H' s0.heap s'.heap:=(Un.mono I.base (fun b hb=>by rw [iM hf];exact aal _ hb) (fun b hb=>hb)).trans un;have none_of:∀ b,s.heap.get? b=none→s0.heap.get? b=none:=fun b hb=>by
    cases z:s0.heap.get? b with
    | none=>rfl
    | some o =>
      obtain ⟨o',z'⟩:=I.base.there b o z (fun z=>nomatch z);rw [hb] at z';cases z'
  have hL:s0.heap.get? s0.heap.objs.size=none:=by
    cases z:s0.heap.get? s0.heap.objs.size with
    | none=>rfl
    | some o=>exact absurd (aag z) (aaZ _)
  have frN:∀ b∈frs (envOfC qual scope s0.heap.objs.size f cd :: outer),H' b=none:=fun b hb=>by
    obtain ⟨_,o,ho,_⟩:=(show s.heap.FunFrames base (envOfC qual scope s0.heap.objs.size f cd :: outer) from I.stack).mem hb;exact un.free b o ho (I.stkFree b hb) (fun z=>nomatch z)
  refine mY (b0:=base) I.ok.frames fr hf tr fun h2 T' lf tr' hT=>?_;have x1:∀ b∈[T],s0.heap.get? b=none:=fun b hb=>by rw [aar.mp hb];exact none_of T n2
  have x2:∀ b∈[T],H' b=none:=fun b hb=>by rw [aar.mp hb];exact m2
  refine ⟨ea,T',C,H',rfl,os.trans I.os,bare,nF hf un1 lf hL (none_of ea n1) x1,l0 hok lf frN m1 x2,none_of ea n1,?_,m1,?_,tr',q⟩
  · rcases hT with rfl|hT
    · exact none_of _ n2
    · cases z:s0.heap.get? T' with
      | none=>rfl
      | some o =>
        obtain ⟨o',z'⟩:=un1.there T' o z (fun z=>nomatch z);rw [hT] at z';cases z'
  · rcases hT with rfl|hT
    · exact m2
    · cases z:H' T' with
      | none=>rfl
      | some o =>
        obtain ⟨u,hu⟩:=(hok T' o z).get;rw [hT] at hu;cases hu
end
structure EC (K:aab) (C:Addr):Prop where
  ex:∃ nm q N bs bm hdct sn sub ab col dd k0 k1 k2 k3 k5 B newId initId bmB mN,ExcBaseFacts B newId initId bmB∧bm.contains (.type "BaseException")=true∧mN ("__init__":Str)=none ∧
    ∀ h,K.In h→h.get? C=some (excClassObj nm q C N bs bm hdct sn sub ab col dd k0 k1 k2 k3 k5 newId)∧h.Ns N mN∧OwnTail h bmB bm
def Rz (X:Cx) (E:XK):Prop:=∀ (pins:List (Addr × Obj)) (σ:St) (H:Hp) (s:Shared) (h':Heap) (e C:Addr) (args:List Value),Inv X pins σ H s→Heap.MadeExcOf s.heap h' e (.ref C) args→E (.ref C) none H→X.xe (.ref e) { s with heap:=h' }
theorem rz1 {P:Program} {w:World} {K:aab} {mg:Str→Option Value} {base:Heap} {N:List Str} {qual:Str} {scope:Scope} {f:Addr} {cd:Value} {A:Around} {outer:List Env} {s0:Shared} {H0:Hp} {E:XK} :
    Rz (fH (CX1 P w) P w K mg base N qual scope f cd A outer s0 H0 E) E:=fun _ _ _ _ _ _ _ _ I mk q=>tV I mk q
theorem lC {X:Cx} {E:XK} {C:Addr} {x t:Str} {np p cpos pos:Pos} {j:Nat} (hz:Rz X E) (ec:EC X.K C) (hc:X.calm=true) (hg:Gl X x) (hm:X.mg x=some (.ref C))
    (hs:backTo cpos (starEach [.Constant (.str t) j p] X.env)=[(false,eval (.Constant (.str t) j p) X.env)]:=by rfl) (hdb:(x == ("__debug__":Str))=false:=by decide) :
    PS X (.Raise (some (.Call (.Name x np) [.Constant (.str t) j p] [] cpos)) none pos) (fun _ _ H=>E (.ref C) none H):=by
  intro pins s σ H D I h;obtain ⟨nm,q,N,bs,bm,hdct,sn,sub,ab,col,dd,k0,k1,k2,k3,k5,B,newId,initId,bmB,mN,F,hb,hni,hK⟩:=ec.ex;refine wpAny_Raise_call_subT (nm:=nm) (q:=q) (N:=N) (bs:=bs) (hdct:=hdct) (sn:=sn) (sub:=sub) (ab:=ab) (col:=col) (dd:=dd) (k0:=k0) (k1:=k1) (k2:=k2) (k3:=k3) (k5:=k5) F hb (I.ok.hd hc) (by rw [hs];rfl) hni (gi I hg hm ⟨rfl,?_⟩ hdb);rw [hs];refine Calls.evalArgs_plain (Calls.spliced_cons (Calls.Constant_str (Calls.spliced_nil ?_)));have I1:Inv X pins σ H { s with toks:=s.toks+1 }:=I.tok _;obtain ⟨h1,h2,h3⟩:=hK _ I1.kIn;exact ⟨rfl,(by show 1≤sizeLine;decide),h1,h2,h3,fun h' e mk=>hz pins σ H _ h' e C _ I1 mk h⟩
theorem Fun.ok1 {P:Program} {w:World} {K:aab} {mg:Str→Option Value} {base:Heap} {x qual:Str} {st:Stmt} {f:Addr} {fd:FuncData} {N ps:List Str} {k:Nat} {sp:Sp} (F:Fun K x qual st f fd) (S:FnScope N ps (ag st)) (len:∀ vs H Q E,sp vs H Q E→vs.length=ps.length)
    (hbody:∀ (cdv:Value) (A:Around) (outer:List Env) (s:Shared) (H:Hp) (vs:List V) (Q:VK) (E:XK),Room k (A.deeper (envOfC qual (ag st) s.heap.objs.size f cdv))→sp vs H Q E →
      ∃ t,PSs (fH (CX1 P w) P w K mg base N qual (ag st) f cdv A outer s H E) (aV st) t∧t { nx:=fun _ H'=>Q .non H',rt:=Q } (start N vs) H):FnOk P w K mg base (CX1 P w) (k+1) f fd ps sp:=by
  obtain ⟨oc,od,kV,doc,pm,an,cdv,ct,osl,rfl,lk,hcd⟩:=F.ex;exact om lk hcd S len fun A outer s H vs Q E hr hsp=>hbody cdv A outer s H vs Q E hr hsp
def dS (P:Program) (w:World) (K:aab) (mg:Str→Option Value) (base:Heap) (x:Str) (k:Nat) (ps:List Str) (sp:Sp):Prop :=
  ∃ f fd,FnOk P w K mg base (CX1 P w) k f fd ps sp∧Binds K fd ps []∧aaS K (.ref f)=true∧mg x=some (.ref f)
theorem eF {X:Cx} {E:XK} {x:Str} {k k':Nat} {ps:List Str} {sp:Sp} {e:Expr} {es:List Expr} {t:TA} {p pos:Pos} (C:dS X.prog X.w X.K X.mg X.base x k ps sp) (hx:iU (CX1 X.prog X.w) X E) (hr:Room k' X.A) (hk:k≤k') (hg:Gl X x) (ha:PA X (e :: es) t)
    (hdb:(x == ("__debug__":Str))=false:=by decide) (he:starEach (e :: es) X.env=(false,eval e X.env) :: starEach es X.env:=by rfl) (hpl:(backTo pos (starEach es X.env)).any (·.1)=false:=by rfl) :
    PE X (.Call (.Name x p) (e :: es) [] pos) (nH sp [] E t):=by
  obtain ⟨f,fd,F,b,kp,m⟩:=C;exact kn F (hr.mono hk) hg m kp b .nil hx ha hdb he hpl
def iW (X:Cx) (pins:List (Addr × Obj)) (a:Addr):Prop:=X.s₀.heap.get? a=none∧a≠X.env.locals∧(∀ x c,X.env.cells.lookup x=some c→c≠a)∧∀ p∈X.pn++pins,p.1≠a
def p_ (X:Cx) (pins0:List (Addr × Obj)) (Cat:St→Addr→Hp→Prop):Cx :=
  { X with pn:=X.pn++pins0,xe:=fun e s'=>∃ ea T C H' σ,e=Value.ref ea∧Inv X pins0 σ H' s'∧Trc s'.heap ea T (.ref C)∧H' ea=none∧H' T=none∧iW X pins0 ea∧iW X pins0 T∧Cat σ C H' }
section
variable {X:Cx} {pins0 pins:List (Addr × Obj)} {Cat:St→Addr→Hp→Prop} {σ:St} {H:Hp} {s:Shared}
theorem sK (I:Inv X pins0 σ H s):Inv (p_ X pins0 Cat) [] σ H s :=
  ⟨⟨I.ok.mod,I.ok.kind,I.ok.glob,I.ok.blt,I.ok.above,I.ok.inj,I.ok.has,I.ok.cab,I.ok.hd,I.ok.frames,I.ok.stk,I.ok.exf,I.ok.bs,I.ok.bsz,I.ok.noex,I.ok.exfs,I.ok.funs,I.ok.frf⟩,I.os,I.bare,I.base,I.loc,I.cell,I.free,I.freeC,fun p hp=>I.pin p (by
    have hp:p∈(X.pn++pins0)++[]:=hp
    rwa [ab4] at hp),I.hok,I.len⟩
theorem dP (I:Inv (p_ X pins0 Cat) pins σ H s):Inv X pins0 σ H s :=
  ⟨⟨I.ok.mod,I.ok.kind,I.ok.glob,I.ok.blt,I.ok.above,I.ok.inj,I.ok.has,I.ok.cab,I.ok.hd,I.ok.frames,I.ok.stk,I.ok.exf,I.ok.bs,I.ok.bsz,I.ok.noex,I.ok.exfs,I.ok.funs,I.ok.frf⟩,I.os,I.bare,I.base,I.loc,I.cell,I.free,I.freeC,fun p hp=>I.pin p (show p∈(X.pn++pins0)++pins from aaz _ hp),I.hok,I.len⟩
theorem Inv.fresh_of (I:Inv X pins σ H s) {a:Addr} (hx:X.ex=[]) (h:s.heap.get? a=none):iW X pins a:=by
  refine ⟨?_,fun z=>?_,fun x c e z=>?_,fun p hp z=>?_⟩
  · cases q:X.s₀.heap.get? a with
    | none=>rfl
    | some o =>
      obtain ⟨o',q'⟩:=I.base.there a o q (by rw [hx];exact fun z=>nomatch z);rw [h] at q';cases q'
  · obtain ⟨m,⟨o,_,_,ho,_⟩,_⟩:=I.loc;rw [← z,h] at ho;cases ho
  · obtain ⟨v,o,ho,_⟩:=I.cell x c e;rw [z,h] at ho;cases ho
  · have:=(I.pin p hp).1;rw [z,h] at this;cases this
def tP (sp:Sp) (Cat:St→Addr→Hp→Prop) (t:TA):TE:=fun σ H Q=>t σ H fun vs H1=>sp vs H1 Q fun v _ H'=>∀ C,v=Value.ref C→Cat σ C H'
theorem g6 {x:Str} {k k':Nat} {ps:List Str} {sp:Sp} {e:Expr} {es:List Expr} {t:TA} {p pos:Pos} (C:dS X.prog X.w X.K X.mg X.base x k ps sp) (hx:X.ex=[]) (hr:Room k' X.A) (hk:k≤k') (hg:Gl X x) (ha:PA (p_ X pins0 Cat) (e :: es) t)
    (hdb:(x == ("__debug__":Str))=false:=by decide) (he:starEach (e :: es) X.env=(false,eval e X.env) :: starEach es X.env:=by rfl) (hpl:(backTo pos (starEach es X.env)).any (·.1)=false:=by rfl) :
    PE (p_ X pins0 Cat) (.Call (.Name x p) (e :: es) [] pos) (tP sp Cat t):=by
  obtain ⟨f,fd,F,b,kp,m⟩:=C;intro pins s σ H Q I h;refine wpAny_Call_Name_kw (gi I hg m ?_ hdb);refine PySem.W.callWith_K (h₀:=X.base) I.ok.mod.kin kp (thn (ha pos pins s σ H _ I h) fun us s1 ⟨vs,H1,I1,r,q⟩=>⟨I1.kIn,?_⟩) he hpl;have r2:Vals vs (us++[]):=by rw [ab4];exact r
  have hl:(us++[]).length=ps.length:=by rw [← r2.length];exact F.len _ _ _ _ q
  refine wpAny_call (codeAny_mono (F.run X.A X.stack s1 H1 ⟨us,[]⟩ (us++[]) vs Q _ (hr.mono hk) I1.env0 (b s1 us I1.kIn hl) r2 q) fun r s' hq=>?_);cases r with
  | ok fl =>
    cases fl with
    | ret u=>exact I1.after hq
    | next=>exact aa7 hq
    | brk=>exact aa7 hq
    | cont=>exact aa7 hq
  | error e =>
    obtain ⟨ea,T,C,H',rfl,os,bare,un,hok,n1,n2,m1,m2,tr,q⟩:=hq;have J:=dP I1;exact ⟨ea,T,C,H',σ,rfl,J.call' os un hok bare (fun b z=>nomatch z),tr,m1,m2,J.fresh_of hx n1,J.fresh_of hx n2,q C rfl⟩
end
section
variable {M:Model} {A:Around} {E:Value→Shared→Prop} {s:Shared}
theorem oS {b0:Heap} {env:Env} {outer:List Env} {L e T:Addr} {cls:Value} {Q:Unit→Shared→Prop} (hfr:A.frames=some (env :: outer)) (hl:s.heap.FunFrames b0 (env :: outer)) (hf:env.frame=some L) (ht:Trc s.heap e T cls)
    (h:∀ h' T',Lft (env :: outer) e [T] s.heap h'→Trc h' e T' cls→(T'=T∨s.heap.get? T'=none)→Q () { s with heap:=h' }) :
    wpAny M A (noteFrame (.ref e) env) (fun _ s2=>wpAny M A (setFlight (.ref e) none) Q E s2) E s:=by
  obtain ⟨oe,vs,oT,ts,a0,h1,h2,h3,h4,h6,h7,h8,h9⟩:=ht;refine wpAny_noteFrame_onW (a0:=a0) (base:=gD s.heap (e :: [T]++(env :: outer).filterMap (·.frame))) (cls:=cls) hfr (cH (fun b hb=>aaa _ hb) hl) hf ⟨oe,vs,T,oT,ts,h1,h2,h3,h4,dk (by simp),h6,h7,h8,h9⟩ (eK _ _) (dk (by simp)) fun h1' N=>?_;obtain ⟨k1,k2,k3,k4⟩:=N;refine wpAny_setFlight_noneW (s:={ s with heap:=h1' }) k1 k2 k3 fun h2' j1 j2 j3 j4=>?_;have L':Heap.LeftW (gD s.heap (e :: [T]++(env :: outer).filterMap (·.frame))) (env :: outer) e cls a0 s.heap h2':=⟨j1,j2,j3,fun b o hb hn=>by
    obtain ⟨sl,q⟩:=k4 b o hb hn;exact ⟨sl,j4 b _ q hn⟩⟩
  obtain ⟨l',T',t,z⟩:=kI (base:=b0) hl L' (by rw [h1];simp);refine h h2' T' l' t ?_;rcases z with z|z
  · exact .inl (by simpa using z)
  · exact .inr z
end
def fX (a C:Addr):HO:=.ext fun h=>∃ o vs,h.get? a=some o∧o.cls=.ref C∧o.data=.fields vs
structure Und (K:aab) (C P:Addr):Prop where
  ex:∃ nm q N bs bm hdct sn sub ab col dd k0 k1 k2 k3 k5 newId nm' q' N' bs' bm' hdct' sn' sub' ab' col' dd' k0' k1' k2' k3' k5' newId',(Value.ref C :: bm).contains (.ref P)=true∧bm'.contains (.type "BaseException")=true ∧
    ∀ h,K.In h→h.get? C=some (excClassObj nm q C N bs bm hdct sn sub ab col dd k0 k1 k2 k3 k5 newId)∧h.get? P=some (excClassObj nm' q' P N' bs' bm' hdct' sn' sub' ab' col' dd' k0' k1' k2' k3' k5' newId')
theorem pH {M:Model} {A:Around} {E:Value→Shared→Prop} {K:aab} {C P e:Addr} {oe:Obj} {s:Shared} {Q:Bool→Shared→Prop} (u:Und K C P) (hk:K.In s.heap) (he:s.heap.get? e=some oe) (hcls:oe.cls=.ref C) (hq:Q true s):wpAny M A (excMatches (.ref e) (.ref P)) Q E s:=by
  obtain ⟨nm,q,N,bs,bm,hdct,sn,sub,ab,col,dd,k0,k1,k2,k3,k5,newId,nm',q',N',bs',bm',hdct',sn',sub',ab',col',dd',k0',k1',k2',k3',k5',newId',h1,h2,h3⟩:=u.ex;obtain ⟨hC,hP⟩:=h3 _ hk;obtain ⟨h,g,d,t,os⟩:=s;have hcB:(Value.ref P :: bm').contains (.type "BaseException")=true:=by rw [List.contains_cons,h2,Bool.or_true]
  have f:=tc_notTuple;unfold excMatches
  repeat (first|(with_reducible refine wpAny_loadPart_at he ?_;rw [hcls])|with_reducible refine wpAny_loadPart_at hP ?_|(with_reducible refine wpAny_isSubtype_exc hP ?_;rw [hcB])|(with_reducible refine wpAny_isSubtype_exc hC ?_;rw [h1])|wp_step)
  exact hq
section
variable {X:Cx} {pins:List (Addr × Obj)} {σ:St} {H:Hp} {s:Shared}
theorem rM {ea T C:Addr} (I:Inv X pins σ H s) (tr:Trc s.heap ea T (.ref C)) (m1:H ea=none) (f1:iW X pins ea):Inv X pins σ (upd H ea (fX ea C)) s:=by
  obtain ⟨oe,vs,oT,ts,a0,h1,h2,h3,h4,h6,h7,h8,h9⟩:=tr;exact I.adopt2 m1 (fun u z=>by rw [f1.1] at z;cases z) f1.2.1 f1.2.2.1 f1.2.2.2 ⟨⟨oe,vs,h1,h2.1,h3⟩,⟨oe,h1⟩,fun g1 g2 ⟨o,ws,z1,z2,z3⟩ k=>⟨o,ws,k o z1,z2,z3⟩⟩
theorem mj {ea C:Addr} {x:List Addr} {h':Heap} (I:Inv X pins σ (upd H ea (fX ea C)) s) (f1:iW X pins ea) (fx:∀ T∈x,iW X pins T∧upd H ea (fX ea C) T=none) (lf:Lft X.stack ea x s.heap h') (hea:∃ o vs,h'.get? ea=some o∧o.cls=.ref C∧o.data=.fields vs) :
    Inv X pins σ (upd H ea (fX ea C)) { s with heap:=h' }:=by
  have tk:∀ b,upd H ea (fX ea C) b=none→b≠ea:=fun b hb z=>by rw [z,ac] at hb;cases hb
  have old:∀ b o,X.s₀.heap.get? b=some o→b≠ea∧b∉x∧b≠X.env.locals:=fun b o q=>by
    refine ⟨fun z=>?_,fun z=>?_,fun z=>?_⟩
    · rw [z,f1.1] at q;cases q
    · rw [(fx b z).1.1] at q;cases q
    · have h1:=aag q;rw [z] at h1;exact absurd I.ok.above (Nat.not_le.mpr h1)
  have one:∀ b o,b≠ea→b∉x→s.heap.get? b=some o→∃ sl,h'.get? b=some { o with slots:=sl }:=fun b o z1 z2 q=>by
    by_cases hb:b∈frs X.stack
    · exact lf.slot b o hb q
    · exact ⟨o.slots,lf.keep b o hb z1 z2 q⟩
  have nstk:∀ b,b≠X.env.locals→b∉X.fs→b∉frs X.stack:=fun b z1 z2 z=>by
    rcases aai.mp (I.stkSub b z) with z|z
    · exact z1 z
    · exact z2 z
  have cl:∀ x' c,X.env.cells.lookup x'=some c→∀ v,s.heap.IsCell c v→h'.IsCell c v:=fun x' c e v ⟨o,ho,hd⟩=>by
    obtain ⟨sl,z⟩:=one c o (f1.2.2.1 x' c e) (fun z=>(fx c z).1.2.2.1 x' c e rfl) ho;exact ⟨_,z,hd⟩
  refine ⟨I.ok,I.os,I.bare,⟨fun b o q n hb hx=>?_,fun b o q n hb hx=>?_,I.base.free,fun b o q hx=>?_,I.base.tups,I.base.frzs,I.base.tbls⟩,?_,fun x' c e=>?_,I.free,I.freeC,fun p hp=>?_,fun b u q=>?_,I.len⟩
  · exact lf.keep b o (nstk b (old b o q).2.2 hb) (old b o q).1 (old b o q).2.1 (I.base.keep b o q n hb hx)
  · obtain ⟨sl,z⟩:=I.base.slot b o q n hb hx;obtain ⟨sl',z'⟩:=one b _ (old b o q).1 (old b o q).2.1 z;exact ⟨sl',z'⟩
  · obtain ⟨o',z⟩:=I.base.there b o q hx;obtain ⟨sl',z'⟩:=one b _ (old b o q).1 (old b o q).2.1 z;exact ⟨_,z'⟩
  · obtain ⟨m,⟨o,es,ep,ho,hd,r⟩,hl⟩:=I.loc;obtain ⟨sl,z⟩:=one X.env.locals o (abt f1.2.1) (fun z=>(fx _ z).1.2.1 rfl) ho;refine ⟨m,⟨_,es,ep,z,hd,r⟩,fun i y v e1 e2 e3=>?_⟩;obtain ⟨u,ru,l⟩:=hl i y v e1 e2 e3;refine ⟨u,ru,?_⟩;rcases l with l|⟨k,c,e,z⟩
    · exact .inl l
    · exact .inr ⟨k,c,e,cl y c e _ z⟩
  · obtain ⟨v,z⟩:=I.cell x' c e;exact ⟨v,cl x' c e v z⟩
  · obtain ⟨z1,z2,z3,z4,z5⟩:=I.pin p hp;exact ⟨lf.keep _ _ (nstk _ z3 z4) (f1.2.2.2 p hp) (fun z=>(fx _ z).1.2.2.2 p hp rfl) z1,z2,z3,z4,z5⟩
  · by_cases z1:b=ea
    · subst z1;rw [ac] at q;cases q;obtain ⟨o,vs,y1,y2,y3⟩:=hea;exact ⟨⟨o,vs,y1,y2,y3⟩,⟨o,y1⟩,fun g1 g2 ⟨o,ws,y1,y2,y3⟩ k=>⟨o,ws,k o y1,y2,y3⟩⟩
    · have tr:∀ c v,upd H ea (fX ea C) c=some v→c≠ea→∀ o,s.heap.get? c=some o→h'.get? c=some o:=fun c v hc z o r=>lf.keep c o (fun y=>by rw [I.stkFree c y] at hc;cases hc) z (fun y=>by rw [(fx c y).2] at hc;cases hc) r;refine (I.hok b u q).stay (fun c v hc r=>?_) (fun _ r=>r) fun _ _ r=>r;rcases hc with rfl|hc
      · exact tr c u q z1 v r
      · refine tr c _ hc (fun z=>?_) v r;rw [z,ac] at hc;cases hc
end
section
variable {M:Model} {A:Around} {E:Value→Shared→Prop} {s:Shared}
theorem ph {b0:Heap} {l:List Env} {e T:Addr} {cls:Value} {Q:Unit→Shared→Prop} (hl:s.heap.FunFrames b0 l) (ht:Trc s.heap e T cls)
    (h:∀ h' T',Lft l e [T] s.heap h'→Trc h' e T' cls→(T'=T∨s.heap.get? T'=none)→Q () { s with heap:=h' }):wpAny M A (setFlight (.ref e) none) Q E s:=by
  obtain ⟨oe,vs,oT,ts,a0,h1,h2,h3,h4,h6,h7,h8,h9⟩:=ht;refine wpAny_setFlight_noneW (base:=gD s.heap (e :: [T]++l.filterMap (·.frame))) (cls:=cls) (a0:=a0) (fl:=.none) (eK _ _) (cH (fun b hb=>aaa _ hb) hl) ⟨oe,vs,T,oT,ts,h1,h2,h3,h4,dk (by simp),h6,h7,h8,h9⟩ fun h2' j1 j2 j3 j4=>?_;have L':Heap.LeftW (gD s.heap (e :: [T]++l.filterMap (·.frame))) l e cls a0 s.heap h2':=⟨j1,j2,j3,fun b o hb hn=>⟨o.slots,j4 b o hb hn⟩⟩
  obtain ⟨l',T',t,z⟩:=kI (base:=b0) hl L' (by rw [h1];simp);refine h h2' T' l' t ?_;rcases z with z|z
  · exact .inl (by simpa using z)
  · exact .inr z
end
section
variable {X:Cx} {pins:List (Addr × Obj)} {σ:St} {H:Hp} {s:Shared}
theorem Inv.unset {i:Nat} {n:Str} {v:Option Value} {m:Str→Option Value} {h':Heap} {t':Nat} (I:Inv X pins σ H s) (hN:X.N.Nodup) (hi:X.N[i]?=some n) (hl:∀ (i:Nat) (x:Str) (v:V),X.N[i]?=some x→σ[i]?=some (some v)→Vis X.env.scope x→∃ u,RelV v u∧vR X.env s.heap m x u)
    (hn:h'.Ns X.env.locals (fun x=>if x=n then v else m x)) (hs:abc X.env.locals s.heap h'):Inv X pins (σ.set i none) H { s with heap:=h',toks:=t' }:=by
  have cne:∀ x c,X.env.cells.lookup x=some c→c≠X.env.locals:=fun x c e z=>by
    obtain ⟨v,o,ho,hd⟩:=I.cell x c e;obtain ⟨m,⟨o',es,ep,ho',hd',_⟩,_⟩:=I.loc;rw [z,ho'] at ho;cases ho;rw [hd'] at hd;cases hd
  have old:∀ b o,X.s₀.heap.get? b=some o→b≠X.env.locals:=fun b o q z=>by
    have h1:=aag q;rw [z] at h1;exact absurd I.ok.above (Nat.not_le.mpr h1)
  refine ⟨I.ok,I.os,I.bare,⟨fun b o q n hb hx=>hs.extBut b o (old b o q) (I.base.keep b o q n hb hx),fun b o q n hb hx=>?_,I.base.free,fun b o q hx=>?_,I.base.tups,I.base.frzs,I.base.tbls⟩,⟨_,hn,fun j y w e1 e2 e3=>?_⟩,fun x c e=>?_,I.free,I.freeC,fun p hp=>?_,fun b u q=>?_,?_⟩
  · obtain ⟨sl,z⟩:=I.base.slot b o q n hb hx;exact ⟨sl,hs.extBut b _ (old b o q) z⟩
  · obtain ⟨o',z⟩:=I.base.there b o q hx;exact ⟨o',hs.extBut b _ (old b o q) z⟩
  · by_cases hj:j=i
    · subst hj;rw [List.getElem?_set_self'] at e2;cases z:σ[j]? with
      | none=>rw [z] at e2;simp at e2
      | some _=>rw [z] at e2;simp at e2
    · rw [List.getElem?_set_ne (abt hj)] at e2;obtain ⟨u,ru,l⟩:=hl j y w e1 e2 e3;refine ⟨u,ru,?_⟩;rcases l with ⟨k,l⟩|⟨k,c,e,o,ho,hd⟩
      · refine .inl ⟨k,?_⟩;have : y≠n:=fun z=>hj (iw hN e1 (by rw [z];exact hi));show (if y=n then v else m y)=some u;rw [if_neg this];exact l
      · exact .inr ⟨k,c,e,o,hs.extBut c o (cne y c e) ho,hd⟩
  · obtain ⟨v,o,ho,hd⟩:=I.cell x c e;exact ⟨v,o,hs.extBut c o (cne x c e) ho,hd⟩
  · obtain ⟨z1,z2,z3,z4,z5⟩:=I.pin p hp;exact ⟨hs.extBut _ _ z3 z1,z2,z3,z4,z5⟩
  · refine (I.hok b u q).stay (fun c v hc r=>hs.extBut c v (fun z=>?_) r) (fun _ r=>r) fun _ _ r=>r;rcases hc with rfl|hc
    · rw [z,I.free] at q;cases q
    · rw [z,I.free] at hc;cases hc
  · rw [List.length_set];exact I.len
def nB (X:Cx) (v:Value):Cx:={ X with A:=X.A.mark (some v),calm:=false,xe:=fun _ _=>False }
theorem lZ {v:Value} (I:Inv X pins σ H s):Inv (nB X v) pins σ H s :=
  ⟨⟨I.ok.mod,I.ok.kind,I.ok.glob,I.ok.blt,I.ok.above,I.ok.inj,I.ok.has,I.ok.cab,(fun z=>absurd (show false=true from z) aae),I.ok.frames,I.ok.stk,I.ok.exf,I.ok.bs,I.ok.bsz,I.ok.noex,I.ok.exfs,I.ok.funs,I.ok.frf⟩,I.os,I.bare,I.base,I.loc,I.cell,I.free,I.freeC,I.pin,I.hok,I.len⟩
theorem ng {v:Value} (c:X.calm=true→X.A.handled=none) (fr:X.A.frames=some X.stack) (I:Inv (nB X v) pins σ H s):Inv X pins σ H s :=
  ⟨⟨I.ok.mod,I.ok.kind,I.ok.glob,I.ok.blt,I.ok.above,I.ok.inj,I.ok.has,I.ok.cab,c,fr,I.ok.stk,I.ok.exf,I.ok.bs,I.ok.bsz,I.ok.noex,I.ok.exfs,I.ok.funs,I.ok.frf⟩,I.os,I.bare,I.base,I.loc,I.cell,I.free,I.freeC,I.pin,I.hok,I.len⟩
end
theorem Trc.there {h:Heap} {e T C:Addr} (t:Trc h e T (.ref C)):∃ o vs,h.get? e=some o∧o.cls=.ref C∧o.data=.fields vs:=by
  obtain ⟨oe,vs,oT,ts,a0,h1,h2,h3,_⟩:=t;exact ⟨oe,vs,h1,h2.1,h3⟩
theorem Trc.ne {h:Heap} {e T:Addr} {c:Value} (t:Trc h e T c):T≠e:=by
  obtain ⟨oe,vs,oT,ts,a0,h1,h2,h3,h4,h6,_⟩:=t;exact h6
def wk (K:aab) (Pa:Addr) (iE:Nat) (tb:(St→Addr→Hp→Prop)→TS) (ts:TS):TS:=fun D σ H =>
  tb (fun σ' C H'=>Und K C Pa∧∀ ea,H' ea=none→ts { nx:=fun σ2 H2=>D.nx (σ2.set iE none) H2,rt:=fun _ _=>False } (σ'.set iE (some (.ref ea))) (upd H' ea (fX ea C))) D σ H
theorem tY {X:Cx} {body:List Stmt} {tb:(St→Addr→Hp→Prop)→TS} {ts:TS} {iE:Nat} {n x:Str} {Pa:Addr} {b₀:Stmt} {suite:List Stmt} {tp hpos pos:Pos} (hx:X.ex=[]) (hst:X.stack=X.env :: X.outer) (hfr:X.env.frame=some X.env.locals)
    (hg:Gl X x) (hm:X.mg x=some (.ref Pa)) (hN:X.N.Nodup) (hi:X.N[iE]?=some n) (hl:X.env.scope.names.lookup n=some .local) (hb:∀ pins0 Cat,PSs (p_ X pins0 Cat) body (tb Cat)) (hs:∀ v,PSs (nB X v) (b₀ :: suite) ts) (hdb:(x == ("__debug__":Str))=false:=by decide) :
    PS X (.Try body [.ExceptHandler (some (.Name x tp)) (some n) (b₀ :: suite) hpos] [] [] pos) (wk X.K Pa iE tb ts):=by
  intro pins s σ H D I h;refine wpAny_Try_except (wpAny_mono (hb pins _ [] s σ H D (sK I) h) (fun f s1 q=>?_) (fun e s1 q=>?_))
  · cases f with
    | next=>obtain ⟨σ',H',I',q⟩:=q;exact wpAny_execs_nil ⟨σ',H',dP I',q⟩
    | brk=>obtain ⟨σ',H',I',q⟩:=q;exact ⟨σ',H',dP I',q⟩
    | cont=>obtain ⟨σ',H',I',q⟩:=q;exact ⟨σ',H',dP I',q⟩
    | ret u=>obtain ⟨v,σ',H',I',r,q⟩:=q;exact ⟨v,σ',H',dP I',r,q⟩
  · obtain ⟨ea,T,C,H',σ',rfl,J,tr,m1,m2,f1,f2,und,cat⟩:=q;have fr:X.A.frames=some (X.env :: X.outer):=by rw [← hst];exact J.ok.frames
    have stk:s1.heap.FunFrames X.base (X.env :: X.outer):=by rw [← hst];exact J.stack
    refine oS (b0:=X.base) fr stk hfr tr fun h2 T2 lf tr2 hT2=>?_;have J1:=rM J tr m1 f1;have mT:upd H' ea (fX ea C) T=none:=by rw [aj tr.ne];exact m2
    have J2:Inv X pins σ' (upd H' ea (fX ea C)) { s1 with heap:=h2 }:=mj J1 f1 (x:=[T]) (fun b hb=>by rw [aar.mp hb];exact ⟨f2,mT⟩) (by rw [hst];exact lf) tr2.there;have fT2:iW X pins T2∧upd H' ea (fX ea C) T2=none:=by
      rcases hT2 with rfl|z
      · exact ⟨f2,mT⟩
      · refine ⟨J1.fresh_of hx z,?_⟩;cases q:upd H' ea (fX ea C) T2 with
        | none=>rfl
        | some o =>
          obtain ⟨u,hu⟩:=(J1.hok T2 o q).get;rw [z] at hu;cases hu
    refine wpAny_handleBy_cons (codeAny_handlers_test ?_) (by intro q;cases q);refine gi (X:=nB X (.ref ea)) (lZ J2) hg hm ?_ hdb;obtain ⟨oe,vs,he2,hc2,_⟩:=tr2.there;refine pH (s:={ s1 with heap:=h2 }) und J2.kIn he2 hc2 ?_;show codeAny _ _ _ _ _;refine codeAny_handlers_suite_as ?_;have stk2:h2.FunFrames X.base (X.env :: X.outer):=by rw [← hst];exact J2.stack
    refine ph (s:={ s1 with heap:=h2 }) (b0:=X.base) (l:=X.env :: X.outer) stk2 tr2 fun h3 T3 lf3 tr3 hT3=>?_;have J3:Inv X pins σ' (upd H' ea (fX ea C)) { s1 with heap:=h3 }:=mj (s:={ s1 with heap:=h2 }) J2 f1 (x:=[T2]) (fun b hb=>by rw [aar.mp hb];exact fT2) (by rw [hst];exact lf3) tr3.there;refine cY (v:=.ref ea) J3 hN hi (.inl hl) rfl (fun s4 J4=>?_) (.inr hl);refine wpAny_mono (hs (.ref ea) pins s4 _ _ _ (lZ J4) (cat ea m1)) (fun f s5 q5=>?_) (fun _ _ z=>z.elim);cases f with
    | next =>
      obtain ⟨σ5,H5,I5,q5⟩:=q5;have I5:=ng J.ok.hd J.ok.frames I5;obtain ⟨m,hn,hlk⟩:=id I5.loc;exact wpAny_nameGoes_keeps hl hn (by rw [I5.ok.kind];rfl) fun h6 v hn6 hs6=>⟨_,H5,I5.unset hN hi hlk hn6 hs6,q5⟩
    | brk=>obtain ⟨_,_,_,q⟩:=q5;exact aa7 q
    | cont=>obtain ⟨_,_,_,q⟩:=q5;exact aa7 q
    | ret u=>obtain ⟨_,_,_,_,_,q⟩:=q5;exact aa7 q
open PySem PySem.Spec PyProof.Rows
structure Lkp (M:Model) (h:Heap) (C:Addr):Prop where
  ga:acq M h (typeLookup (.ref C) "__getattribute__") (some (.builtin "BaseException.__getattribute__"))
  no:acq M h (typeLookup (.ref C) "__getattr__") none
  cls:acq M h (typeLookup (.ref C) "__class__") (some (.builtin "object.__class__"))
  be:acq M h (isSubtype (.ref C) (.type "BaseException")) true
  obj:acq M h (isSubtype (.ref C) (.type (".".intercalate ("object.__class__".cutAt '.').dropLast))) true
section
variable {prog:Program} {w:World} {A:Around} {E:Value→Shared→Prop} {h:Heap} {g:Array GenState} {d:Drawn} {t:Nat} {os:OsState} {a C:Addr} {o:Obj}
theorem sS {R:Result→Shared→Prop} (L:Lkp (model prog w) h C) (hx:h.get? a=some o) (hc:o.cls=.ref C) (hq:R (.ok (.ret (.ref C))) ⟨h,g,d,t,os⟩) :
    codeAny (model prog w) A (.call (.builtin "getset_descriptor.__get__") ⟨[.builtin "object.__class__",.ref a,.ref C],[]⟩) R ⟨h,g,d,t,os⟩:=by
  have hT5:(⟨h,g,d,t,os⟩:Shared).TypeIs (.builtin "object.__class__") "getset_descriptor":=ack;refine codeAny_call_builtin F.slot_gs_get.plain F.entry_gs_get (F.slot_gs_get.check _ _ _ _ _ _ _ _ hT5 (F.args_gs_get _ _ _) ?_)
  repeat (any_goals (first|assumption|(with_reducible refine wpAny_loadPart_at hx ?_;rw [hc])|(refine L.obj _ _ _ _ (fun _ _ e=>e) ?_)|wp_step))
  refine ⟨Code.quiet_builtin _ (by decide +kernel),codeAny_builtin F.entry_object_class ?_⟩
  repeat (any_goals (first|assumption|(with_reducible refine wpAny_loadPart_at hx ?_;rw [hc])|wp_step))
theorem pT {M:Model} {nameV:Value} {Q:Unit→Shared→Prop} (L:Lkp M h C) (hx:h.get? a=some o) (hc:o.cls=.ref C) (hq:Q () ⟨h,g,d,t,os⟩):wpAny M A (checkBuiltinCall "BaseException.__getattribute__" ⟨[.ref a,nameV],[]⟩) Q E ⟨h,g,d,t,os⟩:=by
  have hk:builtinKind "BaseException.__getattribute__" = some .slot:=by decide +kernel
  have hsplit:splitId "BaseException.__getattribute__" = some ("BaseException","__getattribute__"):=by decide +kernel
  have ha:=F.args_bexc_ga (.ref a) nameV;simp only [checkBuiltinCall,hk,hsplit];refine wpAny_bind ?_;unfold isInstance
  repeat (first|(with_reducible refine wpAny_loadPart_at hx ?_;rw [hc])|(refine L.be _ _ _ _ (fun _ _ e=>e) ?_)|wp_step)
  exact hq
theorem pR {tk:Tok} {Q:Fin→Shared→Prop} (L:Lkp (model prog w) h C) (hx:h.get? a=some o) (hc:o.cls=.ref C) (hq:Q (.done (.ret (.ref C))) ⟨h,g,d,t,os⟩) :
    wpAny (model prog w) A (Builtin.«object.__getattribute__» ⟨[.ref a,.str "__class__" tk],[]⟩) Q E ⟨h,g,d,t,os⟩:=by
  have hT5:(⟨h,g,d,t,os⟩:Shared).TypeIs (.builtin "object.__class__") "getset_descriptor":=ack;have f5:=ack;have f6:=F.slot_gs_get.lookup;have f7:=F.slot_gs_set.lookup
  repeat (any_goals (first|assumption|(with_reducible refine wpAny_loadPart_at hx ?_;rw [hc])|(refine L.cls _ _ _ _ (fun _ _ e=>e) ?_)|wp_step))
  refine sS L hx hc ?_
  repeat (any_goals (first|assumption|wp_step))
theorem rH {tk:Tok} {R:Result→Shared→Prop} (L:Lkp (model prog w) h C) {B:String} (hg:Slot B "__getattribute__" "BaseException.__getattribute__") (hx:h.get? a=some o) (hc:o.cls=.ref C) (hq:R (.ok (.ret (.ref C))) ⟨h,g,d,t,os⟩) :
    codeAny (model prog w) A (.call (.builtin "BaseException.__getattribute__") ⟨[.ref a,.str "__class__" tk],[]⟩) R ⟨h,g,d,t,os⟩ :=
  codeAny_call_builtin hg.plain F.entry_bexc_ga (pT L hx hc (pR L hx hc hq))
theorem uP {tk:Tok} {fill expr:Bool} {Q:Value→Shared→Prop} (L:Lkp (model prog w) h C) {B:String} (hg:Slot B "__getattribute__" "BaseException.__getattribute__") (hx:h.get? a=some o) (hc:o.cls=.ref C) (hq:Q (.ref C) ⟨h,g,d,t,os⟩) :
    wpAny (model prog w) A (getAttrBy (.ref a) (.str "__class__" tk) fill expr) Q E ⟨h,g,d,t,os⟩:=by
  have f3:=hg.bind (.ref a);have hx0:(expr && onTheHeap (Value.builtin "BaseException.__getattribute__"))=false:=by cases expr <;> rfl
  have hx2:(Value.builtin "BaseException.__getattribute__" == Value.builtin "object.__getattribute__")=false:=by decide +kernel
  have hx1:(onTheHeap (Value.ref C) && Value.builtin "BaseException.__getattribute__" == Value.builtin "object.__getattribute__")=false:=by rw [hx2];rfl
  repeat (any_goals (first|assumption|(with_reducible refine wpAny_loadPart_at hx ?_;rw [hc])|(refine L.ga _ _ _ _ (fun _ _ e=>e) ?_)|(refine L.no _ _ _ _ (fun _ _ e=>e) ?_)|wp_step))
  refine rH L hg hx hc ?_
  repeat (any_goals (first|assumption|wp_step))
theorem rJ {Q:Option Value→Shared→Prop} (L:Lkp (model prog w) h C) {B:String} (hg:Slot B "__getattribute__" "BaseException.__getattribute__") (hx:h.get? a=some o) (hc:o.cls=.ref C) (hq:Q (some (.ref C)) ⟨h,g,d,t+1,os⟩):wpAny (model prog w) A (getAttr? (.ref a) "__class__") Q E ⟨h,g,d,t,os⟩:=by
  unfold getAttr? getAttrBy?
  repeat (any_goals (first|assumption|with_reducible apply uP L hg hx hc|wp_step))
end
structure ExC (K:aab) (C:Addr):Prop where
  lk:∀ (M:Model) (h:Heap),K.In h→Lkp M h C
  cl:(aaN K C).isSome=true
  sl:∃ B,Slot B "__getattribute__" "BaseException.__getattribute__"
theorem lU {K:aab} {e C:Addr} (x:ExC K C):PySem.W.KitX K (.ref e) (.ref C) (fun h=>∃ o,h.get? e=some o∧o.cls=.ref C) where
  ty:=fun M h _ p=>by
    obtain ⟨o,h1,h2⟩:=p;exact h2 ▸ (PySem.W.Looks.ld h1).andThen .now
  it:=fun _ _ X _=>by
    have hcD:=x.cl;unfold aaN at hcD;split at hcD
    · rename_i c' d' cd' sl' ho;intro A' Q' E' s' k q;unfold isType loadHead;exact wpAny_bind (wpAny_loadPart (k _ _ (X _ _ ho)) (wpAny_pure q))
    · cases hcD
  ne:=fun h tp dd its n sl X htp=>by
    refine Bool.eq_false_iff.mpr fun q=>?_;have e:C=tp:=Value.ref.inj (beq_iff_eq.mp q);subst e;have hcD:=x.cl;unfold aaN at hcD;split at hcD
    · rename_i c' d' cd' sl' ho;have z:=(X _ _ ho).symm.trans htp;cases z
    · cases hcD
  ca:=fun {prog w A E Q s} X p k=>by
    obtain ⟨h,g,d,t,os⟩:=s;obtain ⟨o,h1,h2⟩:=p;obtain ⟨B,hg⟩:=x.sl;exact rJ (x.lk _ _ X) hg h1 h2 k
open PySem PySem.Spec PyProof.Rows
theorem fL:∀ {bs:List Bool} {its:List Value},Vals (bs.map V.bl) its→its=bs.map Value.bool
  | [],_,.nil=>rfl
  | b :: r,_,.cons h t=>by
    cases (show _=Value.bool b from h);rw [fL t];rfl
theorem oq {X:Cx} {pins:List (Addr × Obj)} {σ:St} {H:Hp} {s:Shared} (I:Inv X pins σ H s) {A:Around} (hu:A.units+0 < cLine) (b:Bool):SeqAt.EqAt A s (.bool b) (.bool true) (Value.bool b == Value.bool true):=by
  have z:=(EqR.flat (K:=X.K) (H:=H) (n:=0) (x:=.bl b) (y:=.bl true) rfl rfl).at I (A:=A) (u:=.bool b) (v:=.bool true) rfl rfl hu;have e:eqV (.bl b) (.bl true)=(Value.bool b == Value.bool true):=by cases b <;> rfl
  rw [e] at z;exact z
theorem oX {X:Cx} (hu:X.A.units+64 < cLine):MtR X "list.count" (fun x vs H Q=>∃ (l:Addr) (bs:List Bool),x=.ref l∧vs=[.bl true]∧SqL X.K H l (bs.map V.bl)∧Q (.int (bs.countP id:Nat)) H):=by
  intro pins s σ H x vs v us Q I rx rv h;obtain ⟨l,bs,rfl,rfl,hq,q⟩:=h;cases rx;obtain ⟨u,rfl,ru⟩:=dg rv;cases ru;obtain ⟨its,r,⟨o,n,ho,hc,hs,hd⟩,hz⟩:=I.list hq;have ei:=fL r;subst ei;obtain ⟨oc,od,dat,sl⟩:=o;cases (show oc=_ from hc);cases (show dat=_ from hd);refine call_meets F.slot_list_count ⟨_,ho,rfl⟩ F.entry_list_count (F.args_list_count_2 _ _) (SeqAt.list_countAt l (bs.map Value.bool).toArray n od sl (.bool true) (fun v=>v == .bool true)) ⟨ho,fun y hy=>?_,?_⟩
  · have hy':y∈bs.map Value.bool:=by simpa using hy
    obtain ⟨b,_,rfl⟩:=aaT.mp hy';exact oq I (by show X.A.units+1+0 < cLine;lia) b
  · have e:(bs.map Value.bool).countP (fun v=>v == .bool true)=bs.countP id:=by
      rw [List.countP_map];congr 1;funext b;cases b <;> rfl
    refine ⟨.int (bs.countP id:Nat),H,I.tok _,⟨s.toks,?_⟩,q⟩;show Value.int (((bs.map Value.bool).toArray.toList.countP fun v=>v == .bool true:Nat):Int) s.toks=_;rw [show (bs.map Value.bool).toArray.toList=bs.map Value.bool from rfl,e]
theorem oW {X:Cx} (hu:X.A.units+64 < cLine):MtR X "list.index" (fun x vs H Q=>∃ (l:Addr) (bs:List Bool) (j:Nat),x=.ref l∧vs=[.bl true]∧SqL X.K H l (bs.map V.bl)∧bs[j]?=some true∧(∀ m,m < j→bs[m]?=some false)∧bs.length≤1000∧Q (.int (j:Nat)) H):=by
  intro pins s σ H x vs v us Q I rx rv h;obtain ⟨l,bs,j,rfl,rfl,hq,hj,hb,hl,q⟩:=h;cases rx;obtain ⟨u,rfl,ru⟩:=dg rv;cases ru;obtain ⟨its,r,⟨o,n,ho,hc,hs,hd⟩,hz⟩:=I.list hq;have ei:=fL r;subst ei;obtain ⟨oc,od,dat,sl⟩:=o;cases (show oc=_ from hc);cases (show dat=_ from hd);have hjl:j < bs.length:=(aaj.mp hj).1;refine call_meets F.slot_list_index ⟨_,ho,rfl⟩ F.entry_list_index (F.args_list_index_2 _ _) (SeqAt.list_indexAt l (bs.map Value.bool).toArray n od sl (.bool true) (fun v=>v == .bool true) j (by simpa using hjl) (by lia) ?_ ?_) ⟨ho,fun y hy=>?_,?_⟩
  · have : bs[j]=true:=(aaj.mp hj).2;simp [this]
  · intro m hm hmj;have : bs[m]'(by simpa using hm)=false:=(aaj.mp (hb m hmj)).2;simp [this]
  · have hy':y∈bs.map Value.bool:=by simpa using hy
    obtain ⟨b,_,rfl⟩:=aaT.mp hy';exact oq I (by show X.A.units+1+0 < cLine;lia) b
  · exact ⟨.int (j:Nat),H,I.tok _,⟨_,rfl⟩,q⟩
theorem dU:∀ {ns:List Int} {its:List Value},Vals (ns.map V.int) its→∃ ts:List (Int × Tok),its=ts.map (fun p=>Value.int p.1 p.2)∧ts.map (·.1)=ns
  | [],_,.nil=>⟨[],rfl,rfl⟩
  | i :: r,_,.cons h t=>by
    obtain ⟨k,rfl⟩:=(show ∃ k,_=Value.int i k from h)
    obtain ⟨ts,e1,e2⟩:=dU t;exact ⟨(i,k) :: ts,by rw [e1];rfl,by rw [aaF,e2]⟩
theorem rO {X:Cx} (hc:X.calm=true):cz X (.builtin "sum") (fun xs H Q=>∃ (p:Addr) (ns:List Int),xs=[.ref p]∧SqL X.K H p (ns.map V.int)∧Q (.int ns.sum) H):=by
  intro pins s σ H xs us Q I r h;obtain ⟨p,ns,rfl,hq,q⟩:=h;obtain ⟨u,rfl,rx⟩:=dg r;cases rx;obtain ⟨its,r',pl,hz⟩:=I.list hq;obtain ⟨ts,e1,e2⟩:=dU r';subst e1;have el:(ts.map (fun p=>Value.int p.1 p.2)).toArray=intItems ts.toArray:=by unfold intItems;simp
  refine sum_intListG (xs:=ts.toArray) (I.ok.hd hc) (by rw [← el];exact pl.isList) fun h' tk t' hk=>?_;have e:preSum (numAt ts.toArray) ts.toArray.size=ns.sum:=by
    rw [preSum_eq,abx (by simp),← e2]
  rw [e];exact ⟨.int ns.sum,H,I.kept (t':=tk) hk,⟨t',rfl⟩,q⟩
open PySem PySem.Spec PyProof.Rows
open PySem PySem.Spec PyProof.Rows
def iF (es:Array DictEntry):Bool:=es.toList.all fun e=>match e.key with|.str _ _=>true|_=>false
theorem qT {es:Array DictEntry} (h:iF es=true):StrKeys es:=fun e he=>by
  have z:=aaH.mp h e (by simpa using he);cases q:e.key with
  | str n t=>exact ⟨n,t,rfl⟩
  | _=>rw [q] at z;cases z
section
variable {K:aab} {C Pa N N':Addr} {nm nm' q q':Str} {bs bs' sub sub':List Value} {hdct hdct':Bool} {sn sn':List Str} {ab ab':Bool} {col col':Option Bool} {dd dd':Option Addr} {k0 k1 k2 k3 k5 k0' k1' k2' k3' k5' oc oc':Option Value}
  {c1 c2:Value} {od od':Option Addr} {es es':Array DictEntry} {n n':Nat} {sl sl':Array (Option Value)}
theorem tf (s:K.lookup N=some ⟨c1,od,.dict es n,sl⟩) (t:iF es=true) {h:Heap} (X:K.In h):h.Ns N (nsFind es):=⟨_,es,n,X _ _ s,rfl,qT t,fun _=>rfl⟩
abbrev kZ:List Value:=[.type "ValueError",.type "Exception",.type "BaseException",.type "object"]
theorem rz (l:K.lookup C=some (excClassObj nm q C N bs (.ref Pa :: kZ) hdct sn sub ab col dd k0 k1 k2 k3 k5 "ValueError.__new__")) (s:K.lookup N=some ⟨c1,od,.dict es n,sl⟩) (t:iF es=true) (i:nsFind es "__init__" = none)
    (l':K.lookup Pa=some (excClassObj nm' q' Pa N' bs' kZ hdct' sn' sub' ab' col' dd' k0' k1' k2' k3' k5' "ValueError.__new__")) (s':K.lookup N'=some ⟨c2,od',.dict es' n',sl'⟩) (t':iF es'=true) (i':nsFind es' "__init__" = none):EC K C :=
  ⟨_,_,_,_,_,_,_,_,_,_,_,_,_,_,_,_,"ValueError",_,_,_,nsFind es,PySem.F.excBase_ValueError,(by rfl),i,fun h X=>⟨X _ _ l,tf s t X,.own (X _ _ l') (tf s' t' X) i' .base⟩⟩
theorem nC (l:K.lookup C=some (excClassObj nm q C N bs (.ref Pa :: kZ) hdct sn sub ab col dd k0 k1 k2 k3 k5 "ValueError.__new__"))
    (l':K.lookup Pa=some (excClassObj nm' q' Pa N' bs' kZ hdct' sn' sub' ab' col' dd' k0' k1' k2' k3' k5' "ValueError.__new__")):Und K C Pa :=
  ⟨_,_,_,_,_,_,_,_,_,_,_,_,_,_,_,_,_,_,_,_,_,_,_,_,_,_,_,_,_,_,_,_,_,_,(by simp),(by rfl),fun h X=>⟨X _ _ l,X _ _ l'⟩⟩
theorem rj (l:K.lookup C=some (excClassObj nm q C N bs (.ref Pa :: kZ) hdct sn sub ab col dd k0 k1 k2 k3 k5 "ValueError.__new__")) (f1:aa3 K (.ref C) "__getattribute__" = some (some (.builtin "BaseException.__getattribute__"))) (f2:aa3 K (.ref C) "__getattr__" = some none)
    (f3:aa3 K (.ref C) "__class__" = some (some (.builtin "object.__class__"))) (f4:aam K (.ref C) (.type "BaseException")=some true) (f5:aam K (.ref C) (.type "object")=some true):ExC K C where
  lk:=fun M h X=>⟨PySem.W.looks_findIn X f1,PySem.W.looks_findIn X f2,PySem.W.looks_findIn X f3,PySem.W.looks_subIn X f4,by
    have e:(".".intercalate ("object.__class__".cutAt '.').dropLast) = "object":=by decide +kernel
    rw [e];exact PySem.W.looks_subIn X f5⟩
  cl:=by unfold aaN;rw [l];rfl
  sl:=⟨"ValueError",PySem.F.attrBase_ValueError.ga⟩
theorem a6 {D:Addr} {cd:ClassData} {b:Bool} (ne:(Value.ref C == Value.ref D)=false) (h1:aaN K D=some cd) (h2:aaX K (.ref D)=some (.type "type")) (h3:aam K (.ref C) (.ref D)=some b):aaG K (.ref C) (.ref D)=some b:=by
  unfold aaG PySem.W.kitCls;rw [ne,if_neg (by simp)];show (if ((aaN K D).isSome && aaX K (Value.ref D) == some (Value.type "type"))=true then aam K (Value.ref C) (Value.ref D) else none)=some b;rw [h1,h2];exact (if_pos (by simp)).trans h3
theorem lV:aaG K (.ref C) (.ref C)=some true:=by
  unfold aaG;rw [if_pos (beq_self_eq_true _)]
theorem oa (h3:aam K (.ref C) (.type "ValueError")=some true):aaG K (.ref C) (.type "ValueError")=some true:=by
  unfold aaG PySem.W.kitCls;have e:PySem.W.kitMeta "ValueError" = true:=by decide +kernel
  have e1:(Value.ref C == Value.type "ValueError")=false:=rfl;simp only [e1,e,if_true];exact h3
end
end L2
namespace L2
open PySem
open PySem PySem.Spec PyProof.Rows
open PySem PySem.Spec PyProof.Rows
section
variable {X:Cx}
theorem sf {i₀:Nat} {x:Str} {px spos:Pos} {elt tg iter:Expr} {ifs:List Expr} {scope:Scope} {pos:Pos} {cl:List (Str × Addr)} {NY:List Str} {cap:List (Option Nat)} {wi:TI} {g:TG} {tt:TT} {te:TE} (hN:X.N.Nodup) (hiN:X.N[i₀]?=some x) (hx:Loc X.env.scope x) (hc:X.calm=true) (hi:PI X tg iter wi)
    (hclos:closureFor scope X.env=pure cl) (hci:CellsIn X.env cl) (hcap:CapOk X.env (relabel scope X.env) X.N NY cap)
    (hb:∀ fp s H C,PG (ah X scope cl NY fp s H C) tg g∧iV (ah X scope cl NY fp s H C) ifs tt∧PE (ah X scope cl NY fp s H C) elt te)
    (hkind:scope.kind=.function:=by rfl) (hnc:(scope.names.all fun y=>y.2 != .cell)=true:=by rfl)
    (hnames:(scope.names.all fun y=>y.2 != .local || scope.names.lookup y.1 == some .local)=true:=by rfl)
    (hhas:((relabel scope X.env).names.all fun p=>(p.2 != .cell && p.2 != .free) || (cl.lookup p.1).isSome)=true:=by rfl)
    (hs:∀ x,foldedSetIterable iter X.env x=pure x:=by intro _;rfl) (hsw:swapsWith (.ListComp elt [⟨tg,iter,ifs,0⟩] scope pos) (some (.Name x px)) spos.line X.env=pure true:=by rfl)
    (hf:X.fn x=true∨X.env.scope.names.lookup x=some .local:=by first|exact .inl rfl|exact .inr rfl|assumption) :
    PS X (.Assign [.Name x px] (.ListComp elt [⟨tg,iter,ifs,0⟩] scope pos) spos) (tQ (tLc cap wi g tt te) (rd i₀)):=by
  have hnc':∀ y∈scope.names,y.2≠.cell:=fun y hy=>by
    have q:=aaH.mp hnc y hy;simpa using q
  have hnames':∀ y∈scope.names,y.2=.local→scope.names.lookup y.1=some .local:=fun y hy e=>by
    have q:=aaH.mp hnames y hy;rw [e] at q;simpa using q
  intro pins s σ H D I h;rw [exec_Assign_Name_used _ _ _ _ hsw];refine wpAny_bind (wpAny_standAt (wpAny_bind ?_));show wpAny _ X.A (do let _ ← comprehension (.ListComp elt [⟨tg,iter,ifs,0⟩] scope pos) scope X.env _ (newList []) false (eval iter X.env) (some (assign (.Name x px) X.env))) _ _ s;refine wpAny_bind (wpAny_mono (wpAny_comprehension_free (use:=some (assign (.Name x px) X.env)) (Q:=fun _ s'=>∃ σ' H',Inv X pins σ' H' s'∧D.nx σ' H') rfl hs hclos hkind hnames' (wpAny_mono (hi pins s σ H _ I h) (fun v s1 h1=>wpAny_mono h1 (fun itv s2 h2=>?_) fun _ _ e=>e) fun _ _ e=>e)) (fun _ s' hq=>wpAny_pure (wpAny_pure hq)) fun _ _ e=>e);obtain ⟨it,fp,tn,J,H2,e,I2,T,st2,f2,W,⟨m0,w0⟩,turn⟩:=h2;subst e;refine wpAny_newObj_type (wpAny_newFunctionEnv hnc' (by intro y hy;simp at hy) (fun h₁ hns₁ hsb₁=>?_) hkind);dsimp only at hns₁ hsb₁ ⊢;generalize hH2:s2.heap.push { cls:=.type "list",dict:=none,data:=.seq ([]:List Value).toArray }=G2 at hns₁ hsb₁ ⊢;have hC:G2.objs.size=s2.heap.objs.size+1:=by rw [← hH2,abM]
  have hDC:s2.heap.objs.size≠G2.objs.size:=by rw [hC];exact aas (abX _)
  have hDlt:s2.heap.objs.size≤G2.objs.size:=by rw [hC];exact abT _
  have below:∀ b,b < s2.heap.objs.size→b≠G2.objs.size∧b≠s2.heap.objs.size:=fun b hb=>⟨by rw [hC];exact aas (abk hb),aas hb⟩
  have old:∀ b o,s2.heap.get? b=some o→h₁.get? b=some o:=fun b o e=>hsb₁.extBut b o (below b (aag e)).1 (aac _ (hH2 ▸ aac _ e));have hacc:h₁.get? s2.heap.objs.size=some { cls:=.type "list",data:=.seq ([]:List Value).toArray 0 }:=hsb₁.extBut _ _ hDC (aac _ (hH2 ▸ aap _ rfl));have fpl:∀ b∈fp,b < s2.heap.objs.size:=fun b hb=>by
    obtain ⟨o,e,_⟩:=T.obj _ _ st2 b hb;exact aag e
  have freshD:H2 s2.heap.objs.size=none:=I2.hok.fresh (aah _);have freshC:H2 G2.objs.size=none:=I2.hok.fresh hDlt;have cellLt:∀ x c,X.env.cells.lookup x=some c→c < s2.heap.objs.size:=fun x c e=>by
    obtain ⟨v,q⟩:=I2.cell x c e;exact q.lt
  have hclX:∀ x c,cl.lookup x=some c→X.env.cells.lookup x=some c:=fun x c e=>hci.get e;obtain ⟨hbg,hbt,hbe⟩:=hb fp s2 H2 G2.objs.size;have okY:(ah X scope cl NY fp s2 H2 G2.objs.size).Ok:=by
    refine ⟨I2.ok.mod,hkind,I2.ok.glob,I2.ok.blt,hDlt,fun x y c e1 e2=>I2.ok.inj x y c (hclX x c e1) (hclX y c e2),fun x hx=>?_,fun x c hf _=>?_,I2.ok.hd,I2.ok.frames,.inl rfl,fun b hb=>⟨(below b (fpl b hb)).1,fun x c e z=>?_⟩,I2.bs,
      aaK I2.ok.bsz I2.sz,fun b o e hb=>?_,fun b hb hz=>?_,I2.stack,I2.stkFree⟩
    · have hx':(relabel scope X.env).names.lookup x=some .cell∨(relabel scope X.env).names.lookup x=some .free:=hx;have key:∀ k,(relabel scope X.env).names.lookup x=some k→(k=.cell∨k=.free)→∃ c,cl.lookup x=some c:=fun k e hk=>by
        have q:=aaH.mp hhas (x,k) (aa0 e);have q':(cl.lookup x).isSome=true:=by
          rcases hk with rfl|rfl <;> simpa using q
        exact abd.mp q'
      rcases hx' with e|e
      · exact key _ e (.inl rfl)
      · exact key _ e (.inr rfl)
    · exact absurd (show false=true from hf) aae
    · exact (f2 b hb).2.2.2.2.1 x c (hclX x c e) z
    · rcases (f2 b hb).2.2.2.1 with z|z
      · exact I2.ok.noex b o e z
      · exact absurd (aao (aag (I2.ok.bs b o e).1) z) (aaZ _)
    · rcases aai.mp (I2.stkSub b hz) with z|z
      · exact (f2 b hb).2.1 z
      · exact (f2 b hb).2.2.1 z
  have fpYs:∀ {H':Hp} {n:Nat} {its:List Value},(∀ b∈fp,H' b=none)→∀ b∈fp,gn (ah X scope cl NY fp s2 H2 G2.objs.size) [(s2.heap.objs.size,{ cls:=.type "list",data:=.seq its.toArray n })] H' b:=fun {H' n its} hn b hb=>by
    refine ⟨hn b hb,(below b (fpl b hb)).1,fun hz=>?_,.inl hb,fun x c e=>(f2 b hb).2.2.2.2.1 x c (hclX x c e),fun p hp=>?_⟩
    · rcases aai.mp (I2.stkSub b hz) with z|z
      · exact (f2 b hb).2.1 z
      · exact (f2 b hb).2.2.1 z
    · have e:p=(s2.heap.objs.size,{ cls:=.type "list",data:=.seq its.toArray n }):=by simpa [ah] using hp
      rw [e];exact abt (below b (fpl b hb)).2
  have nostk:∀ b,s2.heap.objs.size≤b→b∉frs X.stack:=fun b hb hz=>by
    rcases aai.mp (I2.stkSub b hz) with z|z
    · have:=I2.lt;rw [← z] at this;exact absurd (aao this hb) (aaZ _)
    · exact I2.nofs hb z
  have IY0:Inv (ah X scope cl NY fp s2 H2 G2.objs.size) [(s2.heap.objs.size,{ cls:=.type "list",data:=.seq ([]:List Value).toArray 0 })] (aG cap σ) H2 { s2 with heap:=h₁,toks:=s2.toks+([]:List (Str × Value)).length }:=by
    refine ⟨okY,rfl,I2.bare,Un.kept old,⟨_,hns₁,fun j x v e1 e2 e3=>?_⟩,fun x c e=>?_,freshC,fun x c e=>I2.freeC x c (hclX x c e),fun p hp=>?_,I2.hok.kept old,?_⟩
    · obtain ⟨i,h1,h2,h3,h4⟩:=CapOk.get (σ:=σ) hcap e1 e2;obtain ⟨m,hn,hl⟩:=I2.loc;have vis:Vis X.env.scope x:=by rcases h3 with z|z;exact .inr (.inl z);exact .inr (.inr z)
      obtain ⟨u,r,l⟩:=hl i x v h1 h2 vis;refine ⟨u,r,.inr ⟨h4,?_⟩⟩;rcases l with ⟨k,_⟩|⟨_,c,e,z⟩
      · rcases h3 with z|z <;> (rw [k] at z;cases z)
      · obtain ⟨c',e'⟩:=okY.has x h4;have e':cl.lookup x=some c':=e';have e'':=hclX x c' e';rw [e] at e'';cases e'';obtain ⟨o,ho,hd⟩:=z;exact ⟨c,e',o,old _ _ ho,hd⟩
    · obtain ⟨v,o,ho,hd⟩:=I2.cell x c (hclX x c e);exact ⟨v,o,old _ _ ho,hd⟩
    · have e:p=(s2.heap.objs.size,{ cls:=.type "list",data:=.seq ([]:List Value).toArray 0 }):=by simpa [ah] using hp
      rw [e];exact ⟨hacc,freshD,hDC,nostk _ (aah _),fun v z=>by cases z⟩
    · show (aG cap σ).length=NY.length;unfold aG;rw [aak];exact hcap.len
  have hcY:(ah X scope cl NY fp s2 H2 G2.objs.size).calm=true:=hc;have stW:tn 0 h₁:=T.keep _ _ _ st2 fun b _ o e=>old b o e;have loop:∀ s₃:Shared,s₃={ s2 with heap:=h₁,toks:=s2.toks+([]:List (Str × Value)).length } →
      codeAny (model X.prog X.w) X.A (.compLoop (.ListComp elt [⟨tg,iter,ifs,0⟩] scope pos) 0 (.ref it) (.ref s2.heap.objs.size) (compEnvC scope cl G2.objs.size X.env))
        (compPost (model X.prog X.w) X.A X.xe (some (assign (.Name x px) X.env)) (fun _ s'=>∃ σ' H',Inv X pins σ' H' s'∧D.nx σ' H') (.ref s2.heap.objs.size) G2.objs.size) s₃:=by
    rintro s₃ rfl;refine jP (fun n s'=>∃ i ys its k H',Inv (ah X scope cl NY fp s2 H2 G2.objs.size) [(s2.heap.objs.size,{ cls:=.type "list",data:=.seq its.toArray k })] (aG cap σ) H' s'∧Vals ys its∧ys.length≤sizeLine∧tn i s'.heap∧(∀ b∈fp,H' b=none)∧W i n ys H') ?_ m0
      ⟨0,[],[],0,H2,IY0,.nil,aaR _,stW,fun b hb=>(f2 b hb).1,w0⟩
    rintro n s3 ⟨i,ys,its,k,H3,I3,rv,hz,st3,fr3,w3⟩;rcases turn i n ys H3 w3 with ⟨stop,qn⟩|⟨go,hlt,step⟩
    · refine wpAny_mono (T.done (ah X scope cl NY fp s2 H2 G2.objs.size) rfl rfl rfl hcY i _ s3 _ H3 (fun _ _=>False) I3 (fpYs fr3) st3 stop) (fun r s4 ⟨hr,I4⟩=>?_) fun _ _ z=>z;subst hr;obtain ⟨m,hnC,_⟩:=id I4.loc;have hnC:s4.heap.Ns G2.objs.size m:=hnC;have pD:=(I4.pin (s2.heap.objs.size,{ cls:=.type "list",data:=.seq its.toArray k }) (by simp [ah]))
      have un:Un (frs X.stack) fp H2 H3 s2.heap s4.heap:=I4.base;have I5:Inv X pins σ H3 s4:=I2.call' (ch:=fp) I4.os un I4.hok I4.bare fun b hb=>⟨(f2 b hb).2.2.2.1,(f2 b hb).2.1,(f2 b hb).2.2.2.2.1,(f2 b hb).2.2.2.2.2⟩
      have cC:H3 G2.objs.size=none:=I4.free;have szX:X.s₀.heap.objs.size≤s2.heap.objs.size:=I2.sz;have I7:Inv X pins σ (upd H3 s2.heap.objs.size (.lst ys)) s4:=I5.adopt pD.2.1 szX (aaO I2.lt) (fun x c e=>aas (cellLt x c e)) (fun p hp=>aas (aag (I2.pin p hp).1))
        ⟨hz,its,k,rv,pD.1⟩
      obtain ⟨oC,es,ep,hoC,hdC,rC⟩:=hnC;have nL:G2.objs.size≠X.env.locals:=aaO (aao I2.lt hDlt);have cC':upd H3 s2.heap.objs.size (.lst ys) G2.objs.size=none:=by rw [aj (abt hDC)];exact cC
      have I8:Inv X ((G2.objs.size,oC) :: pins) σ (upd H3 s2.heap.objs.size (.lst ys)) s4:=I7.pins_of fun p hp=>by
        rcases aai.mp hp with z|z
        · rw [z];exact ⟨hoC,cC',nL,fun hz=>I2.nofs hDlt hz,fun v z=>by rw [hdC] at z;cases z⟩
        · exact I7.pin p (aaa _ z)
      show wpAny _ X.A (assign (.Name x px) X.env (.ref s2.heap.objs.size)) _ _ s4;refine wpAny_assign_Name (cY (v:=.ref s2.heap.objs.size) I8 hN hiN hx rfl (fun s5 I9=>?_) hf);have pC:=I9.pin (G2.objs.size,oC) (aaa _ aav);refine ⟨m,⟨oC,es,ep,pC.1,hdC,rC⟩,fun h' hsb=>?_⟩;have I10:Inv X pins (σ.set i₀ (some (.ref s2.heap.objs.size))) (upd H3 s2.heap.objs.size (.lst ys)) s5:=I9.pins_of fun p hp=>I9.pin p (aaa _ (aal _ hp));have I11:Inv X pins (σ.set i₀ (some (.ref s2.heap.objs.size))) (upd H3 s2.heap.objs.size (.lst ys)) { s5 with heap:=h' }:=I10.turned (t':=s5.toks) (it:=G2.objs.size) (fun b o hb e=>hsb.extBut b o hb e) cC' nL (.inr (aaK szX hDlt))
        (fun x c e z=>absurd (cellLt x c e) (by rw [z];exact aci.mpr hDlt)) (fun p hp z=>absurd (aag (I2.pin p hp).1) (by rw [z];exact aci.mpr hDlt))
      exact ⟨_,_,I11,qn _ pD.2.1⟩
    · refine wpAny_mono (T.item (ah X scope cl NY fp s2 H2 G2.objs.size) rfl rfl rfl hcY i _ s3 _ H3 (fun _ _=>False) I3 (fpYs fr3) st3 go) (fun r s4 ⟨u,hr,h4⟩=>?_) fun _ _ z=>z;subst hr;refine wpAny_mono h4 (fun _ s5 ⟨x,H5,I5,r5,y5,st5,fr5⟩=>?_) fun _ _ z=>z;have I5':=I5.pinned (fpYs fr5) (T.obj _ _ st5);refine wpAny_mono (hbg _ s5 _ H5 x u _ I5' r5 (step x H5 y5)) (fun _ s6 ⟨σ6,H6,I6,q6⟩=>?_) fun _ _ z=>z;refine wpAny_mono (hbt _ s6 σ6 H6 _ I6 q6) (fun ok s7 ⟨H7,I7,q7⟩=>?_) fun _ _ z=>z;have lenY:∀ {σ':St} {pn} {H'} {s'},Inv (ah X scope cl NY fp s2 H2 G2.objs.size) pn σ' H' s'→(aG cap σ).length=σ'.length:=fun {σ' pn H' s'} Z=>IY0.len.trans Z.len.symm;have captured:∀ {σ':St} {pn} {H'} {s'},Inv (ah X scope cl NY fp s2 H2 G2.objs.size) pn σ' H' s'→Inv (ah X scope cl NY fp s2 H2 G2.objs.size) pn (aG cap σ) H' s':=fun {σ' pn H' s'} Z=>by
        refine ⟨Z.ok,Z.os,Z.bare,Z.base,?_,Z.cell,Z.free,Z.freeC,Z.pin,Z.hok,IY0.len⟩;obtain ⟨m,hn,_⟩:=Z.loc;refine ⟨m,hn,fun j x v e1 e2 e3=>?_⟩;obtain ⟨i',h1,h2,h3,h4⟩:=CapOk.get (σ:=σ) hcap e1 e2;obtain ⟨m',hn',hl⟩:=I2.loc;have vis:Vis X.env.scope x:=by rcases h3 with z|z;exact .inr (.inl z);exact .inr (.inr z)
        obtain ⟨u,r,l⟩:=hl i' x v h1 h2 vis;refine ⟨u,r,.inr ⟨h4,?_⟩⟩;rcases l with ⟨kk,_⟩|⟨_,c,e,z⟩
        · rcases h3 with z|z <;> (rw [kk] at z;cases z)
        · obtain ⟨c',e'⟩:=okY.has x h4;have e':cl.lookup x=some c':=e';have e'':=hclX x c' e';rw [e] at e'';cases e'';obtain ⟨o,ho,hd⟩:=z;have nfp:c∉fp:=fun hz=>(f2 c hz).2.2.2.2.1 x c e rfl;obtain ⟨sl,q⟩:=Z.base.any (show s2.heap.get? c=some o from ho) (I2.freeC x c e) nfp;exact ⟨c,e',_,q,hd⟩
      have again:∀ {ys':List V} {its':List Value} {k':Nat} {σ':St} {H':Hp} {s':Shared},Inv (ah X scope cl NY fp s2 H2 G2.objs.size) ([(s2.heap.objs.size,{ cls:=.type "list",data:=.seq its'.toArray k' })]++aZ fp s5.heap) σ' H' s'→Vals ys' its'→ys'.length≤sizeLine →
          (∃ m',m' < n∧W (i+1) m' ys' H')→∃ m,m < n∧∃ i ys its k H',Inv (ah X scope cl NY fp s2 H2 G2.objs.size) [(s2.heap.objs.size,{ cls:=.type "list",data:=.seq its.toArray k })] (aG cap σ) H' s'∧Vals ys its∧ys.length≤sizeLine∧tn i s'.heap∧(∀ b∈fp,H' b=none)∧W i m ys H':=fun {ys' its' k' σ' H' s'} Z rv' hz' hw=>by
        obtain ⟨m',hm,w'⟩:=hw;refine ⟨m',hm,i+1,ys',its',k',H',captured Z.unpinned,rv',hz',T.keep _ _ _ st5 fun b hb o e=>(Z.pin (b,o) (aaa _ (aaa _ (a7 hb e)))).1,fun b hb=>?_,w'⟩;obtain ⟨o,e,d⟩:=T.obj _ _ st5 b hb;exact (Z.pin (b,o) (aaa _ (aaa _ (a7 hb e)))).2.1
      cases ok with
      | false =>
        rw [if_neg aae] at q7 ⊢;exact again I7 rv hz q7
      | true =>
        rw [if_pos rfl] at q7 ⊢;refine wpAny_mono (hbe _ s7 σ6 H7 _ I7 q7) (fun xv s8 ⟨v,H8,I8,r8,q8⟩=>?_) fun _ _ z=>z;have pD:=I8.pin (s2.heap.objs.size,{ cls:=.type "list",data:=.seq its.toArray k }) (by simp [ah]);have hlen:=rv.length;refine append_at pD.1 (fun h9 hs9 hD9=>?_) (by rw [aaf];lia);have I9:Inv (ah X scope cl NY fp s2 H2 G2.objs.size) (aZ fp s5.heap) σ6 H8 s8:=I8.pins_of fun p hp=>I8.pin p (aaa _ (aaa _ hp));have I10:Inv (ah X scope cl NY fp s2 H2 G2.objs.size) (aZ fp s5.heap) σ6 H8 { s8 with heap:=h9 }:=I9.turned (t':=s8.toks) (it:=s2.heap.objs.size) (fun b o hb e=>hs9.extBut b o hb e) pD.2.1 hDC (.inr (aah _))
          (fun x c e=>aas (cellLt x c (hclX x c e))) fun p hp=>by
            have hp':p∈aZ fp s5.heap:=by simpa [ah] using hp
            exact abt (abt (below _ (fpl _ (cW hp').1)).2)
        have I11:Inv (ah X scope cl NY fp s2 H2 G2.objs.size) ([(s2.heap.objs.size,{ cls:=.type "list",data:=.seq (its++[xv]).toArray (k+1) })]++aZ fp s5.heap) σ6 H8 { s8 with heap:=h9 }:=I10.pins_of fun p hp=>by
          rcases aau.mp hp with z|z
          · have e:p=(s2.heap.objs.size,{ cls:=.type "list",data:=.seq (its++[xv]).toArray (k+1) }):=by simpa using z
            rw [e];refine ⟨?_,pD.2.1,hDC,nostk _ (aah _),fun v z=>by cases z⟩;rw [List.push_toArray] at hD9;exact hD9
          · exact I10.pin p (aaa _ z)
        exact again I11 (rv.append (.cons r8 .nil)) (by rw [aan,abm];exact hlt) q8
  exact codeAny_compStart_list (loop _ rfl) (T.self _ 0 _ _ _ stW (loop _ rfl))
end
open PySem PySem.Spec PyProof.Rows
section
variable {X:Cx}
theorem iu {ts:List (Int × Tok)} {j:Nat} (h:j < ts.length):numAt ts.toArray j=(ts[j]).1:=by
  unfold numAt;simp [h]
theorem oE {ts:List (Int × Tok)} {k:Nat} {v:Value} (hk:k < ts.length) (hv:(intItems ts.toArray)[k]?=some v):∃ t,v=.int (numAt ts.toArray k) t:=by
  unfold intItems at hv;rw [iu hk];have e:((ts.toArray.map fun p=>Value.int p.1 p.2))[k]?=some (Value.int (ts[k]).1 (ts[k]).2):=by simp [hk]
  have hv':((ts.toArray.map fun p=>Value.int p.1 p.2))[k]?=some v:=hv;rw [e] at hv';exact ⟨_,(aaM hv').symm⟩
theorem pV (hc:X.calm=true):cz X (.builtin "min") (fun xs H Q=>∃ (p:Addr) (ns:List Int),xs=[.ref p]∧SqL X.K H p (ns.map V.int)∧ns≠[]∧∀ m∈ns,(∀ x∈ns,m≤x)→Q (.int m) H):=by
  intro pins s σ H xs us Q I r h;obtain ⟨p,ns,rfl,hq,hne,q⟩:=h;obtain ⟨u,rfl,rx⟩:=dg r;cases rx;obtain ⟨its,r',pl,hz⟩:=I.list hq;obtain ⟨ts,e1,e2⟩:=dU r';subst e1;have el:(ts.map (fun p=>Value.int p.1 p.2)).toArray=intItems ts.toArray:=by unfold intItems;simp
  have hl:0 < ts.length:=by
    rw [← aak (f:=(·.1)),e2];exact ab0.mpr hne
  refine min_intList (xs:=ts.toArray) (I.ok.hd hc) (by rw [← el];exact pl.isList) (by simpa using hl) fun v h' tk hv hk=>?_;have sz:ts.toArray.size=ts.length:=by simp
  rw [sz] at hv;obtain ⟨b1,b2⟩:=argBest_lt (numAt ts.toArray) (ts.length - 1);revert b1 b2 hv;generalize argBest (fun i j=>decide (numAt ts.toArray i < numAt ts.toArray j)) (ts.length - 1)=k;intro hv b1 b2;have kl:k < ts.length:=by lia
  obtain ⟨t,rfl⟩:=oE kl hv;refine ⟨.int (numAt ts.toArray k),H,I.kept (t':=tk) hk,⟨t,rfl⟩,q _ ?_ fun x hx=>?_⟩
  · rw [iu kl,← e2];exact aaT.mpr ⟨_,abp kl,rfl⟩
  · rw [← e2] at hx;obtain ⟨y,hy,rfl⟩:=aaT.mp hx;obtain ⟨j,hj,rfl⟩:=abI hy;have:=b2 j (by lia);rw [iu hj] at this;exact this
theorem pW (hc:X.calm=true):cz X (.builtin "max") (fun xs H Q=>∃ (p:Addr) (ns:List Int),xs=[.ref p]∧SqL X.K H p (ns.map V.int)∧ns≠[]∧∀ m∈ns,(∀ x∈ns,x≤m)→Q (.int m) H):=by
  intro pins s σ H xs us Q I r h;obtain ⟨p,ns,rfl,hq,hne,q⟩:=h;obtain ⟨u,rfl,rx⟩:=dg r;cases rx;obtain ⟨its,r',pl,hz⟩:=I.list hq;obtain ⟨ts,e1,e2⟩:=dU r';subst e1;have el:(ts.map (fun p=>Value.int p.1 p.2)).toArray=intItems ts.toArray:=by unfold intItems;simp
  have hl:0 < ts.length:=by
    rw [← aak (f:=(·.1)),e2];exact ab0.mpr hne
  refine max_intList (xs:=ts.toArray) (I.ok.hd hc) (by rw [← el];exact pl.isList) (by simpa using hl) fun v h' tk hv hk=>?_;have sz:ts.toArray.size=ts.length:=by simp
  rw [sz] at hv;obtain ⟨b1,b2⟩:=argBest_gt (numAt ts.toArray) (ts.length - 1);revert b1 b2 hv;generalize argBest (fun i j=>decide (numAt ts.toArray i > numAt ts.toArray j)) (ts.length - 1)=k;intro hv b1 b2;have kl:k < ts.length:=by lia
  obtain ⟨t,rfl⟩:=oE kl hv;refine ⟨.int (numAt ts.toArray k),H,I.kept (t':=tk) hk,⟨t,rfl⟩,q _ ?_ fun x hx=>?_⟩
  · rw [iu kl,← e2];exact aaT.mpr ⟨_,abp kl,rfl⟩
  · rw [← e2] at hx;obtain ⟨y,hy,rfl⟩:=aaT.mp hx;obtain ⟨j,hj,rfl⟩:=abI hy;have:=b2 j (by lia);rw [iu hj] at this;exact this
end
open PySem PySem.Spec PyProof.Rows
section
variable {prog:Program} {w:World} {A:Around} {E:Value→Shared→Prop} {s:Shared} {I:Addr} {fp wr:List Addr} {G:Array GenState→Array GenState→Prop} {n:Nat} {P:Nat→Value→Prop} {St:Nat→Shared→Prop}
end
end L2
set_option maxHeartbeats 1000000
namespace L2
open PySem PySem.Spec PyProof.Rows
section
variable {X:Cx} {pos:Pos} {t u:TS}
end
open PySem PySem.Spec PyProof.Rows
theorem uN {X:Cx} {pins:List (Addr × Obj)} {σ:St} {H:Hp} {s:Shared} {a:Addr} {y v:V} {u r:Value} {A:Around} {E:Value→Shared→Prop} {H':Hp} {Q:Unit→Shared→Prop} (hu:A.units+1 < cLine) (I:Inv X pins σ H s) (g:DPut H a y v H') (ry:RelV y u) (rv:RelV v r) (h:∀ s',Inv X pins σ H' s'→Q () s') :
    wpAny (model X.prog X.w) A (dictSet a u r) Q E s:=by
  rcases g with ⟨kvs,k,e,ey,l,eH⟩|⟨kvs,k,b,e,ey,eb,l,eH⟩
  · subst ey eH;obtain ⟨z,hd,vs,rel,dd⟩:=rA I.hok e;have hz:vs.length≤sizeLine:=by rw [← rel.length];exact z
    have hl:(db kvs k v).length≤sizeLine:=by have:=cG kvs k v;lia
    refine wpAny_dictSet_pairs (hsz:=hz) (jC ry) dd fun h' dd' hs=>h _ ?_;have he:∃ q,h'.get? a=some q:=let ⟨q,_,_,hq,_⟩:=dd';⟨q,hq⟩;exact gl I (by rw [e];exact True.intro) hs he (rB hl hd (rel.put k rv) dd')
  · subst ey eH;cases (show u=Value.ref b from ry);obtain ⟨z,hd,xs,rel,dd⟩:=ou I.hok e;have hz:xs.length≤sizeLine:=by rw [← aa9 rel];exact z
    have hl:(db kvs k v).length≤sizeLine:=by have:=cG kvs k v;lia
    have hr:(tupleKind (aD X.prog X.w)).room A:=by show A.units < cLine;lia
    refine wpAny_dictSet_heap (hsz:=hz) hr (gE I.hok eb) dd fun h' dd' hs=>h _ ?_;obtain ⟨q,es,ep,hq,h2,h3,h4,_,h5⟩:=dd';refine gl I (by rw [e];exact True.intro) hs ⟨q,hq⟩ ⟨hl,hd,_,(rel.put k eb rv).keeps fun c ys ec=>?_,q,es,ep,hq,h2,h3,h4,h5⟩;rw [aj (qO ec e (fun z=>nomatch z))];exact ec
theorem nA {prog:Program} {w:World} {A:Around} {R:Result→Shared→Prop} {s:Shared} {kx vx target iter:Expr} {ifs:List Expr} {scope:Scope} {pos:Pos} {it:Value} {D:Addr} {env:Env} (J:Nat→Shared→Prop)
    (turn:∀ n s,J n s→wpAny (model prog w) A (pyNext it) (fun r s₁=>match r with
      | none=>R (.ok .next) s₁
      | some v=>wpAny (model prog w) A (letOwnedTupleGo target it v) (fun _ s₁'=>wpAny (model prog w) A (assign target env v) (fun _ s₂ =>
          wpAny (model prog w) A (forIn ifs true fun c r=>if r=true then do let ok ← isTrue c env (eval c env);pure (ForInStep.yield ok) else pure (ForInStep.yield r)) (fun ok s₃ =>
            if ok=true then wpAny (model prog w) A (eval kx env) (fun kv s₄=>wpAny (model prog w) A (eval vx env) (fun vv s₅ =>
              wpAny (model prog w) A (dictSet D kv vv) (fun _ s₆=>∃ m,m < n∧J m s₆) (fun _ _=>False) s₅) (fun _ _=>False) s₄) (fun _ _=>False) s₃
            else ∃ m,m < n∧J m s₃) (fun _ _=>False) s₂) (fun _ _=>False) s₁') (fun _ _=>False) s₁) (fun _ _=>False) s)
    (n:Nat) (h:J n s) :
    codeAny (model prog w) A (.compLoop (.DictComp kx vx [⟨target,iter,ifs,0⟩] scope pos) 0 it (.ref D) env) R s:=by
  refine codeAny_loop rfl J (fun n s hI=>?_) n h;show wpAny _ A ((compTurn (.DictComp kx vx [⟨target,iter,ifs,0⟩] scope pos) 0 it (.ref D) env).onRaise (fun x=>do noteFrame x env;theTreesLotGoes x)) _ _ s;refine wpAny_noted ?_;rw [compTurn_dict];refine wpAny_bind (wpAny_standAt (wpAny_bind (wpAny_mono (turn n s hI) (fun r s₁ h₁=>?_) fun _ _ h'=>h'.elim)));cases r with
  | none=>exact wpAny_pure h₁
  | some v =>
    refine wpAny_bind (wpAny_mono h₁ (fun _ s₁' h₁'=>?_) fun _ _ h'=>h'.elim);refine wpAny_bind (wpAny_mono h₁' (fun _ s₂ h₂=>wpAny_bind (wpAny_mono h₂ (fun ok s₃ h₃=>?_) fun _ _ h'=>h'.elim)) fun _ _ h'=>h'.elim);cases ok with
    | false=>exact wpAny_pure ⟨rfl,h₃⟩
    | true =>
      exact wpAny_bind (wpAny_bind (wpAny_mono h₃ (fun kv s₄ h₄=>wpAny_bind (wpAny_holding (wpAny_mono h₄ (fun vv s₅ h₅=>wpAny_bind (wpAny_standAt (wpAny_holding (wpAny_mono h₅ (fun _ s₆ h₆=>wpAny_pure ⟨rfl,h₆⟩) fun _ _ h'=>h'.elim)))) fun _ _ h'=>h'.elim))) fun _ _ h'=>h'.elim))
abbrev vS (cap:List (Option Nat)) (g:TG) (tt:TT) (tk tv:TE) (ob:HO) (σ:St) (Q:VK) (J:It) (H1:Hp):Prop:=∃ W:Addr→Nat→Nat→Hp→Prop,(∀ p,H1 p=none→∃ m,W p 0 m (upd H1 p ob))∧∀ p i m H,H1 p=none→W p i m H →
  (J.stop i H∧Q (.ref p) H) ∨
  (J.go i H∧∀ x H',J.yld i H x H'→g x (aG cap σ) H' fun σ2 H2=>tt σ2 H2 fun b H3=>if b=true then tk σ2 H3 fun k H4=>tv σ2 H4 fun v H5=>∃ H6,DPut H5 p k v H6∧∃ m',m' < m∧W p (i+1) m' H6 else ∃ m',m' < m∧W p (i+1) m' H3)
def tDc (cap:List (Option Nat)) (wi:TI) (g:TG) (tt:TT) (tk tv:TE) (ob:HO):TE:=fun σ H Q=>wi σ H (vS cap g tt tk tv ob σ Q)
section
variable {X:Cx}
end
open PySem PySem.Spec PyProof.Rows
section
variable {X:Cx}
end
end L2
namespace PySem
open Builtin Builtin.Str Builtin.Int
section
variable {prog:Program} {w:World} {A:Around} {E:Value→Shared→Prop} {s:Shared} {x:Str} {t:Tok} {Q:Value→Shared→Prop}
  {I:Addr} {fp wr:List Addr} {G:Array GenState→Array GenState→Prop} {n:Nat} {P:Nat→Value→Prop} {St:Nat→Shared→Prop}
end
end PySem
namespace L2
open PySem PySem.Spec PyProof.Rows
section
variable {X:Cx}
end
open PySem PySem.Spec PyProof.Rows
section
variable {X:Cx}
end
open PySem PySem.Spec PyProof.Rows
section
variable {X:Cx} {pins:List (Addr × Obj)} {σ:St} {H:Hp} {s:Shared} {A:Around} {Q:Value→Shared→Prop} {E:Value→Shared→Prop} {b:Bool}
end
section
variable {X:Cx} {a b c d:Expr} {ta tb tc td:TE} {pos:Pos}
end
section
variable {X:Cx}
theorem vk {ob:HO} {kx vx tg iter:Expr} {ifs:List Expr} {scope:Scope} {pos:Pos} {cl:List (Str × Addr)} {NY:List Str} {cap:List (Option Nat)} {wi:TI} {g:TG} {tt:TT} {tk tv:TE} (hob:ob=.dK []∨ob=.dT []) (hu:X.A.units+1 < cLine) (hc:X.calm=true) (hi:PI X tg iter wi)
    (hclos:closureFor scope X.env=pure cl) (hci:CellsIn X.env cl) (hcap:CapOk X.env (relabel scope X.env) X.N NY cap)
    (hb:∀ fp s H C,PG (ah X scope cl NY fp s H C) tg g∧iV (ah X scope cl NY fp s H C) ifs tt∧PE (ah X scope cl NY fp s H C) kx tk∧PE (ah X scope cl NY fp s H C) vx tv)
    (hkind:scope.kind=.function:=by rfl) (hnc:(scope.names.all fun y=>y.2 != .cell)=true:=by rfl)
    (hnames:(scope.names.all fun y=>y.2 != .local || scope.names.lookup y.1 == some .local)=true:=by rfl)
    (hhas:((relabel scope X.env).names.all fun p=>(p.2 != .cell && p.2 != .free) || (cl.lookup p.1).isSome)=true:=by rfl)
    (hs:∀ x,foldedSetIterable iter X.env x=pure x:=by intro _;rfl) :
    PE X (.DictComp kx vx [⟨tg,iter,ifs,0⟩] scope pos) (tDc cap wi g tt tk tv ob):=by
  have hnc':∀ y∈scope.names,y.2≠.cell:=fun y hy=>by
    have q:=aaH.mp hnc y hy;simpa using q
  have hnames':∀ y∈scope.names,y.2=.local→scope.names.lookup y.1=some .local:=fun y hy e=>by
    have q:=aaH.mp hnames y hy;rw [e] at q;simpa using q
  intro pins s σ H Q I h;rw [arm_eval_DictComp];refine wpAny_comprehension_free (use:=none) rfl hs hclos hkind hnames' (wpAny_mono (hi pins s σ H _ I h) (fun v s1 h1=>wpAny_mono h1 (fun itv s2o h2=>?_) fun _ _ e=>e) fun _ _ e=>e);obtain ⟨it,fp,tn,J,H2o,e,I2o,T,st2o,f2o,W,w00,turn⟩:=h2;subst e;have freshO:H2o s2o.heap.objs.size=none:=I2o.hok.fresh (aah _);obtain ⟨m0,w0⟩:=w00 _ freshO;have obk:ObjOk X.prog X.w (upd H2o s2o.heap.objs.size ob) (s2o.heap.push { cls:=.type "dict",data:=.dict #[] }) s2o.heap.objs.size ob:=by
    rcases hob with rfl|rfl
    · exact l_ s2o.heap I2o.big
    · exact iN s2o.heap I2o.big
  have I2:=I2o.laid (a:=s2o.heap.objs.size) (o:=ob) (h':=s2o.heap.push { cls:=.type "dict",data:=.dict #[] }) (t':=s2o.toks) (fun _ _ q=>aac _ q) (aah _) obk;have st2:tn 0 (s2o.heap.push { cls:=.type "dict",data:=.dict #[] }):=T.keep _ _ _ st2o fun b _ o e=>aac _ e;have f2:∀ b∈fp,gn X pins (upd H2o s2o.heap.objs.size ob) b:=fun b hb=>by
    obtain ⟨h1,h2⟩:=f2o b hb;refine ⟨?_,h2⟩;rw [aj (fun z=>?_)]
    · exact h1
    · obtain ⟨o,e,_⟩:=T.obj _ _ st2o b hb;exact absurd (aag e) (by rw [z];exact aaZ _)
  refine wpAny_newObj_type ?_;have hsz0:(s2o.heap.push { cls:=.type "dict",data:=.dict #[] }).objs.size=s2o.heap.objs.size+1:=abM _ _;generalize hs2:({ s2o with heap:=s2o.heap.push { cls:=.type "dict",data:=.dict #[] } }:Shared)=s2 at I2 st2 ⊢;generalize hHH:upd H2o s2o.heap.objs.size ob=H2 at I2 f2 w0;have hDs:s2.heap.objs.size=s2o.heap.objs.size+1:=by rw [← hs2];exact hsz0
  have st2:tn 0 s2.heap:=by rw [← hs2];exact st2
  generalize hDD:s2o.heap.objs.size=DD at freshO w0 hDs ⊢;refine wpAny_newFunctionEnv hnc' (by intro y hy;simp at hy) (fun h₁ hns₁ hsb₁=>?_) hkind
  try dsimp only at hns₁ hsb₁ ⊢
  generalize hG2:s2.heap=G2 at hns₁ hsb₁ ⊢;have hDlt:s2.heap.objs.size≤G2.objs.size:=by rw [hG2];exact aah _
  have below:∀ b,b < s2.heap.objs.size→b≠G2.objs.size:=fun b hb=>by rw [← hG2];exact aas hb
  have old:∀ b o,s2.heap.get? b=some o→h₁.get? b=some o:=fun b o e=>hsb₁.extBut b o (below b (aag e)) (aac _ (hG2 ▸ e));have fpl:∀ b∈fp,b < s2.heap.objs.size:=fun b hb=>by
    obtain ⟨o,e,_⟩:=T.obj _ _ st2 b hb;exact aag e
  have freshC:H2 G2.objs.size=none:=I2.hok.fresh hDlt;have cellLt:∀ x c,X.env.cells.lookup x=some c→c < s2.heap.objs.size:=fun x c e=>by
    obtain ⟨v,q⟩:=I2.cell x c e;exact q.lt
  have hclX:∀ x c,cl.lookup x=some c→X.env.cells.lookup x=some c:=fun x c e=>hci.get e;obtain ⟨hbg,hbt,hbk,hbv⟩:=hb fp s2 H2 G2.objs.size;have okY:(ah X scope cl NY fp s2 H2 G2.objs.size).Ok:=by
    refine ⟨I2.ok.mod,hkind,I2.ok.glob,I2.ok.blt,hDlt,fun x y c e1 e2=>I2.ok.inj x y c (hclX x c e1) (hclX y c e2),fun x hx=>?_,fun x c hf _=>?_,I2.ok.hd,I2.ok.frames,.inl rfl,fun b hb=>⟨(below b (fpl b hb)),fun x c e z=>?_⟩,I2.bs,
      aaK I2.ok.bsz I2.sz,fun b o e hb=>?_,fun b hb hz=>?_,I2.stack,I2.stkFree⟩
    · have hx':(relabel scope X.env).names.lookup x=some .cell∨(relabel scope X.env).names.lookup x=some .free:=hx;have key:∀ k,(relabel scope X.env).names.lookup x=some k→(k=.cell∨k=.free)→∃ c,cl.lookup x=some c:=fun k e hk=>by
        have q:=aaH.mp hhas (x,k) (aa0 e);have q':(cl.lookup x).isSome=true:=by
          rcases hk with rfl|rfl <;> simpa using q
        exact abd.mp q'
      rcases hx' with e|e
      · exact key _ e (.inl rfl)
      · exact key _ e (.inr rfl)
    · exact absurd (show false=true from hf) aae
    · exact (f2 b hb).2.2.2.2.1 x c (hclX x c e) z
    · rcases (f2 b hb).2.2.2.1 with z|z
      · exact I2.ok.noex b o e z
      · exact absurd (aao (aag (I2.ok.bs b o e).1) z) (aaZ _)
    · rcases aai.mp (I2.stkSub b hz) with z|z
      · exact (f2 b hb).2.1 z
      · exact (f2 b hb).2.2.1 z
  have fpYs:∀ {H':Hp},(∀ b∈fp,H' b=none)→∀ b∈fp,gn (ah X scope cl NY fp s2 H2 G2.objs.size) [] H' b:=fun {H'} hn b hb=>by
    refine ⟨hn b hb,(below b (fpl b hb)),fun hz=>?_,.inl hb,fun x c e=>(f2 b hb).2.2.2.2.1 x c (hclX x c e),fun p hp=>?_⟩
    · rcases aai.mp (I2.stkSub b hz) with z|z
      · exact (f2 b hb).2.1 z
      · exact (f2 b hb).2.2.1 z
    · exact absurd hp (by simp [ah])
  have nostk:∀ b,s2.heap.objs.size≤b→b∉frs X.stack:=fun b hb hz=>by
    rcases aai.mp (I2.stkSub b hz) with z|z
    · have:=I2.lt;rw [← z] at this;exact absurd (aao this hb) (aaZ _)
    · exact I2.nofs hb z
  have IY0:Inv (ah X scope cl NY fp s2 H2 G2.objs.size) [] (aG cap σ) H2 { s2 with heap:=h₁,toks:=s2.toks+([]:List (Str × Value)).length }:=by
    refine ⟨okY,rfl,I2.bare,Un.kept old,⟨_,hns₁,fun j x v e1 e2 e3=>?_⟩,fun x c e=>?_,freshC,fun x c e=>I2.freeC x c (hclX x c e),fun p hp=>?_,I2.hok.kept old,?_⟩
    · obtain ⟨i,h1,h2,h3,h4⟩:=CapOk.get (σ:=σ) hcap e1 e2;obtain ⟨m,hn,hl⟩:=I2.loc;have vis:Vis X.env.scope x:=by rcases h3 with z|z;exact .inr (.inl z);exact .inr (.inr z)
      obtain ⟨u,r,l⟩:=hl i x v h1 h2 vis;refine ⟨u,r,.inr ⟨h4,?_⟩⟩;rcases l with ⟨k,_⟩|⟨_,c,e,z⟩
      · rcases h3 with z|z <;> (rw [k] at z;cases z)
      · obtain ⟨c',e'⟩:=okY.has x h4;have e':cl.lookup x=some c':=e';have e'':=hclX x c' e';rw [e] at e'';cases e'';obtain ⟨o,ho,hd⟩:=z;exact ⟨c,e',o,old _ _ ho,hd⟩
    · obtain ⟨v,o,ho,hd⟩:=I2.cell x c (hclX x c e);exact ⟨v,o,old _ _ ho,hd⟩
    · exact absurd hp (by simp [ah])
    · show (aG cap σ).length=NY.length;unfold aG;rw [aak];exact hcap.len
  have hcY:(ah X scope cl NY fp s2 H2 G2.objs.size).calm=true:=hc;have stW:tn 0 h₁:=T.keep _ _ _ st2 fun b _ o e=>old b o e;have loop:∀ s₃:Shared,s₃={ s2 with heap:=h₁,toks:=s2.toks+([]:List (Str × Value)).length } →
      codeAny (model X.prog X.w) X.A (.compLoop (.DictComp kx vx [⟨tg,iter,ifs,0⟩] scope pos) 0 (.ref it) (.ref DD) (compEnvC scope cl G2.objs.size X.env))
        (compPost (model X.prog X.w) X.A X.xe none (EP X pins σ Q) (.ref DD) G2.objs.size) s₃:=by
    rintro s₃ rfl;refine nA (fun n s'=>∃ i H',Inv (ah X scope cl NY fp s2 H2 G2.objs.size) [] (aG cap σ) H' s'∧tn i s'.heap∧(∀ b∈fp,H' b=none)∧W DD i n H') ?_ m0
      ⟨0,H2,IY0,stW,fun b hb=>(f2 b hb).1,w0⟩
    rintro n s3 ⟨i,H3,I3,st3,fr3,w3⟩;rcases turn DD i n H3 freshO w3 with ⟨stop,qn⟩|⟨go,step⟩
    · refine wpAny_mono (T.done (ah X scope cl NY fp s2 H2 G2.objs.size) rfl rfl rfl hcY i _ s3 _ H3 (fun _ _=>False) I3 (fpYs fr3) st3 stop) (fun r s4 ⟨hr,I4⟩=>?_) fun _ _ z=>z;subst hr;obtain ⟨m,hnC,_⟩:=id I4.loc;have hnC:s4.heap.Ns G2.objs.size m:=hnC;have un:Un (frs X.stack) fp H2 H3 s2.heap s4.heap:=I4.base;have I5:Inv X pins σ H3 s4:=I2.call' (ch:=fp) I4.os un I4.hok I4.bare fun b hb=>⟨(f2 b hb).2.2.2.1,(f2 b hb).2.1,(f2 b hb).2.2.2.2.1,(f2 b hb).2.2.2.2.2⟩
      have cC:H3 G2.objs.size=none:=I4.free;have szX:X.s₀.heap.objs.size≤s2.heap.objs.size:=I2.sz;refine ⟨m,hnC,fun h' hsb=>?_⟩;have I6:Inv X pins σ H3 { s4 with heap:=h' }:=I5.turned (t':=s4.toks) (it:=G2.objs.size) (fun b o hb e=>hsb.extBut b o hb e) cC (aaO (aao I2.lt hDlt)) (.inr (aaK szX hDlt))
        (fun x c e z=>absurd (cellLt x c e) (by rw [z];exact aci.mpr hDlt)) (fun p hp z=>absurd (aag (I2.pin p hp).1) (by rw [z];exact aci.mpr hDlt))
      exact ⟨.ref DD,H3,I6,rfl,qn⟩
    · refine wpAny_mono (T.item (ah X scope cl NY fp s2 H2 G2.objs.size) rfl rfl rfl hcY i _ s3 _ H3 (fun _ _=>False) I3 (fpYs fr3) st3 go) (fun r s4 ⟨u,hr,h4⟩=>?_) fun _ _ z=>z;subst hr;refine wpAny_mono h4 (fun _ s5 ⟨x,H5,I5,r5,y5,st5,fr5⟩=>?_) fun _ _ z=>z;have I5':=I5.pinned (fpYs fr5) (T.obj _ _ st5);refine wpAny_mono (hbg _ s5 _ H5 x u _ I5' r5 (step x H5 y5)) (fun _ s6 ⟨σ6,H6,I6,q6⟩=>?_) fun _ _ z=>z;refine wpAny_mono (hbt _ s6 σ6 H6 _ I6 q6) (fun ok s7 ⟨H7,I7,q7⟩=>?_) fun _ _ z=>z;have lenY:∀ {σ':St} {pn} {H'} {s'},Inv (ah X scope cl NY fp s2 H2 G2.objs.size) pn σ' H' s'→(aG cap σ).length=σ'.length:=fun {σ' pn H' s'} Z=>IY0.len.trans Z.len.symm;have captured:∀ {σ':St} {pn} {H'} {s'},Inv (ah X scope cl NY fp s2 H2 G2.objs.size) pn σ' H' s'→Inv (ah X scope cl NY fp s2 H2 G2.objs.size) pn (aG cap σ) H' s':=fun {σ' pn H' s'} Z=>by
        refine ⟨Z.ok,Z.os,Z.bare,Z.base,?_,Z.cell,Z.free,Z.freeC,Z.pin,Z.hok,IY0.len⟩;obtain ⟨m,hn,_⟩:=Z.loc;refine ⟨m,hn,fun j x v e1 e2 e3=>?_⟩;obtain ⟨i',h1,h2,h3,h4⟩:=CapOk.get (σ:=σ) hcap e1 e2;obtain ⟨m',hn',hl⟩:=I2.loc;have vis:Vis X.env.scope x:=by rcases h3 with z|z;exact .inr (.inl z);exact .inr (.inr z)
        obtain ⟨u,r,l⟩:=hl i' x v h1 h2 vis;refine ⟨u,r,.inr ⟨h4,?_⟩⟩;rcases l with ⟨kk,_⟩|⟨_,c,e,z⟩
        · rcases h3 with z|z <;> (rw [kk] at z;cases z)
        · obtain ⟨c',e'⟩:=okY.has x h4;have e':cl.lookup x=some c':=e';have e'':=hclX x c' e';rw [e] at e'';cases e'';obtain ⟨o,ho,hd⟩:=z;have nfp:c∉fp:=fun hz=>(f2 c hz).2.2.2.2.1 x c e rfl;obtain ⟨sl,q⟩:=Z.base.any (show s2.heap.get? c=some o from ho) (I2.freeC x c e) nfp;exact ⟨c,e',_,q,hd⟩
      have again:∀ {σ':St} {H':Hp} {s':Shared},Inv (ah X scope cl NY fp s2 H2 G2.objs.size) ([]++aZ fp s5.heap) σ' H' s' →
          (∃ m',m' < n∧W DD (i+1) m' H')→∃ m,m < n∧∃ i H',Inv (ah X scope cl NY fp s2 H2 G2.objs.size) [] (aG cap σ) H' s'∧tn i s'.heap∧(∀ b∈fp,H' b=none)∧W DD i m H':=fun {σ' H' s'} Z hw=>by
        obtain ⟨m',hm,w'⟩:=hw;refine ⟨m',hm,i+1,H',captured Z.unpinned,T.keep _ _ _ st5 fun b hb o e=>(Z.pin (b,o) (aaa _ (aaa _ (a7 hb e)))).1,fun b hb=>?_,w'⟩;obtain ⟨o,e,d⟩:=T.obj _ _ st5 b hb;exact (Z.pin (b,o) (aaa _ (aaa _ (a7 hb e)))).2.1
      cases ok with
      | false =>
        rw [if_neg aae] at q7 ⊢;exact again I7 q7
      | true =>
        rw [if_pos rfl] at q7 ⊢;refine wpAny_mono (hbk _ s7 σ6 H7 _ I7 q7) (fun kv s8 ⟨k,H8,I8,r8,q8⟩=>?_) fun _ _ z=>z;refine wpAny_mono (hbv _ s8 σ6 H8 _ I8 q8) (fun vv s9 ⟨v,H9,I9,r9,H10,put,q9⟩=>?_) fun _ _ z=>z;exact uN (X:=ah X scope cl NY fp s2 H2 G2.objs.size) (A:=X.A) hu I9 put r8 r9 fun s10 I10=>again I10 q9
  exact codeAny_compStart_dict (loop _ rfl) (T.self _ 0 _ _ _ stW (loop _ rfl))
end
open PySem PySem.Spec PyProof.Rows
section
variable {X:Cx} {o e:Expr} {es:List Expr} {to:TE} {t:TA} {name:Str} {apos cpos:Pos} {T id:String} {r:V→List V→Hp→VK→Prop} {K:aab}
end
open PySem PySem.Spec PyProof.Rows
structure Trn (J:It) (n:Nat) (Kp:Hp→Prop) (item:Nat→V→Hp→Hp→Prop):Prop where
  go:∀ i H,i < n→Kp H→J.go i H
  stop:∀ H,Kp H→J.stop n H
  yld:∀ i H x H',i < n→Kp H→J.yld i H x H'→item i x H H'
theorem Trn.list {K:aab} {a:Addr} {xs:List V}:Trn (Itl K a) xs.length (fun H=>SqL K H a xs) (fun i x H H'=>H'=H∧xs[i]?=some x) :=
  ⟨fun i H hi q=>⟨xs,xs[i],q,by simp [hi]⟩,fun H q=>⟨xs,q,aah _⟩,fun i H x H' hi q y=>⟨y.1,y.2 xs q⟩⟩
theorem Trn.tup {K:aab} {a:Addr} {xs:List V}:Trn (Itt K a) xs.length (fun H=>SqT K H a xs) (fun i x H H'=>H'=H∧xs[i]?=some x) :=
  ⟨fun i H hi q=>⟨xs,xs[i],q,by simp [hi]⟩,fun H q=>⟨xs,q,aah _⟩,fun i H x H' hi q y=>⟨y.1,y.2 xs q⟩⟩
theorem Trn.range {lo:Int} {n:Nat}:Trn (Itr lo n) n (fun _=>True) (fun i x H H'=>H'=H∧x=.int (lo+i)) :=
  ⟨fun i H hi _=>hi,fun H _=>aah _,fun i H x H' hi _ y=>y⟩
theorem n_ {J:It} {n:Nat} {Kp:Hp→Prop} {item:Nat→V→Hp→Hp→Prop} (T:Trn J n Kp item) {cap:List (Option Nat)} {g:TG} {tt:TT} {te:TE} {σ:St} {H:Hp} {Q:VK} (Pv:Nat→List V→Hp→Prop) (h0:Pv 0 [] H) (hk:∀ i ys H,i≤n→Pv i ys H→Kp H∧ys.length < sizeLine)
    (hs:∀ i x ys H H',i < n→item i x H H'→Pv i ys H→∀ Nx:List V→Hp→Prop,(∀ ys' H2,Pv (i+1) ys' H2→Nx ys' H2)→g x (aG cap σ) H' fun σ2 H2=>tt σ2 H2 fun b H3=>if b=true then te σ2 H3 fun v H4=>Nx (ys++[v]) H4 else Nx ys H3)
    (hd:∀ ys H,Pv n ys H→∀ p,H p=none→Q (.ref p) (upd H p (.lst ys))):rS cap g tt te σ Q J H:=by
  refine ⟨fun i m ys H=>m=n - i∧i≤n∧Pv i ys H,⟨n,by simp,aaR _,h0⟩,?_⟩;rintro i m ys H ⟨rfl,hi,p⟩;by_cases hlt:i < n
  · refine .inr ⟨T.go i H hlt (hk i ys H hi p).1,(hk i ys H hi p).2,fun x H' y=>?_⟩;exact hs i x ys H H' hlt (T.yld i H x H' hlt (hk i ys H hi p).1 y) p (fun ys' H4=>∃ m',m' < n - i∧m'=n - (i+1)∧i+1≤n∧Pv (i+1) ys' H4) fun ys' H2 h=>⟨_,by lia,rfl,hlt,h⟩
  · have e:i=n:=by lia
    subst e;exact .inl ⟨T.stop H (hk _ ys H hi p).1,hd ys H p⟩
theorem uF {J:It} {n:Nat} {Kp:Hp→Prop} {item:Nat→V→Hp→Hp→Prop} (T:Trn J n Kp item) {cap:List (Option Nat)} {g:TG} {tt:TT} {wi2:TI} {g2:TG} {tt2:TT} {te:TE} {σ:St} {H:Hp} {Q:VK} (Pv:Nat→List V→Hp→Prop) (h0:Pv 0 [] H) (hk:∀ i ys H,i≤n→Pv i ys H→Kp H)
    (hs:∀ i x ys H H',i < n→item i x H H'→Pv i ys H→∀ Nx:List V→Hp→Prop,(∀ ys' H2,Pv (i+1) ys' H2→Nx ys' H2)→g x (aG cap σ) H' fun σ2 H2=>tt σ2 H2 fun b H3=>if b=true then wi2 σ2 H3 (tz g2 tt2 te ys σ2 Nx) else Nx ys H3)
    (hd:∀ ys H,Pv n ys H→∀ p,H p=none→Q (.ref p) (upd H p (.lst ys))):tF cap g tt wi2 g2 tt2 te σ Q J H:=by
  refine ⟨fun i m ys H=>m=n - i∧i≤n∧Pv i ys H,⟨n,by simp,aaR _,h0⟩,?_⟩;rintro i m ys H ⟨rfl,hi,p⟩;by_cases hlt:i < n
  · refine .inr ⟨T.go i H hlt (hk i ys H hi p),fun x H' y=>?_⟩;exact hs i x ys H H' hlt (T.yld i H x H' hlt (hk i ys H hi p) y) p (fun ys' H4=>∃ m',m' < n - i∧m'=n - (i+1)∧i+1≤n∧Pv (i+1) ys' H4) fun ys' H2 h=>⟨_,by lia,rfl,hlt,h⟩
  · have e:i=n:=by lia
    subst e;exact .inl ⟨T.stop H (hk _ ys H hi p),hd ys H p⟩
theorem uB {J:It} {n:Nat} {Kp:Hp→Prop} {item:Nat→V→Hp→Hp→Prop} (T:Trn J n Kp item) {g2:TG} {tt2:TT} {te:TE} {ys:List V} {σ:St} {H:Hp} {Fin:List V→Hp→Prop} (Pv:Nat→List V→St→Hp→Prop) (h0:Pv 0 ys σ H) (hk:∀ i ys σ H,i≤n→Pv i ys σ H→Kp H∧ys.length < sizeLine)
    (hs:∀ i x ys σ H H',i < n→item i x H H'→Pv i ys σ H→∀ Nx:List V→St→Hp→Prop,(∀ ys' σ' H2,Pv (i+1) ys' σ' H2→Nx ys' σ' H2)→g2 x σ H' fun σ3 H5=>tt2 σ3 H5 fun b H6=>if b=true then te σ3 H6 fun v H7=>Nx (ys++[v]) σ3 H7 else Nx ys σ3 H6)
    (hd:∀ ys σ H,Pv n ys σ H→Fin ys H):tz g2 tt2 te ys σ Fin J H:=by
  refine ⟨fun i m ys σ H=>m=n - i∧i≤n∧Pv i ys σ H,⟨n,by simp,aaR _,h0⟩,?_⟩;rintro i m ys σ H ⟨rfl,hi,p⟩;by_cases hlt:i < n
  · refine .inr ⟨T.go i H hlt (hk i ys σ H hi p).1,(hk i ys σ H hi p).2,fun x H' y=>?_⟩;exact hs i x ys σ H H' hlt (T.yld i H x H' hlt (hk i ys σ H hi p).1 y) p (fun ys' σ' H4=>∃ m',m' < n - i∧m'=n - (i+1)∧i+1≤n∧Pv (i+1) ys' σ' H4) fun ys' σ' H2 h=>⟨_,by lia,rfl,hlt,h⟩
  · have e:i=n:=by lia
    subst e;exact .inl ⟨T.stop H (hk _ ys σ H hi p).1,hd ys σ H p⟩
theorem vL {J:It} {n:Nat} {Kp:Hp→Prop} {item:Nat→V→Hp→Hp→Prop} (T:Trn J n Kp item) {cap:List (Option Nat)} {g:TG} {tt:TT} {tk tv:TE} {ob:HO} {σ:St} {H:Hp} {Q:VK} (Pv:Addr→Nat→Hp→Prop) (h0:∀ p,H p=none→Pv p 0 (upd H p ob)) (hk:∀ p i H,i≤n→Pv p i H→Kp H)
    (hs:∀ p i x H1 H',H p=none→i < n→item i x H1 H'→Pv p i H1→∀ Nx:Hp→Prop,(∀ H2,Pv p (i+1) H2→Nx H2)→g x (aG cap σ) H' fun σ2 H2=>tt σ2 H2 fun b H3=>if b=true then tk σ2 H3 fun k H4=>tv σ2 H4 fun v H5=>∃ H6,DPut H5 p k v H6∧Nx H6 else Nx H3)
    (hd:∀ p H1,H p=none→Pv p n H1→Q (.ref p) H1):vS cap g tt tk tv ob σ Q J H:=by
  refine ⟨fun p i m H1=>m=n - i∧i≤n∧Pv p i H1,fun p hp=>⟨n,by simp,aaR _,h0 p hp⟩,?_⟩;rintro p i m H1 hp ⟨rfl,hi,q⟩;by_cases hlt:i < n
  · refine .inr ⟨T.go i H1 hlt (hk p i H1 hi q),fun x H' y=>?_⟩;exact hs p i x H1 H' hp hlt (T.yld i H1 x H' hlt (hk p i H1 hi q) y) q (fun H4=>∃ m',m' < n - i∧m'=n - (i+1)∧i+1≤n∧Pv p (i+1) H4) fun H2 h=>⟨_,by lia,rfl,hlt,h⟩
  · have e:i=n:=by lia
    subst e;exact .inl ⟨T.stop H1 (hk p _ H1 hi q),hd p H1 hp q⟩
open PySem PySem.Spec PyProof.Rows
theorem EqR.pair {K:aab} {H:Hp} {n:Nat} {p q:Int × Int} {x y:V} (hx:PairIn H p x) (hy:PairIn H q y):EqR K H (n+1) x y (decide (p=q)):=by
  obtain ⟨a,rfl,ha⟩:=hx;obtain ⟨b,rfl,hb⟩:=hy;have:=EqR.tup (K:=K) (n:=n) (e:=fun j=>if j=0 then p.1 == q.1 else p.2 == q.2) (SqT.of ha) (SqT.of hb) fun j x y hx hy=>by
    match j,hx,hy with
    | 0,hx,hy=>simp at hx hy;subst hx hy;exact EqR.flat (K:=K) (H:=H) (n:=n) (x:=.int p.1) (y:=.int q.1) rfl rfl
    | 1,hx,hy=>simp at hx hy;subst hx hy;exact EqR.flat (K:=K) (H:=H) (n:=n) (x:=.int p.2) (y:=.int q.2) rfl rfl
    | j+2,hx,hy=>simp at hx
  have e:((abj (min [V.int p.1,V.int p.2].length [V.int q.1,V.int q.2].length)).all (fun j=>if j=0 then p.1 == q.1 else p.2 == q.2) && [V.int p.1,V.int p.2].length == [V.int q.1,V.int q.2].length)=decide (p=q):=by
    obtain ⟨a1,a2⟩:=p;obtain ⟨b1,b2⟩:=q;have : abj (min [V.int a1,V.int a2].length [V.int b1,V.int b2].length)=[0,1]:=rfl;rw [this,abR];simp
  rw [e] at this;exact this
theorem jy {X:Cx} {pins:List (Addr × Obj)} {σ:St} {H:Hp} {s:Shared} (I:Inv X pins σ H s) {p:Int × Int}:∀ {ps:List (Int × Int)} {us:List V} {its:List Value},PairsIn H ps us→Vals us its →
    ∃ f:Value→Bool,(∀ y∈its,∃ q v,PairIn H q v∧RelV v y∧f y=decide (q=p))∧its.any f=decide (p∈ps):=by
  classical
  intro ps us its h r;refine ⟨fun y=>decide (∃ a,y=Value.ref a∧H a=some (.tup [.int p.1,.int p.2])),?_,?_⟩
  · induction h generalizing its with
    | nil=>cases r;intro y hy;cases hy
    | @cons q v ps us hq _ ih =>
      cases r with
      | cons rv rt =>
        intro y hy;rcases aai.mp hy with rfl|hy
        · refine ⟨q,v,hq,rv,?_⟩;obtain ⟨a,rfl,ha⟩:=hq;cases rv;by_cases c:q=p
          · subst c;rw [decide_eq_true rfl];exact decide_eq_true ⟨a,rfl,ha⟩
          · rw [decide_eq_false c];refine decide_eq_false ?_;rintro ⟨b,e,hb⟩;cases e;rw [ha] at hb;apply c;obtain ⟨q1,q2⟩:=q;obtain ⟨p1,p2⟩:=p;simp at hb;rw [hb.1,hb.2]
        · exact ih rt y hy
  · induction h generalizing its with
    | nil=>cases r;simp
    | @cons q v ps us hq _ ih =>
      cases r with
      | cons rv rt =>
        rw [ab3,ih rt];obtain ⟨a,rfl,ha⟩:=hq;cases rv;by_cases c:q=p
        · subst c;have e0:decide (∃ b,Value.ref a=Value.ref b∧H b=some (.tup [.int q.1,.int q.2]))=true:=decide_eq_true ⟨a,rfl,ha⟩;show (decide (∃ b,Value.ref a=Value.ref b∧H b=some (.tup [.int q.1,.int q.2])) || _)=_;rw [e0];simp
        · refine (fun (e0:decide (∃ b,Value.ref a=Value.ref b∧H b=some (HO.tup [.int p.1,.int p.2]))=false)=>?_) ?_
          · show (decide (∃ b,Value.ref a=Value.ref b∧H b=some (.tup [.int p.1,.int p.2])) || _)=_;rw [e0,Bool.false_or,abR,decide_eq_true_eq,decide_eq_true_eq,aai];exact ⟨.inr,fun h=>h.elim (fun e=>absurd e.symm c) id⟩
          · refine decide_eq_false ?_;rintro ⟨b,e,hb⟩;cases e;rw [ha] at hb;apply c;obtain ⟨q1,q2⟩:=q;obtain ⟨p1,p2⟩:=p;simp at hb;rw [hb.1,hb.2]
def ww (K:aab) (neg:Bool):R2:=fun x y H Q=>∃ (p:Int × Int) (l:Addr) (us:List V) (ps:List (Int × Int)),PairIn H p x∧y=.ref l∧SqL K H l us∧PairsIn H ps us∧Q (.bl (if neg then !decide (p∈ps) else decide (p∈ps))) H
theorem oN {X:Cx} {K:aab} (hK:X.K=K) (hu:X.A.units+64 < cLine):OpR X (compareOp .NotIn) (ww K true):=by
  subst hK;intro pins s σ H x y v u Q I rx ry h;obtain ⟨p,l,us,ps,hp,rfl,hq,hps,q⟩:=h;cases ry;obtain ⟨its,r,pl,hz⟩:=I.list hq;obtain ⟨f,hf,ha⟩:=jy (p:=p) I hps r;refine SeqAt.notIn_listAt f pl.isList (fun w hw=>?_) ⟨.bl _,H,I,rfl,?_⟩
  · obtain ⟨q',v',h1,h2,h3⟩:=hf w (by simpa using hw);rw [h3];exact (EqR.pair (K:=X.K) (n:=0) h1 hp).at I h2 rx (by show X.A.units+1+(0+1) < cLine;lia)
  · rw [show its.toArray.any f=its.any f by simp,ha];exact q
open PySem PySem.Spec PyProof.Rows
section
variable {X:Cx}
end
open PySem PySem.Spec PyProof.Rows
section
variable {X:Cx} {a b c d e:Expr} {ta tb tc td te:TE} {pos:Pos}
end
end L2
namespace L2
open PySem PySem.Spec PyProof.Rows PySem.W
def cdO (c:Addr) (qual:Str):HO:=.ext fun h=>h.CodeRec (.ref c) qual
structure LTab (P:Addr) (qual:Str) (H:Hp) (ps:Array Value):Prop where
  tab:H P=some (.tbl ps)
  tri:TriplesOk ps.toList
  cds:∀ pos cv,codeAmong pos ps.toList=some cv→∃ c',cv=.ref c'∧H c'=some (cdO c' qual)
theorem jk {pos:Pos} {a b:Int} {c cv:Value} (l:List Value) (h:TriplesOk l) (hn:codeAmong pos (l++[rawInt a,rawInt b,c])=some cv):codeAmong pos l=some cv∨cv=c:=by
  fun_induction TriplesOk l with
  | case1 =>
    simp only [List.nil_append,codeAmong,rawInt] at hn;split at hn
    · exact .inr (aaM hn).symm
    · cases hn
  | case2 a' t b' u x df ih =>
    simp only [abL,codeAmong] at hn ⊢;split at hn
    · rename_i hc;rw [if_pos hc];exact .inl hn
    · rename_i hc;rw [if_neg hc];exact ih h hn
  | case3 l h1 h2=>exact h.elim
theorem uQ {P:Program} {w:World} {H:Hp} {h:Heap} {c:Addr} {qual:Str} (r:h.CodeRec (.ref c) qual):ObjOk P w H h c (cdO c qual):=by
  refine ⟨r,?_,fun h1 h2 p k=>?_⟩
  · obtain ⟨c',o,vs,t,e,ho,_⟩:=r;cases e;exact ⟨o,ho⟩
  · obtain ⟨c',o,vs,t,e,ho,r⟩:=p;cases e;exact ⟨c,o,vs,t,rfl,k o ho,r⟩
section
variable {X:Cx} {pins:List (Addr × Obj)} {σ:St} {H:Hp} {s:Shared}
theorem Inv.tbl (I:Inv X pins σ H s) {P:Addr} {ps:Array Value} (h:H P=some (.tbl ps)):s.heap.get? P=some (tabObj ps):=I.hok P _ h
abbrev eJ (X:Cx) (params:Arguments) (body:Expr) (scope:Scope) (c':Addr) (ctv:Value):Obj :=
  kla_obj "<lambda>" (X.env.qual ++ "<lambda>") params body scope [] ((X.mg "__name__").getD .none) c' ctv
theorem qQ (I:Inv X pins σ H s) {params:Arguments} {body:Expr} {scope:Scope} {pos:Pos} {c P:Addr} {ps:Array Value} (hdef:defaultsOf params X.env=([],[])) (hcl:closureFor scope X.env=pure [])
    (hcode:X.env.code=.ref c) (C:CodeHd X.base c P) (hB:X.base.BuiltinsAt X.mg P) (T:LTab P (X.env.qual ++ "<lambda>") H ps) {Q:Value→Shared→Prop}
    (h:∀ f c' ctv H' s',Inv X (pins++[(f,eJ X params body scope c' ctv)]) σ H' s'→(∃ ps',LTab P (X.env.qual ++ "<lambda>") H' ps')→H' c'=some (cdO c' (X.env.qual ++ "<lambda>"))→But P H H'→Q (.ref f) s') :
    wpAny (model X.prog X.w) X.A (eval (.Lambda params body scope pos) X.env) Q X.xe s:=by
  refine kla_eval hdef ?_;have hP:=I.tbl T.tab;have hns:s.heap.Ns mainGlobals X.mg:=I.mod.glob.keeps I.bk;have C':CodeHd s.heap c P:=C.keeps I.bk;have pinned:∀ {H':Hp} {h':Heap} {tk:Tok} {c':Addr} {ctv:Value},Inv X pins σ H' { s with heap:=h'.push (eJ X params body scope c' ctv),toks:=tk }→s.heap.objs.size≤h'.objs.size→HOk X.prog X.w H' h' →
      Inv X (pins++[(h'.objs.size,eJ X params body scope c' ctv)]) σ H' { s with heap:=h'.push (eJ X params body scope c' ctv),toks:=tk }:=fun {H' h' tk c' ctv} J hs hk=>by
    refine J.pins_of fun p hp=>?_;rcases aau.mp hp with hp|hp
    · exact J.pin p (aaa _ hp)
    · rw [aar.mp hp];refine ⟨aap _ rfl,hk.fresh (aah _),aaO (aao I.lt hs),I.nofs hs,fun v z=>by cases z⟩
  cases hA:codeAmong pos ps.toList with
  | none =>
    have hgP:mainGlobals≠P:=fun e=>by
      obtain ⟨o,es,ep,e0,d0,_⟩:=hns;rw [e,hP] at e0;cases e0;cases d0
    refine kla_makeFunction hcl I.ok.glob hns hcode C' hP T.tri hA hgP (hB.keeps I.bk) fun c' ctv h' tk hx hge hlt hrec hP'=>?_;have hsz:s.heap.objs.size≤h'.objs.size:=aaK hge (Nat.le_of_lt hlt);have nc:H c'=none:=I.hok.fresh hge;have ncP:c'≠P:=fun e=>by rw [e,T.tab] at nc;cases nc
    have keepB:∀ b o,b≠P→s.heap.get? b=some o→h'.get? b=some o:=fun b o hb e=>hx b o hb e;have eP:upd (upd H P (.tbl (ps++#[rawInt pos.line,rawInt pos.col,.ref c']))) c' (cdO c' (X.env.qual ++ "<lambda>")) P=some (.tbl (ps++#[rawInt pos.line,rawInt pos.col,.ref c'])):=by
      rw [aj ncP.symm,ac]
    have eO:∀ b,b≠P→b≠c'→upd (upd H P (.tbl (ps++#[rawInt pos.line,rawInt pos.col,.ref c']))) c' (cdO c' (X.env.qual ++ "<lambda>")) b=H b:=fun b h1 h2=>by
      rw [aj h2,aj h1]
    have eS:∀ b o,b≠P→H b=some o→upd (upd H P (.tbl (ps++#[rawInt pos.line,rawInt pos.col,.ref c']))) c' (cdO c' (X.env.qual ++ "<lambda>")) b=some o:=fun b o h1 h2=>by
      rw [eO b h1 (ap h2 nc)];exact h2
    have eC:upd (upd H P (.tbl (ps++#[rawInt pos.line,rawInt pos.col,.ref c']))) c' (cdO c' (X.env.qual ++ "<lambda>")) c'=some (cdO c' (X.env.qual ++ "<lambda>")):=ac;generalize upd (upd H P (.tbl (ps++#[rawInt pos.line,rawInt pos.col,.ref c']))) c' (cdO c' (X.env.qual ++ "<lambda>"))=H2 at eP eO eS eC;have ok:HOk X.prog X.w H2 h':=fun b o e=>by
      by_cases hb:b=P
      · subst hb;rw [eP] at e;cases e;exact hP'
      by_cases hb2:b=c'
      · subst hb2;rw [eC] at e;cases e;exact uQ hrec
      rw [eO b hb hb2] at e;refine (I.hok b o e).stay (fun d v hd q=>keepB d v ?_ q) (fun d q=>eS d _ (fun z=>by rw [z,T.tab] at q;cases q) q) fun d xs q=>eS d _ (fun z=>by rw [z,T.tab] at q;cases q) q;rintro rfl;rcases hd with z|z
      · exact hb z.symm
      · rw [T.tab] at z;cases z
    have J:Inv X pins σ H2 { s with heap:=h'.push (eJ X params body scope c' ctv),toks:=tk }:=by
      refine I.un (h':=h'.push (eJ X params body scope c' ctv)) ⟨fun b o q n _ _=>?_,fun b o q n _ _=>?_,fun b o q n _=>?_,fun b o q _=>?_,fun b xs q=>?_,fun b o xs q=>?_,fun b qs q=>?_⟩ (ok.kept fun b u e=>aac _ e)
      · exact aac _ (keepB b o (fun z=>by rw [z,T.tab] at n;cases n) q)
      · exact ⟨o.slots,aac _ (keepB b o (fun z=>by rw [z,T.tab] at n;cases n) q)⟩
      · rw [eO b (fun z=>by rw [z,T.tab] at n;cases n) (aas (aao (aag q) hge))];exact n
      · by_cases hb:b=P
        · subst hb;exact ⟨_,aac _ hP'⟩
        · exact ⟨o,aac _ (keepB b o hb q)⟩
      · exact eS b _ (fun z=>by rw [z,T.tab] at q;cases q) q
      · exact eS b _ (fun z=>by rw [z,T.tab] at q;cases q) q
      · by_cases hb:b=P
        · subst hb;rw [T.tab] at q;cases q;exact ⟨_,eP⟩
        · exact ⟨#[],by rw [eS b _ hb q];simp⟩
    refine h _ c' ctv H2 _ (pinned J hsz ok) ⟨_,eP,?_,fun pos' cv hc=>?_⟩ eC (fun b o hb e=>eS b o hb e)
    · rw [Array.toList_append];exact TriplesOk_snoc _ _ _ _ T.tri
    · rw [Array.toList_append] at hc;rcases jk _ T.tri hc with z|z
      · obtain ⟨d,e1,e2⟩:=T.cds pos' cv z;exact ⟨d,e1,eS d _ (fun y=>by rw [y,T.tab] at e2;cases e2) e2⟩
      · exact ⟨c',z,eC⟩
  | some cv =>
    obtain ⟨c',rfl,ec⟩:=T.cds pos cv hA;refine kla_makeFunctionHit hcl I.ok.glob hns hcode C' hP T.tri hA (hB.keeps I.bk) fun ctv h' tk hk hsz=>?_;have J:Inv X pins σ H { s with heap:=h'.push (eJ X params body scope c' ctv),toks:=tk }:=I.kept fun b u e=>aac _ (hk b u e);exact h _ c' ctv H _ (pinned J hsz (I.hok.kept hk)) ⟨ps,T⟩ ec (fun b o _ e=>e)
end
section
variable {CX:CXT} {P:Program} {w:World} {K:aab} {mg:Str→Option Value} {base:Heap} {k:Nat}
theorem qR {A:Around} {outer:List Env} {s:Shared} {H:Hp} {f c':Addr} {ctv pm:Value} {name qual:Str} {params:Arguments} {body:Expr} {scope:Scope} {N ps:List Str} {args:Args} {us:List Value} {vs:List V} {Q:VK} {E:XK}
    (ho:s.heap.get? f=some (kla_obj name qual params body scope [] pm c' ctv)) (hcd:s.heap.CodeRec (.ref c') qual) (S:FnScope N ps scope) (hr:Room (k+1) A) (e0:Env0 P w K mg base A outer s H)
    (hb:bindArgs (kla_fn name qual params body scope [] pm (.ref c') ctv) args=pure (ps.zip us)) (r:Vals vs us) (hl:vs.length=ps.length)
    (hbody:∃ t,PE (fH CX P w K mg base N qual scope f (.ref c') A outer s H E) body t∧t (start N vs) H Q):codeAny (model P w) A (.call (.ref f) args) (CR CX outer P w H s Q E) s:=by
  have lim:s.heap.NoLimit:=e0.mod.nolimit.keeps fun b o e=>(e0.bs b o e).1;have hkind:∀ y∈ps.zip us,scope.names.lookup y.1=some .local∨(scope.names.lookup y.1=some .cell∧((cellsFrom (s.heap.objs.size+1) scope.names []).lookup y.1).isSome=true):=fun ⟨n,v⟩ hy=>by
    rcases S.par n (List.of_mem_zip hy).1 with q|q
    · exact .inl q
    · exact .inr ⟨q,acb _ _ _ (.inl q)⟩
  refine kla_callFunE hr.depth ho rfl S.co S.gen rfl hcd ?_;refine wpAny_of_eq hb ?_;refine wpAny_newFunctionEnv_cells S.kind hkind fun env he s1 x=>?_;subst he;refine ⟨lim.keeps x.toInCall.keep,kla_codeExpr ?_⟩;obtain ⟨t,ht,hq⟩:=hbody;have I:Inv (fH CX P w K mg base N qual scope f (.ref c') A outer s H E) [] (start N vs) H s1:=jI S hr.hd e0 hl r x;refine wpAny_mono (ht [] s1 (start N vs) H _ I hq) (fun u s' hs=>?_) fun e s' hs=>hs;obtain ⟨v,H',J,rv,q⟩:=hs;exact ⟨v,H',J.os,J.bare,J.base,J.hok,rv,q⟩
end
def ay (kf:Nat→List Int):Nat→Nat
  | 0=>0
  | j+1=>if HT.lexLt (kf (j+1)) (kf (ay kf j))=true then j+1 else ay kf j
theorem iS (kf:Nat→List Int):∀ j,ay kf j≤j
  | 0=>aah _
  | j+1=>by
    unfold ay;split
    · exact aah _
    · exact Nat.le_succ_of_le (iS kf j)
section
variable {X:Cx} {pins pl:List (Addr × Obj)} {σ:St} {H:Hp} {s:Shared}
theorem Inv.turn1 {a:Addr} {o o':Obj} {h':Heap} {tk:Nat} (I:Inv X (pins++(a,o) :: pl) σ H s) (k:∀ b ob,b≠a→s.heap.get? b=some ob→h'.get? b=some ob) (e:h'.get? a=some o') (d:∀ v,o'.data≠.cell v)
    (h0:X.s₀.heap.objs.size≤a) (hp:∀ p∈X.pn++pins,p.1≠a) (hpl:∀ p∈pl,p.1≠a):Inv X (pins++(a,o') :: pl) σ H { s with heap:=h',toks:=tk }:=by
  obtain ⟨pe,pn,pL,pf,pd⟩:=I.pin (a,o) (aaa _ (aaa _ aav));have J:Inv X (pins++pl) σ H s:=I.pins_of fun p hp=>I.pin p (aaa _ (by
    rcases aau.mp hp with z|z
    · exact aaz _ z
    · exact aaa _ (aal _ z)))
  have hc:∀ x c,X.env.cells.lookup x=some c→c≠a:=fun x c z y=>by
    obtain ⟨v,oc,ho,hd⟩:=I.cell x c z;rw [y,pe] at ho;cases ho;exact pd v hd
  have h3:∀ p∈X.pn++(pins++pl),p.1≠a:=fun p z=>by
    rcases aau.mp z with z|z
    · exact hp p (aaz _ z)
    · rcases aau.mp z with z|z
      · exact hp p (aaa _ z)
      · exact hpl p z
  have T:Inv X (pins++pl) σ H { s with heap:=h',toks:=tk }:=J.turned k pn pL (.inr h0) hc h3;refine T.pins_of fun p z=>?_;rcases aau.mp z with z|z
  · exact T.pin p (aaa _ (aaz _ z))
  · rcases aai.mp z with rfl|z
    · exact ⟨e,pn,pL,pf,d⟩
    · exact T.pin p (aaa _ (aaa _ z))
theorem Inv.turn0 {a:Addr} {o:Obj} {h':Heap} {tk:Nat} (I:Inv X (pins++(a,o) :: pl) σ H s) (k:∀ b ob,b≠a→s.heap.get? b=some ob→h'.get? b=some ob)
    (h0:X.s₀.heap.objs.size≤a) (hp:∀ p∈X.pn++pins,p.1≠a) (hpl:∀ p∈pl,p.1≠a):Inv X (pins++pl) σ H { s with heap:=h',toks:=tk }:=by
  obtain ⟨pe,pn,pL,pf,pd⟩:=I.pin (a,o) (aaa _ (aaa _ aav));have J:Inv X (pins++pl) σ H s:=I.pins_of fun p hp=>I.pin p (aaa _ (by
    rcases aau.mp hp with z|z
    · exact aaz _ z
    · exact aaa _ (aal _ z)))
  have hc:∀ x c,X.env.cells.lookup x=some c→c≠a:=fun x c z y=>by
    obtain ⟨v,oc,ho,hd⟩:=I.cell x c z;rw [y,pe] at ho;cases ho;exact pd v hd
  have h3:∀ p∈X.pn++(pins++pl),p.1≠a:=fun p z=>by
    rcases aau.mp z with z|z
    · exact hp p (aaz _ z)
    · rcases aau.mp z with z|z
      · exact hp p (aaa _ z)
      · exact hpl p z
  exact J.turned k pn pL (.inr h0) hc h3
theorem Inv.swap {a b:Addr × Obj} (I:Inv X (pins++[a,b]) σ H s):Inv X (pins++[b,a]) σ H s:=I.pins_of fun p z=>I.pin p (aaa _ (by
  rcases aau.mp z with z|z
  · exact aaz _ z
  · exact aaa _ (by simp at z ⊢;exact z.symm)))
theorem Inv.at {a:Addr} {o:Obj} (I:Inv X (pins++pl) σ H s) (h:(a,o)∈pl):s.heap.get? a=some o:=(I.pin (a,o) (aaa _ (aaa _ h))).1
theorem oY {l q Ia S:Addr} {xs:List V} {kf:Nat→List Int} {Kv:Nat→V→Hp→Prop} {G:Hp→Prop} {Q:VK} (hh:X.A.handled=none) (hlI:l≠Ia) (hSI:S≠Ia)
    (hI0:X.s₀.heap.objs.size≤Ia) (hS0:X.s₀.heap.objs.size≤S) (hpI:∀ p∈X.pn++pins,p.1≠Ia) (hpS:∀ p∈X.pn++pins,p.1≠S) (hl:∀ H,G H→SqL X.K H l xs) (mono:∀ i k H H',Kv i k H→Same H H'→Kv i k H')
    (turn:∀ i x u pl H s,xs[i]?=some x→RelV x u→G H→Inv X (pins++pl) σ H s→wpAny (model X.prog X.w) X.A.in1 (call (.ref q) [u]) (EP X (pins++pl) σ fun k H'=>Kv i k H'∧G H'∧Same H H') (fun _ _=>False) s)
    (cmp:∀ i j k k' u u' pl H s (Q:Value→Shared→Prop),Kv i k H→Kv j k' H→RelV k u→RelV k' u'→Inv X (pins++pl) σ H s→Q (.bool (HT.lexLt (kf i) (kf j))) s→wpAny (model X.prog X.w) X.A.in1 (richCompare .Lt u u') Q (fun _ _=>False) s)
    (hQ:∀ x H,xs[ay kf (xs.length - 1)]?=some x→G H→Q x H) :
    ∀ (r j:Nat) (H:Hp) (s:Shared) (vb kb:Value) (xb kv:V) (c:Nat) (oI:Obj),xs.length - (j+1)=r→j+1≤xs.length→Inv X (pins++[(S,seqObj "list" #[vb,kb] c),(Ia,oI)]) σ H s→s.heap.IsListIter Ia l (j+1) →
      xs[ay kf j]?=some xb→RelV xb vb→RelV kv kb→Kv (ay kf j) kv H→G H →
      codeAny (model X.prog X.w) X.A (.builtin "min.loop" ⟨[.ref Ia,.ref q,.ref S],[]⟩) (fun r s'=>match r with|.ok (.ret v)=>EP X pins σ Q v s'|.ok _=>False|.error e=>X.xe e s') s:=by
  have hname:(toString "min" ++ toString ".loop":String) = "min.loop":=by decide
  have unpin:∀ {pl H s},Inv X (pins++pl) σ H s→Inv X pins σ H s:=fun I=>I.pins_of fun p z=>I.pin p (aaa _ (aaz _ z));intro r
  induction r with
  | zero =>
    intro j H s vb kb xb kv c oI hr hj I hit hxb rvb rkb hk g;have hin:j+1=xs.length:=by lia
    have nS:=I.at (pl:=[(S,seqObj "list" #[vb,kb] c),(Ia,oI)]) (.head _);obtain ⟨its,rl,pL,_⟩:=I.list (hl H g);have W:=acr (prog:=X.prog) (w:=X.w) (A:=X.A.in1) hh Ia l hlI its.toArray;have hsz:its.toArray.size=xs.length:=by rw [aaf,rl.length]
    refine codeAny_builtin abh ?_;rw [abr aaC _];show wpAny _ X.A.in1 (seqItems? (.ref S) >>= _) _ _ _;refine wpAny_bind (wpAny_seqItems nS rfl ?_);show wpAny _ X.A.in1 (tryCatch (pyNext (.ref Ia)) _ >>= _) _ _ _;refine wpAny_bind (wpAny_tryCatch (W.done _ _ _ ⟨by rw [hsz,← hin];exact hit,pL.isList⟩ fun h' tk' hk'=>?_));have hk1:∀ b o,b≠Ia→s.heap.get? b=some o→h'.get? b=some o:=fun b o hb e=>hk' b o (by simpa using hb) e;have I1:Inv X (pins++[(S,seqObj "list" #[vb,kb] c)]) σ H { s with heap:=h',toks:=tk' }:=I.swap.turn0 hk1 hI0 hpI (fun p hp=>by rw [aar.mp hp];exact hSI);have hS':=I1.at (pl:=[(S,seqObj "list" #[vb,kb] c)]) (.head _);have s1:=aa6 h' S (aa5 fun _=>(#[]:Array Value));show wpAny _ X.A.in1 (updateSeq S (fun _=>#[]) >>= _) _ _ _;refine wpAny_bind ?_;refine wpAny_updateSeq hS' rfl (wpAny_bind (wpAny_letGo (wpAny_pure ?_)));have I2:=I1.turn0 (pl:=[]) (h':=h'.update S (aa5 fun _=>(#[]:Array Value))) (tk:=tk') (fun b ob hb e=>(s1.2 b hb).trans e) hS0 hpS (fun p hp=>by simp at hp);rw [ab4] at I2;refine ⟨xb,H,I2,rvb,hQ xb H ?_ g⟩;rw [show xs.length - 1=j by lia];exact hxb
  | succ r ih =>
    intro j H s vb kb xb kv c oI hr hj I hit hxb rvb rkb hk g;have hlt:j+1 < xs.length:=by lia
    have nS:=I.at (pl:=[(S,seqObj "list" #[vb,kb] c),(Ia,oI)]) (.head _);obtain ⟨its,rl,pL,_⟩:=I.list (hl H g);have W:=acr (prog:=X.prog) (w:=X.w) (A:=X.A.in1) hh Ia l hlI its.toArray;have hsz:its.toArray.size=xs.length:=by rw [aaf,rl.length]
    refine codeAny_builtin abh ?_;rw [abr aaC _];show wpAny _ X.A.in1 (seqItems? (.ref S) >>= _) _ _ _;refine wpAny_bind (wpAny_seqItems nS rfl ?_);show wpAny _ X.A.in1 (tryCatch (pyNext (.ref Ia)) _ >>= _) _ _ _;refine wpAny_bind (wpAny_tryCatch (W.item (j+1) _ _ _ (by rw [hsz];exact hlt) ⟨hit,pL.isList⟩ fun v h' tk' hP hst' hk'=>?_));have hk1:∀ b o,b≠Ia→s.heap.get? b=some o→h'.get? b=some o:=fun b o hb e=>hk' b o (by simpa using hb) e;have hv:its[j+1]?=some v:=by simpa using hP
    obtain ⟨x,hx,rx⟩:∃ x,xs[j+1]?=some x∧RelV x v:=by
      have hxx:xs[j+1]?=some xs[j+1]:=aad hlt;obtain ⟨u,hu,ru⟩:=rl.get hxx;rw [hv] at hu;cases hu;exact ⟨_,hxx,ru⟩
    obtain ⟨oI',hoI',hoc,hod⟩:=id hst'.1;have I1:Inv X (pins++[(S,seqObj "list" #[vb,kb] c),(Ia,oI')]) σ H { s with heap:=h',toks:=tk' } :=
      (I.swap.turn1 hk1 hoI' (fun v z=>by rw [hod] at z;cases z) hI0 hpI (fun p hp=>by rw [aar.mp hp];exact hSI)).swap
    show wpAny _ X.A.in1 (tryCatch (holding [v] (call (.ref q) [v])) _ >>= _) _ _ _;refine wpAny_bind (wpAny_tryCatch (wpAny_holding (wpAny_mono (turn (j+1) x v _ H _ hx rx g I1) (fun kx s2 he=>?_) fun _ _ hF=>hF.elim)));obtain ⟨kx',H2,I2,rk2,hk2,g2,S2⟩:=he;have hkb:=mono _ _ _ _ hk S2;have nS2:=I2.at (pl:=[(S,seqObj "list" #[vb,kb] c),(Ia,oI')]) (.head _);have nI2:=I2.at (pl:=[(S,seqObj "list" #[vb,kb] c),(Ia,oI')]) (.tail _ (.head _));have hit2:s2.heap.IsListIter Ia l (j+1+1):=⟨oI',nI2,hoc,hod⟩
    show wpAny _ X.A.in1 (tryCatch (holding [v,kx] (richCompare .Lt kx kb >>= _)) _ >>= _) _ _ _;refine wpAny_bind (wpAny_tryCatch (wpAny_holding (wpAny_bind (wpAny_mono (cmp (j+1) (ay kf j) kx' kv kx kb _ H2 s2 (fun z s'=>z=.bool (HT.lexLt (kf (j+1)) (kf (ay kf j)))∧s'=s2) hk2 hkb rk2 rkb I2 ⟨rfl,rfl⟩) (fun z s3 hz=>?_) fun _ _ hF=>hF.elim))));obtain ⟨rfl,rfl⟩:=hz;refine wpAny_bind (wpAny_holding (wpAny_truthy_bool ?_));refine wpAny_bind (wpAny_letGo (wpAny_pure ?_));by_cases hb':HT.lexLt (kf (j+1)) (kf (ay kf j))=true
    · have s1:=aa6 s3.heap S (aa5 fun _=>#[v,kx]);obtain ⟨c2,hc2⟩:∃ c2,(s3.heap.update S (aa5 fun _=>#[v,kx])).get? S=some (seqObj "list" #[v,kx] c2):=⟨_,get?_update_seq nS2 fun _=>#[v,kx]⟩
      simp only [hb',if_true];refine wpAny_bind ?_;refine wpAny_updateSeq nS2 rfl (wpAny_bind (wpAny_letGo ?_));rw [hname];have eb:ay kf (j+1)=j+1:=by conv=>lhs;unfold ay;rw [if_pos hb']
      have I3:Inv X (pins++[(S,seqObj "list" #[v,kx] c2),(Ia,oI')]) σ H2 { s3 with heap:=s3.heap.update S (aa5 fun _=>#[v,kx]),toks:=s3.toks } :=
        I2.turn1 (fun b ob hb e=>(s1.2 b hb).trans e) hc2 (fun v z=>by cases z) hS0 hpS (fun p hp=>by rw [aar.mp hp];exact hSI.symm)
      refine wpAny_pure ⟨plainId_quiet aaC _,ih (j+1) H2 _ v kx x kx' c2 oI' (by lia) hlt I3 ⟨oI',(s1.2 Ia hSI.symm).trans nI2,hoc,hod⟩ (by rw [eb];exact hx) rx rk2 (by rw [eb];exact hk2) g2⟩
    · simp only [hb',abP,if_false];refine wpAny_bind (wpAny_letGo ?_);rw [hname];have eb:ay kf (j+1)=ay kf j:=by conv=>lhs;unfold ay;rw [if_neg hb']
      refine wpAny_pure ⟨plainId_quiet aaC _,ih (j+1) H2 _ vb kb xb kv c oI' (by lia) hlt I2 hit2 (by rw [eb];exact hxb) rvb rkb (by rw [eb];exact hkb) g2⟩
theorem wz {l q:Addr} {xs:List V} {kf:Nat→List Int} {Kv:Nat→V→Hp→Prop} {G:Hp→Prop} {Q:VK} (hh:X.A.handled=none) (I:Inv X pins σ H s) (hne:0 < xs.length) (g:G H)
    (hl:∀ H,G H→SqL X.K H l xs) (mono:∀ i k H H',Kv i k H→Same H H'→Kv i k H')
    (turn:∀ i x u pl H s,xs[i]?=some x→RelV x u→G H→Inv X (pins++pl) σ H s→wpAny (model X.prog X.w) X.A.in1 (call (.ref q) [u]) (EP X (pins++pl) σ fun k H'=>Kv i k H'∧G H'∧Same H H') (fun _ _=>False) s)
    (cmp:∀ i j k k' u u' pl H s (Q:Value→Shared→Prop),Kv i k H→Kv j k' H→RelV k u→RelV k' u'→Inv X (pins++pl) σ H s→Q (.bool (HT.lexLt (kf i) (kf j))) s→wpAny (model X.prog X.w) X.A.in1 (richCompare .Lt u u') Q (fun _ _=>False) s)
    (hQ:∀ x H,xs[ay kf (xs.length - 1)]?=some x→G H→Q x H) :
    wpAny (model X.prog X.w) X.A (call (.builtin "min") [.ref l] [(abu "key",.ref q)]) (EP X pins σ Q) X.xe s:=by
  have hname:(toString "min" ++ toString ".loop":String) = "min.loop":=by decide
  obtain ⟨its,rl,pL,_⟩:=I.list (hl H g);have hls:=pL.isList;obtain ⟨ol,hol,_⟩:=id hls;have hll:l < s.heap.objs.size:=aag hol;refine kmk_tree PySem.F.kind_min PySem.F.plain_min PySem.F.entry_min (kmk_min_key _ _) ?_;show wpAny _ X.A.in1 (abv "min" ["key","default"] 0 ⟨[],[(abu "key",.ref q)]⟩ >>= _) _ _ s;refine wpAny_bind (wpAny_of_eq (show abv "min" ["key","default"] 0 ⟨[],[(abu "key",.ref q)]⟩=pure [some (.ref q),none] from rfl) ?_);refine wpAny_bind (wpAny_pure ?_);refine wpAny_bind (wpAny_pyIter_list hls ?_);refine wpAny_bind (wpAny_newList ?_ (aaR _));rw [hname];have hS:(s.heap.push { cls:=.type "list_iterator",data:=.fields #[.ref l,.int 0 0] }).objs.size=s.heap.objs.size+1:=size_push' ..;have hlI:l≠s.heap.objs.size:=aas hll;have hSI:(s.heap.push { cls:=.type "list_iterator",data:=.fields #[.ref l,.int 0 0] }).objs.size≠s.heap.objs.size:=by rw [hS];exact aaO (abX _)
  have gI:((s.heap.push { cls:=.type "list_iterator",data:=.fields #[.ref l,.int 0 0] }).push (seqObj "list" #[] 0)).get? s.heap.objs.size=some { cls:=.type "list_iterator",data:=.fields #[.ref l,.int 0 0] } :=
    aac _ (aap _ rfl)
  have gS:((s.heap.push { cls:=.type "list_iterator",data:=.fields #[.ref l,.int 0 0] }).push (seqObj "list" #[] 0)).get? (s.heap.push { cls:=.type "list_iterator",data:=.fields #[.ref l,.int 0 0] }).objs.size=some (seqObj "list" #[] 0):=aap _ rfl;have kk:∀ b u,s.heap.get? b=some u→((s.heap.push { cls:=.type "list_iterator",data:=.fields #[.ref l,.int 0 0] }).push (seqObj "list" #[] 0)).get? b=some u:=fun b u e=>aac _ (aac _ e);have hI0:X.s₀.heap.objs.size≤s.heap.objs.size:=I.sz;have hS0:X.s₀.heap.objs.size≤(s.heap.push { cls:=.type "list_iterator",data:=.fields #[.ref l,.int 0 0] }).objs.size:=by rw [hS];exact Nat.le_succ_of_le I.sz
  have hpI:∀ p∈X.pn++pins,p.1≠s.heap.objs.size:=fun p hp=>aas (aag (I.pin p hp).1);have hpS:∀ p∈X.pn++pins,p.1≠(s.heap.push { cls:=.type "list_iterator",data:=.fields #[.ref l,.int 0 0] }).objs.size:=fun p hp=>by rw [hS];exact aas (abk (aag (I.pin p hp).1))
  have I0:Inv X (pins++[((s.heap.push { cls:=.type "list_iterator",data:=.fields #[.ref l,.int 0 0] }).objs.size,seqObj "list" #[] 0),(s.heap.objs.size,{ cls:=.type "list_iterator",data:=.fields #[.ref l,.int 0 0] })]) σ H
      { s with heap:=(s.heap.push { cls:=.type "list_iterator",data:=.fields #[.ref l,.int 0 0] }).push (seqObj "list" #[] 0),toks:=s.toks }:=by
    refine (I.kept (t':=s.toks) kk).pins_of fun p hp=>?_;rcases aau.mp hp with hp|hp
    · exact (I.kept (t':=s.toks) kk).pin p (aaa _ hp)
    · rcases aai.mp hp with rfl|hp
      · refine ⟨gS,I.hok.fresh (by rw [hS];exact abT _),?_,I.nofs (by rw [hS];exact abT _),fun v z=>by cases z⟩;rw [hS];exact aaO (abk I.lt)
      · rw [aar.mp hp];exact ⟨gI,I.hok.fresh (aah _),aaO I.lt,I.nofs (aah _),fun v z=>by cases z⟩
  refine wpAny_pure ⟨plainId_quiet aaC _,?_⟩;have W:=acr (prog:=X.prog) (w:=X.w) (A:=X.A.in1) hh s.heap.objs.size l hlI its.toArray;have hsz:its.toArray.size=xs.length:=by rw [aaf,rl.length]
  refine codeAny_builtin abh ?_;rw [abr aaC _];show wpAny _ X.A.in1 (seqItems? (.ref _) >>= _) _ _ _;refine wpAny_bind (wpAny_seqItems gS rfl ?_);show wpAny _ X.A.in1 (tryCatch (pyNext (.ref s.heap.objs.size)) _ >>= _) _ _ _;refine wpAny_bind (wpAny_tryCatch (W.item 0 _ _ _ (by rw [hsz];exact hne) ⟨⟨_,gI,rfl,rfl⟩,hls.at fun o e=>kk _ o e⟩ fun v h' tk' hP hst' hk'=>?_));have hv:its[0]?=some v:=by simpa using hP
  obtain ⟨x,hx,rx⟩:∃ x,xs[0]?=some x∧RelV x v:=by
    have hxx:xs[0]?=some xs[0]:=aad hne;obtain ⟨u,hu,ru⟩:=rl.get hxx;rw [hv] at hu;cases hu;exact ⟨_,hxx,ru⟩
  obtain ⟨oI',hoI',hoc,hod⟩:=id hst'.1;have I1:=(I0.swap.turn1 (h':=h') (tk:=tk') (fun b ob hb e=>hk' b ob (by simpa using hb) e) hoI' (fun v z=>by rw [hod] at z;cases z) hI0 hpI (fun p hp=>by rw [aar.mp hp];exact hSI)).swap;show wpAny _ X.A.in1 (tryCatch (holding [v] (call (.ref q) [v])) _ >>= _) _ _ _;refine wpAny_bind (wpAny_tryCatch (wpAny_holding (wpAny_mono (turn 0 x v _ H _ hx rx g I1) (fun kx s2 he=>?_) fun _ _ hF=>hF.elim)));obtain ⟨kx',H2,I2,rk2,hk2,g2,S2⟩:=he;generalize (s.heap.push { cls:=.type "list_iterator",data:=.fields #[.ref l,.int 0 0] }).objs.size=S at hSI hS0 hpS I2 ⊢;generalize s.heap.objs.size=Ia at hlI hSI hI0 hpI I2 hst' ⊢;have nS2:=I2.at (pl:=[(S,seqObj "list" #[] 0),(Ia,oI')]) (.head _);have nI2:=I2.at (pl:=[(S,seqObj "list" #[] 0),(Ia,oI')]) (.tail _ (.head _));have s1:=aa6 s2.heap S (aa5 fun _=>#[v,kx]);obtain ⟨c2,hc2⟩:∃ c2,(s2.heap.update S (aa5 fun _=>#[v,kx])).get? S=some (seqObj "list" #[v,kx] c2):=⟨_,get?_update_seq nS2 fun _=>#[v,kx]⟩
  show wpAny _ X.A.in1 (updateSeq S (fun _=>#[v,kx]) >>= _) _ _ _;refine wpAny_bind ?_;refine wpAny_updateSeq nS2 rfl ?_;rw [hname];have I3:Inv X (pins++[(S,seqObj "list" #[v,kx] c2),(Ia,oI')]) σ H2 { s2 with heap:=s2.heap.update S (aa5 fun _=>#[v,kx]),toks:=s2.toks } :=
    I2.turn1 (fun b ob hb e=>(s1.2 b hb).trans e) hc2 (fun v z=>by cases z) hS0 hpS (fun p hp=>by rw [aar.mp hp];exact hSI.symm)
  refine wpAny_pure ⟨plainId_quiet aaC _,?_⟩;exact oY hh hlI hSI hI0 hS0 hpI hpS hl mono turn cmp hQ _ 0 H2 _ v kx x kx' c2 oI' rfl hne I3 ⟨oI',(s1.2 Ia hSI.symm).trans nI2,hoc,hod⟩ hx rx rk2 hk2 g2
end
theorem vp (a b:Int):HT.lexLt [a] [b]=decide (a < b):=by
  show (if a=b then HT.lexLt [] [] else decide (a < b))=_;by_cases h:a=b
  · rw [if_pos h,HT.lexLt_nil_nil,decide_eq_false (by lia)]
  · rw [if_neg h]
def KeyIn (kd:Bool) (ks:List Int) (k:V) (H:Hp):Prop:=if kd=true then ∃ a,k=.ref a∧H a=some (.tup (ks.map V.int)) else ∃ n,ks=[n]∧k=.int n
theorem KeyIn.mono {kd:Bool} {ks:List Int} {k:V} {H H':Hp} (h:KeyIn kd ks k H) (g:Same H H'):KeyIn kd ks k H':=by
  unfold KeyIn at h ⊢;split at h
  · obtain ⟨a,e,ha⟩:=h;rename_i c;rw [if_pos c];exact ⟨a,e,g _ _ ha⟩
  · rename_i c;rw [if_neg c];exact h
theorem PairsIn.tups {H H':Hp} (t:∀ b xs,H b=some (.tup xs)→H' b=some (.tup xs)):∀ {ps:List (Int × Int)} {vs:List V},PairsIn H ps vs→PairsIn H' ps vs
  | _,_,.nil=>.nil
  | _,_,.cons ⟨a,e,h⟩ r=>.cons ⟨a,e,t _ _ h⟩ (PairsIn.tups t r)
def bT (key:Int × Int→List Int) (ps:List (Int × Int)) (i:Nat):List Int:=match ps[i]? with|some p=>key p|none=>[]
def u9 (P:Addr) (qual:Str) (key:Int × Int→List Int) (ta:TA):TE:=fun σ H Q=>ta σ H fun vs H1=>∃ l us ps,vs=[.ref l]∧H1 l=some (.lst us)∧PairsIn H1 ps us∧0 < us.length∧(∃ tp,LTab P qual H1 tp) ∧
  ∀ x H',us[ay (bT key ps) (us.length - 1)]?=some x→But P H1 H'→(∃ tp,LTab P qual H' tp)→Q x H'
section
variable {X:Cx}
theorem jt {e:Expr} {ta:TA} {tb:TE} {params:Arguments} {body:Expr} {scope:Scope} {lpos kpos p pos:Pos} {c P:Addr} {y:Str} {kd:Bool} {key:Int × Int→List Int} (hr:Room 2 X.A) (hg:Gl X "min") (hm:X.mg "min" = none) (hv:bootBuiltins "min" = some (.builtin "min")) (pa:PA X [e] ta)
    (hdef:defaultsOf params X.env=([],[])) (hcl:closureFor scope X.env=pure []) (hcode:X.env.code=.ref c) (C:CodeHd X.base c P) (hB:X.base.BuiltinsAt X.mg P) (S:FnScope [y] [y] scope)
    (hbind:∀ pm c' ctv u,bindArgs (kla_fn "<lambda>" (X.env.qual ++ "<lambda>") params body scope [] pm (.ref c') ctv) ⟨[u],[]⟩=pure [(y,u)])
    (hbody:∀ f c' s H E,PE (fH CX0 X.prog X.w X.K X.mg X.base [y] (X.env.qual ++ "<lambda>") scope f (.ref c') X.A.in1 X.stack s H E) body tb)
    (hkey:∀ p x H Q,PairIn H p x→(∀ k H',KeyIn kd (key p) k H'→Same H H'→Q k H')→tb [some x] H Q)
    (he:backTo pos (starEach [e] X.env)=(false,eval e X.env) :: backTo pos (starEach [] X.env):=by rfl)
    (hplain:(backTo pos (starEach [e] X.env)).any (·.1)=false:=by rfl) :
    PE X (.Call (.Name "min" p) [e] [⟨some "key",.Lambda params body scope lpos,kpos⟩] pos) (u9 P (X.env.qual ++ "<lambda>") key ta):=by
  intro pins s σ H Q I h;refine wpAny_Call_Name_kw (gC I hg hm hv ?_);refine callWith_kw (thn (pa pos pins s σ H _ I h) fun us0 s1 hz=>?_) he hplain;obtain ⟨vs,H1,I1,r1,l,us,ps,rfl,el,hps,hne,⟨tp,T⟩,q⟩:=hz;obtain ⟨u1,rfl,ru⟩:∃ u,us0=[u]∧RelV (.ref l) u:=by
    cases r1 with
    | cons a b=>cases b;exact ⟨_,rfl,a⟩
  cases ru;refine kws_cons (qQ I1 hdef hcl hcode C hB T fun f c' ctv H2 s2 I2 T2 ec B2=>?_);refine kws_nil ?_;have nlP:l≠P:=fun z=>by rw [z,T.tab] at el;cases el
  have len:=hps.length;refine wpAny_mono (wz (xs:=us) (kf:=bT key ps) (Kv:=fun i k H=>∃ p,ps[i]?=some p∧KeyIn kd (key p) k H) (G:=fun H=>Same H2 H) (Q:=Q) hr.hd I2 hne (Same.refl _) (fun H g=>SqL.of (g _ _ (B2 _ _ nlP el))) (fun i k H H' h g=>by
      obtain ⟨p,e,h⟩:=h;exact ⟨p,e,h.mono g⟩) (fun i x u pl H3 s3 hx rx g I3=>?_) (fun i j k k' u u' pl H3 s3 Q' hk hk' rk rk' I3 hq=>?_) (fun x H3 hx g=>?_)) (fun v s3 hs=>?_) fun e s' hs=>hs
  · obtain ⟨p,hpi,hpx⟩:=bX (PairsIn.tups (fun b xs z=>g _ _ (B2 _ _ (fun y=>by rw [y,T.tab] at z;cases z) z)) hps) hx;have ho:s3.heap.get? f=some (eJ X params body scope c' ctv):=(I3.pin (f,eJ X params body scope c' ctv) (aaa _ (aaz _ (aaa _ (by simp))))).1;have hcd:s3.heap.CodeRec (.ref c') (X.env.qual ++ "<lambda>"):=(I3.hok c' _ (g _ _ ec)).1;refine wpAny_call (codeAny_mono (qR (k:=0) (CX:=CX0) (E:=E0) (Q:=fun k H'=>(∃ p,ps[i]?=some p∧KeyIn kd (key p) k H')∧Same H2 H'∧Same H3 H') (vs:=[x]) ho hcd S hr.in1 I3.env0.in1 (us:=[u]) (hbind _ _ _ _) (.cons rx .nil) rfl ⟨tb,hbody _ _ _ _ _,?_⟩) fun r s' hq=>?_)
    · exact hkey p x H3 _ hpx fun k H' hk hs=>⟨⟨p,hpi,hk⟩,g.trans hs,hs⟩
    · cases r with
      | error e=>exact aa7 hq
      | ok fl =>
        cases fl with
        | ret u=>exact I3.after hq
        | next=>exact aa7 hq
        | brk=>exact aa7 hq
        | cont=>exact aa7 hq
  · obtain ⟨p,hp,hk⟩:=hk;obtain ⟨p',hp',hk'⟩:=hk';have e1:bT key ps i=key p:=by unfold bT;rw [hp]
    have e2:bT key ps j=key p':=by unfold bT;rw [hp']
    rw [e1,e2] at hq;cases kd with
    | true =>
      obtain ⟨a,rfl,ea⟩:∃ a,k=.ref a∧H3 a=some (.tup ((key p).map V.int)):=hk;obtain ⟨a',rfl,ea'⟩:∃ a,k'=.ref a∧H3 a=some (.tup ((key p').map V.int)):=hk';cases rk;cases rk';obtain ⟨its,r1,p1,_⟩:=I3.tuple (SqT.of ea);obtain ⟨its2,r2,p2,_⟩:=I3.tuple (SqT.of ea');exact HT.lt_tupInts p1 p2 (eQ r1) (eQ r2) hr.in1.units0 hq
    | false =>
      obtain ⟨n,en,rfl⟩:∃ n,key p=[n]∧k=.int n:=hk;obtain ⟨n',en',rfl⟩:∃ n,key p'=[n]∧k'=.int n:=hk';rw [en,en',vp] at hq;obtain ⟨t,rfl⟩:∃ t,u=.int n t:=rk;obtain ⟨t',rfl⟩:∃ t,u'=.int n' t:=rk';exact CmpOf.ints_lt (prog:=X.prog) (w:=X.w) (A:=X.A.in1) (P:=fun i v=>∃ t,v=.int (if i=0 then n else n') t) (fun i=>if i=0 then n else n') (fun i v h=>h) 0 1 _ _ _ _ _ ⟨t,rfl⟩ ⟨t',rfl⟩ hq
  · obtain ⟨tp2,T2⟩:=T2;refine q x H3 hx (fun b o hb e=>g _ _ (B2 b o hb e)) ⟨tp2,g _ _ T2.tab,T2.tri,fun pos' cv hc=>?_⟩;obtain ⟨d,e1,e2⟩:=T2.cds pos' cv hc;exact ⟨d,e1,g _ _ e2⟩
  · obtain ⟨x,H3,I3,rx,hq⟩:=hs;exact ⟨x,H3,I3.unpinned,rx,hq⟩
end
end L2
namespace L2
open PySem PySem.Spec PyProof.Rows PySem.W
section
variable {X:Cx} {pins pl:List (Addr × Obj)} {σ:St} {H:Hp} {s:Shared}
theorem oZ {l Ia S:Addr} {xs:List V} {kf:Nat→List Int} {H:Hp} {Q:VK} (hh:X.A.handled=none) (hlI:l≠Ia) (hSI:S≠Ia)
    (hI0:X.s₀.heap.objs.size≤Ia) (hS0:X.s₀.heap.objs.size≤S) (hpI:∀ p∈X.pn++pins,p.1≠Ia) (hpS:∀ p∈X.pn++pins,p.1≠S) (hl:SqL X.K H l xs)
    (cmp:∀ i j k k' u u' pl s (Q:Value→Shared→Prop),xs[i]?=some k→xs[j]?=some k'→RelV k u→RelV k' u'→Inv X (pins++pl) σ H s→Q (.bool (HT.lexLt (kf i) (kf j))) s→wpAny (model X.prog X.w) X.A.in1 (richCompare .Lt u u') Q (fun _ _=>False) s)
    (hQ:∀ x,xs[ay kf (xs.length - 1)]?=some x→Q x H) :
    ∀ (r j:Nat) (s:Shared) (vb:Value) (xb:V) (c:Nat) (oI:Obj),xs.length - (j+1)=r→j+1≤xs.length→Inv X (pins++[(S,seqObj "list" #[vb,vb] c),(Ia,oI)]) σ H s→s.heap.IsListIter Ia l (j+1) →
      xs[ay kf j]?=some xb→RelV xb vb →
      codeAny (model X.prog X.w) X.A (.builtin "min.loop" ⟨[.ref Ia,.none,.ref S],[]⟩) (fun r s'=>match r with|.ok (.ret v)=>EP X pins σ Q v s'|.ok _=>False|.error e=>X.xe e s') s:=by
  have hname:(toString "min" ++ toString ".loop":String) = "min.loop":=by decide
  have unpin:∀ {pl H s},Inv X (pins++pl) σ H s→Inv X pins σ H s:=fun I=>I.pins_of fun p z=>I.pin p (aaa _ (aaz _ z));intro r
  induction r with
  | zero =>
    intro j s vb xb c oI hr hj I hit hxb rvb;have hin:j+1=xs.length:=by lia
    have nS:=I.at (pl:=[(S,seqObj "list" #[vb,vb] c),(Ia,oI)]) (.head _);obtain ⟨its,rl,pL,_⟩:=I.list hl;have W:=acr (prog:=X.prog) (w:=X.w) (A:=X.A.in1) hh Ia l hlI its.toArray;have hsz:its.toArray.size=xs.length:=by rw [aaf,rl.length]
    refine codeAny_builtin abh ?_;rw [abr aaC _];show wpAny _ X.A.in1 (seqItems? (.ref S) >>= _) _ _ _;refine wpAny_bind (wpAny_seqItems nS rfl ?_);show wpAny _ X.A.in1 (tryCatch (pyNext (.ref Ia)) _ >>= _) _ _ _;refine wpAny_bind (wpAny_tryCatch (W.done _ _ _ ⟨by rw [hsz,← hin];exact hit,pL.isList⟩ fun h' tk' hk'=>?_));have hk1:∀ b o,b≠Ia→s.heap.get? b=some o→h'.get? b=some o:=fun b o hb e=>hk' b o (by simpa using hb) e;have I1:Inv X (pins++[(S,seqObj "list" #[vb,vb] c)]) σ H { s with heap:=h',toks:=tk' }:=I.swap.turn0 hk1 hI0 hpI (fun p hp=>by rw [aar.mp hp];exact hSI);have hS':=I1.at (pl:=[(S,seqObj "list" #[vb,vb] c)]) (.head _);have s1:=aa6 h' S (aa5 fun _=>(#[]:Array Value));show wpAny _ X.A.in1 (updateSeq S (fun _=>#[]) >>= _) _ _ _;refine wpAny_bind ?_;refine wpAny_updateSeq hS' rfl (wpAny_bind (wpAny_letGo (wpAny_pure ?_)));have I2:=I1.turn0 (pl:=[]) (h':=h'.update S (aa5 fun _=>(#[]:Array Value))) (tk:=tk') (fun b ob hb e=>(s1.2 b hb).trans e) hS0 hpS (fun p hp=>by simp at hp);rw [ab4] at I2;refine ⟨xb,H,I2,rvb,hQ xb ?_⟩;rw [show xs.length - 1=j by lia];exact hxb
  | succ r ih =>
    intro j s vb xb c oI hr hj I hit hxb rvb;have hlt:j+1 < xs.length:=by lia
    have nS:=I.at (pl:=[(S,seqObj "list" #[vb,vb] c),(Ia,oI)]) (.head _);obtain ⟨its,rl,pL,_⟩:=I.list hl;have W:=acr (prog:=X.prog) (w:=X.w) (A:=X.A.in1) hh Ia l hlI its.toArray;have hsz:its.toArray.size=xs.length:=by rw [aaf,rl.length]
    refine codeAny_builtin abh ?_;rw [abr aaC _];show wpAny _ X.A.in1 (seqItems? (.ref S) >>= _) _ _ _;refine wpAny_bind (wpAny_seqItems nS rfl ?_);show wpAny _ X.A.in1 (tryCatch (pyNext (.ref Ia)) _ >>= _) _ _ _;refine wpAny_bind (wpAny_tryCatch (W.item (j+1) _ _ _ (by rw [hsz];exact hlt) ⟨hit,pL.isList⟩ fun v h' tk' hP hst' hk'=>?_));have hk1:∀ b o,b≠Ia→s.heap.get? b=some o→h'.get? b=some o:=fun b o hb e=>hk' b o (by simpa using hb) e;have hv:its[j+1]?=some v:=by simpa using hP
    obtain ⟨x,hx,rx⟩:∃ x,xs[j+1]?=some x∧RelV x v:=by
      have hxx:xs[j+1]?=some xs[j+1]:=aad hlt;obtain ⟨u,hu,ru⟩:=rl.get hxx;rw [hv] at hu;cases hu;exact ⟨_,hxx,ru⟩
    obtain ⟨oI',hoI',hoc,hod⟩:=id hst'.1;have I1:Inv X (pins++[(S,seqObj "list" #[vb,vb] c),(Ia,oI')]) σ H { s with heap:=h',toks:=tk' } :=
      (I.swap.turn1 hk1 hoI' (fun v z=>by rw [hod] at z;cases z) hI0 hpI (fun p hp=>by rw [aar.mp hp];exact hSI)).swap
    have nS2:=I1.at (pl:=[(S,seqObj "list" #[vb,vb] c),(Ia,oI')]) (.head _);have nI2:=I1.at (pl:=[(S,seqObj "list" #[vb,vb] c),(Ia,oI')]) (.tail _ (.head _));show wpAny _ X.A.in1 (tryCatch (holding [v,v] (richCompare .Lt v vb >>= _)) _ >>= _) _ _ _;refine wpAny_bind (wpAny_tryCatch (wpAny_holding (wpAny_bind (wpAny_mono (cmp (j+1) (ay kf j) x xb v vb _ _ (fun z s'=>z=.bool (HT.lexLt (kf (j+1)) (kf (ay kf j)))∧s'={ s with heap:=h',toks:=tk' }) hx hxb rx rvb I1 ⟨rfl,rfl⟩) (fun z s3 hz=>?_) fun _ _ hF=>hF.elim))));obtain ⟨rfl,rfl⟩:=hz;refine wpAny_bind (wpAny_holding (wpAny_truthy_bool ?_));refine wpAny_bind (wpAny_letGo (wpAny_pure ?_));by_cases hb':HT.lexLt (kf (j+1)) (kf (ay kf j))=true
    · have s1:=aa6 h' S (aa5 fun _=>#[v,v]);obtain ⟨c2,hc2⟩:∃ c2,(h'.update S (aa5 fun _=>#[v,v])).get? S=some (seqObj "list" #[v,v] c2):=⟨_,get?_update_seq nS2 fun _=>#[v,v]⟩
      simp only [hb',if_true];refine wpAny_bind ?_;refine wpAny_updateSeq nS2 rfl (wpAny_bind (wpAny_letGo ?_));rw [hname];have eb:ay kf (j+1)=j+1:=by conv=>lhs;unfold ay;rw [if_pos hb']
      have I3:Inv X (pins++[(S,seqObj "list" #[v,v] c2),(Ia,oI')]) σ H { s with heap:=h'.update S (aa5 fun _=>#[v,v]),toks:=tk' } :=
        I1.turn1 (fun b ob hb e=>(s1.2 b hb).trans e) hc2 (fun v z=>by cases z) hS0 hpS (fun p hp=>by rw [aar.mp hp];exact hSI.symm)
      refine wpAny_pure ⟨plainId_quiet aaC _,ih (j+1) _ v x c2 oI' (by lia) hlt I3 ⟨oI',(s1.2 Ia hSI.symm).trans nI2,hoc,hod⟩ (by rw [eb];exact hx) rx⟩
    · simp only [hb',abP,if_false];refine wpAny_bind (wpAny_letGo ?_);rw [hname];have eb:ay kf (j+1)=ay kf j:=by conv=>lhs;unfold ay;rw [if_neg hb']
      refine wpAny_pure ⟨plainId_quiet aaC _,ih (j+1) _ vb xb c oI' (by lia) hlt I1 ⟨oI',nI2,hoc,hod⟩ (by rw [eb];exact hxb) rvb⟩
theorem wA {l:Addr} {xs:List V} {kf:Nat→List Int} {Q:VK} (hh:X.A.handled=none) (I:Inv X pins σ H s) (hne:0 < xs.length)
    (hl:SqL X.K H l xs)
    (cmp:∀ i j k k' u u' pl s (Q:Value→Shared→Prop),xs[i]?=some k→xs[j]?=some k'→RelV k u→RelV k' u'→Inv X (pins++pl) σ H s→Q (.bool (HT.lexLt (kf i) (kf j))) s→wpAny (model X.prog X.w) X.A.in1 (richCompare .Lt u u') Q (fun _ _=>False) s)
    (hQ:∀ x,xs[ay kf (xs.length - 1)]?=some x→Q x H) :
    wpAny (model X.prog X.w) X.A (call (.builtin "min") [.ref l]) (EP X pins σ Q) X.xe s:=by
  have hname:(toString "min" ++ toString ".loop":String) = "min.loop":=by decide
  obtain ⟨its,rl,pL,_⟩:=I.list hl;have hls:=pL.isList;obtain ⟨ol,hol,_⟩:=id hls;have hll:l < s.heap.objs.size:=aag hol;refine call_function_tree PySem.F.kind_min PySem.F.plain_min PySem.F.entry_min (PySem.F.args_min1 _) ?_;show wpAny _ X.A.in1 (abv "min" ["key","default"] 0 ⟨[],[]⟩ >>= _) _ _ s;refine wpAny_bind (wpAny_of_eq (show abv "min" ["key","default"] 0 ⟨[],[]⟩=pure [none,none] from rfl) ?_);refine wpAny_bind (wpAny_pure ?_);refine wpAny_bind (wpAny_pyIter_list hls ?_);refine wpAny_bind (wpAny_newList ?_ (aaR _));rw [hname];have hS:(s.heap.push { cls:=.type "list_iterator",data:=.fields #[.ref l,.int 0 0] }).objs.size=s.heap.objs.size+1:=size_push' ..;have hlI:l≠s.heap.objs.size:=aas hll;have hSI:(s.heap.push { cls:=.type "list_iterator",data:=.fields #[.ref l,.int 0 0] }).objs.size≠s.heap.objs.size:=by rw [hS];exact aaO (abX _)
  have gI:((s.heap.push { cls:=.type "list_iterator",data:=.fields #[.ref l,.int 0 0] }).push (seqObj "list" #[] 0)).get? s.heap.objs.size=some { cls:=.type "list_iterator",data:=.fields #[.ref l,.int 0 0] } :=
    aac _ (aap _ rfl)
  have gS:((s.heap.push { cls:=.type "list_iterator",data:=.fields #[.ref l,.int 0 0] }).push (seqObj "list" #[] 0)).get? (s.heap.push { cls:=.type "list_iterator",data:=.fields #[.ref l,.int 0 0] }).objs.size=some (seqObj "list" #[] 0):=aap _ rfl;have kk:∀ b u,s.heap.get? b=some u→((s.heap.push { cls:=.type "list_iterator",data:=.fields #[.ref l,.int 0 0] }).push (seqObj "list" #[] 0)).get? b=some u:=fun b u e=>aac _ (aac _ e);have hI0:X.s₀.heap.objs.size≤s.heap.objs.size:=I.sz;have hS0:X.s₀.heap.objs.size≤(s.heap.push { cls:=.type "list_iterator",data:=.fields #[.ref l,.int 0 0] }).objs.size:=by rw [hS];exact Nat.le_succ_of_le I.sz
  have hpI:∀ p∈X.pn++pins,p.1≠s.heap.objs.size:=fun p hp=>aas (aag (I.pin p hp).1);have hpS:∀ p∈X.pn++pins,p.1≠(s.heap.push { cls:=.type "list_iterator",data:=.fields #[.ref l,.int 0 0] }).objs.size:=fun p hp=>by rw [hS];exact aas (abk (aag (I.pin p hp).1))
  have I0:Inv X (pins++[((s.heap.push { cls:=.type "list_iterator",data:=.fields #[.ref l,.int 0 0] }).objs.size,seqObj "list" #[] 0),(s.heap.objs.size,{ cls:=.type "list_iterator",data:=.fields #[.ref l,.int 0 0] })]) σ H
      { s with heap:=(s.heap.push { cls:=.type "list_iterator",data:=.fields #[.ref l,.int 0 0] }).push (seqObj "list" #[] 0),toks:=s.toks }:=by
    refine (I.kept (t':=s.toks) kk).pins_of fun p hp=>?_;rcases aau.mp hp with hp|hp
    · exact (I.kept (t':=s.toks) kk).pin p (aaa _ hp)
    · rcases aai.mp hp with rfl|hp
      · refine ⟨gS,I.hok.fresh (by rw [hS];exact abT _),?_,I.nofs (by rw [hS];exact abT _),fun v z=>by cases z⟩;rw [hS];exact aaO (abk I.lt)
      · rw [aar.mp hp];exact ⟨gI,I.hok.fresh (aah _),aaO I.lt,I.nofs (aah _),fun v z=>by cases z⟩
  refine wpAny_pure ⟨plainId_quiet aaC _,?_⟩;have W:=acr (prog:=X.prog) (w:=X.w) (A:=X.A.in1) hh s.heap.objs.size l hlI its.toArray;have hsz:its.toArray.size=xs.length:=by rw [aaf,rl.length]
  refine codeAny_builtin abh ?_;rw [abr aaC _];show wpAny _ X.A.in1 (seqItems? (.ref _) >>= _) _ _ _;refine wpAny_bind (wpAny_seqItems gS rfl ?_);show wpAny _ X.A.in1 (tryCatch (pyNext (.ref s.heap.objs.size)) _ >>= _) _ _ _;refine wpAny_bind (wpAny_tryCatch (W.item 0 _ _ _ (by rw [hsz];exact hne) ⟨⟨_,gI,rfl,rfl⟩,hls.at fun o e=>kk _ o e⟩ fun v h' tk' hP hst' hk'=>?_));have hv:its[0]?=some v:=by simpa using hP
  obtain ⟨x,hx,rx⟩:∃ x,xs[0]?=some x∧RelV x v:=by
    have hxx:xs[0]?=some xs[0]:=aad hne;obtain ⟨u,hu,ru⟩:=rl.get hxx;rw [hv] at hu;cases hu;exact ⟨_,hxx,ru⟩
  obtain ⟨oI',hoI',hoc,hod⟩:=id hst'.1;have I1:=(I0.swap.turn1 (h':=h') (tk:=tk') (fun b ob hb e=>hk' b ob (by simpa using hb) e) hoI' (fun v z=>by rw [hod] at z;cases z) hI0 hpI (fun p hp=>by rw [aar.mp hp];exact hSI)).swap;generalize (s.heap.push { cls:=.type "list_iterator",data:=.fields #[.ref l,.int 0 0] }).objs.size=S at hSI hS0 hpS I1 ⊢;generalize s.heap.objs.size=Ia at hlI hSI hI0 hpI I1 hst' hoI' ⊢;have nS2:=I1.at (pl:=[(S,seqObj "list" #[] 0),(Ia,oI')]) (.head _);have nI2:=I1.at (pl:=[(S,seqObj "list" #[] 0),(Ia,oI')]) (.tail _ (.head _));have s1:=aa6 h' S (aa5 fun _=>#[v,v]);obtain ⟨c2,hc2⟩:∃ c2,(h'.update S (aa5 fun _=>#[v,v])).get? S=some (seqObj "list" #[v,v] c2):=⟨_,get?_update_seq nS2 fun _=>#[v,v]⟩
  show wpAny _ X.A.in1 (updateSeq S (fun _=>#[v,v]) >>= _) _ _ _;refine wpAny_bind ?_;refine wpAny_updateSeq nS2 rfl ?_;rw [hname];have I3:Inv X (pins++[(S,seqObj "list" #[v,v] c2),(Ia,oI')]) σ H { s with heap:=h'.update S (aa5 fun _=>#[v,v]),toks:=tk' } :=
    I1.turn1 (fun b ob hb e=>(s1.2 b hb).trans e) hc2 (fun v z=>by cases z) hS0 hpS (fun p hp=>by rw [aar.mp hp];exact hSI.symm)
  refine wpAny_pure ⟨plainId_quiet aaC _,?_⟩;exact oZ hh hlI hSI hI0 hS0 hpI hpS hl cmp hQ _ 0 _ v x c2 oI' rfl hne I3 ⟨oI',(s1.2 Ia hSI.symm).trans nI2,hoc,hod⟩ hx rx
end
section
variable {X:Cx}
def gH (p:Int × Int):List Int:=[p.1,p.2]
theorem pU (hr:Room 1 X.A):cz X (.builtin "min") (fun xs H Q=>∃ l us ps,xs=[.ref l]∧H l=some (.lst us)∧PairsIn H ps us∧0 < us.length∧∀ x,us[ay (bT gH ps) (us.length - 1)]?=some x→Q x H):=by
  intro pins s σ H xs us0 Q I r h;obtain ⟨l,us,ps,rfl,el,hps,hne,q⟩:=h;obtain ⟨u1,rfl,ru⟩:∃ u,us0=[u]∧RelV (.ref l) u:=by
    cases r with
    | cons a b=>cases b;exact ⟨_,rfl,a⟩
  cases ru;refine wA (kf:=bT gH ps) hr.hd I hne (SqL.of el) (fun i j k k' u u' pl s3 Q' hk hk' rk rk' I3 hq=>?_) q;obtain ⟨p,hp,a,rfl,ea⟩:=bX hps hk;obtain ⟨p',hp',a',rfl,ea'⟩:=bX hps hk';have e1:bT gH ps i=[p.1,p.2]:=by unfold bT;rw [hp];rfl
  have e2:bT gH ps j=[p'.1,p'.2]:=by unfold bT;rw [hp'];rfl
  rw [e1,e2] at hq;cases rk;cases rk';obtain ⟨its,r1,p1,_⟩:=I3.tuple (SqT.of ea);obtain ⟨its2,r2,p2,_⟩:=I3.tuple (SqT.of ea');exact HT.lt_tupInts p1 p2 (eQ (ns:=[p.1,p.2]) r1) (eQ (ns:=[p'.1,p'.2]) r2) hr.in1.units0 hq
end
end L2
namespace L2
open PySem PySem.Spec PyProof.Rows PySem.W
structure FunC (K:aab) (x qual:Str) (st:Stmt) (f:Addr) (fd:FuncData) (c:Addr):Prop where
  ex:∃ (oc:Value) (od:Option Addr) (kV doc pm:Value) (an:Option Addr) (ct:Value) (osl:Array (Option Value)),
    fd=aaQ x qual (bo st) (aV st) (ag st) .none kV doc pm an (.ref c) ct∧K.lookup f=some ⟨oc,od,.func fd,osl⟩∧abf K (.ref c) qual=true
  kp:aaS K (.ref f)=true
section
variable {P:Program} {w:World} {K:aab} {mg:Str→Option Value} {base:Heap}
theorem FunC.ok {x qual:Str} {st:Stmt} {f:Addr} {fd:FuncData} {N ps:List Str} {k:Nat} {sp:Sp} {c:Addr} (F:FunC K x qual st f fd c) (S:FnScope N ps (ag st)) (len:∀ vs H Q E,sp vs H Q E→vs.length=ps.length)
    (hbody:∀ (A:Around) (outer:List Env) (s:Shared) (H:Hp) (vs:List V) (Q:VK) (E:XK),Room k (A.deeper (envOfC qual (ag st) s.heap.objs.size f (.ref c)))→sp vs H Q E →
      ∃ t,PSs (fH CX0 P w K mg base N qual (ag st) f (.ref c) A outer s H E).nox (aV st) t∧t { nx:=fun _ H'=>Q .non H',rt:=Q } (start N vs) H):FnOk P w K mg base CX0 (k+1) f fd ps sp:=by
  obtain ⟨oc,od,kV,doc,pm,an,ct,osl,rfl,lk,hcd⟩:=F.ex;refine om lk hcd S len fun A outer s H vs Q E hr hsp=>?_;obtain ⟨t,h,q⟩:=hbody A outer s H vs Q E hr hsp;exact ⟨t,h.nox,q⟩
theorem sN {x qual:Str} {st:Stmt} {f c:Addr} {oc:Value} {od an:Option Addr} {osl:Array (Option Value)} {kV doc pm ct:Value} (l:K.lookup f=some ⟨oc,od,.func (aaQ x qual (bo st) (aV st) (ag st) .none kV doc pm an (.ref c) ct),osl⟩)
    (h:abf K (.ref c) qual=true) (k:aaS K (.ref f)=true):FunC K x qual st f (aaQ x qual (bo st) (aV st) (ag st) .none kV doc pm an (.ref c) ct) c:=⟨⟨oc,od,kV,doc,pm,an,ct,osl,rfl,l,h⟩,k⟩
end
open PySem PySem.Spec PyProof.Rows
theorem o_ {T c:Addr} {qual:Str} {P:Program} {w:World} {K:aab} {mg mb:Str→Option Value} {CX:CXT} {k:Nat} {fa a:Addr} {fd:FuncData} {x:Str} {sp:Sp} {s₁:Shared} {vs:List Value} {ns:List Int}
    (KX:K.In s₁.heap) (hns:s₁.heap.Ns mainGlobals mg) (hb:s₁.heap.Ns builtinsNs mb) (hbb:∀ x:Str,x ≠ "__name__"→mb x=bootBuiltins x) (hlim:s₁.heap.NoLimit) (hsm:∃ mm,s₁.heap.Ns sysModules mm) (hg:s₁.gens=#[])
    (ha:s₁.heap.get? a=some { cls:=.type "list",data:=.seq vs.toArray }) (hi:IntsAre vs ns) (hl:ns.length≤sizeLine) (hr:Room k callerA)
    (hT:s₁.heap.get? T=some (PySem.W.tabObj #[])) (hTc:s₁.heap.TableAt c T #[]) (hKT:K.lookup T=none) (hBT:s₁.heap.BuiltinsAt mg T)
    (F:∀ base:Heap,K.In base→base.Ns mainGlobals mg→base.BuiltinsAt mg T→FnOk P w K mg base CX k fa fd [x] sp) (hbind:∀ (s:Shared) (u:Value),BindsTo s fd ⟨[u],[]⟩ [(x,u)])
    (hsp:∀ H:Hp,LTab T qual H #[]→SqL K H a (ns.map V.int)→sp [.ref a] H (fun v _=>v=.bl true) fun _ _ _=>False)
    (hCX:∀ H e s',CX [] H s₁ (fun _ _ _=>False) e s'→False) :
    codeAny (model P w) callerA (.call (.ref fa) ⟨[.ref a],[]⟩) (fun r s'=>r=.ok (.ret (.bool true))∧OldK s₁.heap s'.heap∧s'.os=s₁.os∧AllBare s'.gens) s₁:=by
  have rv:=jn hi;have lenV:=hi.length;have nTa:T≠a:=fun e=>by rw [e,ha] at hT;cases hT
  have core:∀ H0:Hp,wQ H0→SqL K H0 a (ns.map V.int)→HOk P w H0 s₁.heap→(∀ b,H0 b≠none→b=a)→(H0 a≠none→K.lookup a=none) →
      codeAny (model P w) callerA (.call (.ref fa) ⟨[.ref a],[]⟩) (fun r s'=>r=.ok (.ret (.bool true))∧OldK s₁.heap s'.heap∧s'.os=s₁.os∧AllBare s'.gens) s₁:=by
    intro H0 hO hS0 hok0 hA0 hK0;have h0T:H0 T=none:=by
      cases q:H0 T with
      | none=>rfl
      | some u=>exact absurd (hA0 T (by rw [q];simp)) nTa
    obtain ⟨H,eH⟩:∃ H:Hp,H=upd H0 T (.tbl #[]):=⟨_,rfl⟩
    have eT:H T=some (.tbl #[]):=by rw [eH,ac]
    have eN:∀ b,b≠T→H b=H0 b:=fun b hb=>by rw [eH,aj hb]
    have eS:∀ b o,H0 b=some o→H b=some o:=fun b o e=>by rw [eN b (ap e h0T)];exact e
    have hok:HOk P w H s₁.heap:=fun b o e=>by
      by_cases hb:b=T
      · subst hb;rw [eT] at e;cases e;exact hT
      · rw [eN b hb] at e;exact (hok0 b o e).stay (fun _ _ _ q=>q) (fun d q=>eS d _ q) fun d xs q=>eS d _ q
    have hS:SqL K H a (ns.map V.int):=by
      rcases hS0 with (h|⟨o,h⟩)|h
      · exact .inl (.inl (eS _ _ h))
      · exact .inl (.inr ⟨o,eS _ _ h⟩)
      · exact .inr h
    have hA:∀ b,H b≠none→b=a∨b=T:=fun b h=>by
      by_cases hb:b=T
      · exact .inr hb
      · rw [eN b hb] at h;exact .inl (hA0 b h)
    have base_of:∀ {b:Addr} {o:Obj},s₁.heap.get? b=some o→H b=none→(ji s₁.heap H).get? b=some o:=fun e n=>qY e n;have noB:∀ {b:Addr} {o:Obj},s₁.heap.get? b=some o→o.cls≠.none→(∀ its n,o.data≠.seq its n)→H b=none:=fun {b o} e d1 d2=>by
      cases q:H b with
      | none=>rfl
      | some u =>
        rcases hA b (by rw [q];simp) with z|z
        · subst z;rw [ha] at e;cases e;exact absurd rfl (d2 _ _)
        · subst z;rw [hT] at e;cases e;exact absurd rfl d1
    have noA:∀ {b:Addr} {o:Obj} {es:Array DictEntry} {ep:Nat},s₁.heap.get? b=some o→o.data=.dict es ep→H b=none:=fun {b o es ep} e d=>by
      cases q:H b with
      | none=>rfl
      | some u =>
        rcases hA b (by rw [q];simp) with z|z
        · subst z;rw [ha] at e;cases e;cases d
        · subst z;rw [hT] at e;cases e;cases d
    have nsK:∀ {b:Addr} {m:Str→Option Value},s₁.heap.Ns b m→(ji s₁.heap H).Ns b m:=fun {b m} ⟨o,es,ep,e,d,r⟩=>⟨o,es,ep,base_of e (noA e d),d,r⟩
    have hKb:K.In (ji s₁.heap H):=fun b o e=>base_of (KX b o e) (by
      cases q:H b with
      | none=>rfl
      | some u =>
        rcases hA b (by rw [q];simp) with z|z
        · subst z;rw [eN b nTa.symm] at q;rw [hK0 (by rw [q];simp)] at e;cases e
        · subst z;rw [hKT] at e;cases e)
    have hBb:(ji s₁.heap H).BuiltinsAt mg T:=by
      obtain ⟨bm,ob,b1,b2,b3,b4,b5,b6,b7,b8⟩:=hBT;exact ⟨bm,ob,b1,b2,b3,b4,base_of b5 (noB b5 (by rw [b6];simp) (fun its n z=>by rw [b8] at z;cases z)),b6,b7,b8⟩
    have hM:Mod K mg (ji s₁.heap H):=⟨hKb,nsK hns,⟨mb,nsK hb,hbb⟩,let ⟨mc,h1,h2⟩:=hlim;⟨mc,nsK h1,h2⟩,let ⟨mm,h1⟩:=hsm;⟨mm,nsK h1⟩⟩
    have e0:Env0 P w K mg (ji s₁.heap H) callerA [] s₁ H:=⟨rfl,hM,fun b o e=>sx e,Nat.le_of_eq (pF _ _),trivial,fun b hb=>absurd (show b∈([]:List Addr) from hb) (by simp),hok,.of_eq hg⟩
    have hL:LTab T qual H #[]:=⟨eT,trivial,fun pos cv z=>by cases z⟩
    refine codeAny_mono ((F _ hKb (nsK hns) hBb).run callerA [] s₁ H ⟨[.ref a],[]⟩ [.ref a] [.ref a] _ _ hr e0 (hbind s₁ (.ref a)) (.cons rfl .nil) (hsp H hL hS)) fun r s' h=>?_;cases r with
    | error e=>exact (hCX H e s' h).elim
    | ok fl =>
      cases fl with
      | next=>exact aa7 h
      | brk=>exact aa7 h
      | cont=>exact aa7 h
      | ret u =>
        obtain ⟨v,H',os,bare,un,hok',r',q⟩:=h;have q':v=.bl true:=q;subst q';obtain rfl:u=Value.bool true:=r';refine ⟨rfl,⟨fun b o e=>?_,fun b o e=>un.there b o e (by simp)⟩,os,bare⟩;by_cases hbT:b=T
        · subst hbT;rw [hT] at e;cases e;obtain ⟨more,e2⟩:=un.tbls b #[] eT;have e3:s'.heap.get? b=some (PySem.W.tabObj (#[]++more)):=hok' b _ e2;exact .inr (.inl ⟨hTc.isCodeTable,rfl,#[],more,rfl,e3⟩)
        · cases q:H b with
          | none=>exact .inl (un.keep b o e q (by intro z;exact absurd (show b∈([]:List Addr) from z) (by simp)) (by simp))
          | some u =>
            rw [eN b hbT] at q;rcases hO b with z|⟨ob,xs,z⟩
            · rw [q] at z;cases z
            · have z2:=un.frzs b ob _ (eS _ _ z);obtain ⟨e1,_⟩:=hok0 b _ z;obtain ⟨e2,_⟩:=hok' b _ z2;rw [e] at e1;cases e1;exact .inl e2
  cases hk:K.lookup a with
  | some o =>
    have e:=KX a o hk;rw [ha] at e;cases e;refine core (fun _=>none) (fun _=>.inl rfl) (.inr ⟨_,vs.toArray,_,hk,rfl,rfl,rfl,by rw [aaf,lenV];exact hl,by simpa using rv⟩) (fun b u z=>by have z':(none:Option HO)=some u:=z;cases z') (fun b z=>absurd rfl z) fun z=>absurd rfl z
  | none =>
    refine core (fun b=>if b=a then some (.frz { cls:=.type "list",data:=.seq vs.toArray } (.lst (ns.map V.int))) else none) (fun b=>?_) (.inl (.inr ⟨{ cls:=.type "list",data:=.seq vs.toArray },if_pos rfl⟩)) (fun b u z=>?_) (fun b z=>?_) fun _=>hk
    · by_cases hb:b=a
      · exact .inr ⟨_,_,if_pos hb⟩
      · exact .inl (if_neg hb)
    · by_cases hb:b=a
      · have z':=(if_pos hb).symm.trans z;cases z';subst hb;exact ⟨ha,by rw [aak];exact hl,vs,_,rv,ha⟩
      · have z':=(if_neg hb).symm.trans z;cases z'
    · by_cases hb:b=a
      · exact hb
      · exact absurd (if_neg hb) z
theorem walk_ofT {T c:Addr} {qual:Str} {l:PySem.W.OpenLaw} {n k:Nat} {q:Program} {loose:List Str} {XP:(Str→Option Value)→Heap→Prop} {YP:World→Heap→Prop} {d:DefRec} {K:Params→aab} {CX:World→CXT} {sp:World→Sp} {x:Str}
    (hn:l.most=some n) (hn2:n≤sizeLine) (hdf:d.params.defaults=[]) (hr:Room k callerA) (hi:PyProof.Rows.importsNone q=true)
    (hY:∀ (w:World) (h:Heap),YP w h→(K w.params).In h∧h.get? T=some (PySem.W.tabObj #[])) (hC:∀ w:World,PySem.W.codeHdIn (K w.params) c T=true) (hKT:∀ w:World,(K w.params).lookup T=none)
    (F:∀ (w:World) (mg:Str→Option Value) (fa:Addr) (h:Heap),(K w.params).In h→h.Ns mainGlobals mg→mg d.name=some (.ref fa) →
      ∃ fd:FuncData,(∀ (s:Shared) (u:Value),BindsTo s fd ⟨[u],[]⟩ [(x,u)]) ∧
        ∀ base:Heap,(K w.params).In base→base.Ns mainGlobals mg→base.BuiltinsAt mg T→FnOk l.prog w (K w.params) mg base (CX w) k fa fd [x] (sp w))
    (hsp:∀ (w:World) (H:Hp) (a:Addr) (ns:List Int),ns.length≤n→LTab T qual H #[]→SqL (K w.params) H a (ns.map V.int)→sp w [.ref a] H (fun v _=>v=.bl true) fun _ _ _=>False)
    (hCX:∀ (w:World) (H:Hp) (s:Shared) (e:Value) (s':Shared),CX w [] H s (fun _ _ _=>False) e s'→False) :
    PySem.W.WalkO q loose XP YP l.row.toRowW d [] (fun f vs=>PySem.call f vs):=by
  refine Att.attach_call hn hdf fun w s₀ s₁ mg mb fa o pm cd doc a vs ns G Y ho hd hcd hmg hobj hints hlen hg=>?_;obtain ⟨KX,hT⟩:=hY w _ Y;obtain ⟨fd,hb,hF⟩:=F w mg fa _ KX G.T.g hmg;have hTc:s₁.heap.TableAt c T #[]:=(PySem.W.codeHd_of_K KX (hC w)).tab hT;obtain ⟨bm,ob,b1,b2,b3,b4,b5,b6⟩:=G.T.bmain;have hBT:s₁.heap.BuiltinsAt mg T:=by
    refine ⟨bm,ob,b1,b2,fun z=>?_,fun z=>?_,b3,b4,b5,b6⟩
    · obtain ⟨o',es,ep,e,hd',_⟩:=G.T.g;rw [z,e] at b3;cases b3;rw [hd'] at b6;cases b6
    · rw [z,hT] at b3;cases b3;cases b4
  exact o_ (qual:=qual) KX G.T.g G.T.b G.T.builtins G.T.nolimit (let ⟨mm,h1,_⟩:=(G.T.seer hi).mods;⟨mm,h1⟩) hg hobj hints (aaK hlen hn2) hr hT hTc (hKT w) hBT hF hb (fun H hL hS=>hsp w H a ns hlen hL hS) fun H e s'=>hCX w H s₁ e s'
open PySem PySem.Spec PyProof.Rows
theorem uE {J:It} {n:Nat} {Kp:Hp→Prop} {item:Nat→V→Hp→Hp→Prop} (T:Trn J n Kp item) {cap:List (Option Nat)} {g:TG} {tt:TT} {wi2:TI} {g2:TG} {tt2:TT} {wi3:TI} {g3:TG} {tt3:TT} {te:TE} {σ:St} {H:Hp} {Q:VK} (Pv:Nat→List V→Hp→Prop) (h0:Pv 0 [] H) (hk:∀ i ys H,i≤n→Pv i ys H→Kp H)
    (hs:∀ i x ys H H',i < n→item i x H H'→Pv i ys H→∀ Nx:List V→Hp→Prop,(∀ ys' H2,Pv (i+1) ys' H2→Nx ys' H2)→g x (aG cap σ) H' fun σ2 H2=>tt σ2 H2 fun b H3=>if b=true then wi2 σ2 H3 (rQ g2 tt2 wi3 g3 tt3 te ys σ2 Nx) else Nx ys H3)
    (hd:∀ ys H,Pv n ys H→∀ p,H p=none→Q (.ref p) (upd H p (.lst ys))):tE cap g tt wi2 g2 tt2 wi3 g3 tt3 te σ Q J H:=by
  refine ⟨fun i m ys H=>m=n - i∧i≤n∧Pv i ys H,⟨n,by simp,aaR _,h0⟩,?_⟩;rintro i m ys H ⟨rfl,hi,p⟩;by_cases hlt:i < n
  · refine .inr ⟨T.go i H hlt (hk i ys H hi p),fun x H' y=>?_⟩;exact hs i x ys H H' hlt (T.yld i H x H' hlt (hk i ys H hi p) y) p (fun ys' H4=>∃ m',m' < n - i∧m'=n - (i+1)∧i+1≤n∧Pv (i+1) ys' H4) fun ys' H2 h=>⟨_,by lia,rfl,hlt,h⟩
  · have e:i=n:=by lia
    subst e;exact .inl ⟨T.stop H (hk _ ys H hi p),hd ys H p⟩
theorem sD {J:It} {n:Nat} {Kp:Hp→Prop} {item:Nat→V→Hp→Hp→Prop} (T:Trn J n Kp item) {g2:TG} {tt2:TT} {wi3:TI} {g3:TG} {tt3:TT} {te:TE} {ys:List V} {σ:St} {H:Hp} {Fin:List V→Hp→Prop} (Pv:Nat→List V→St→Hp→Prop) (h0:Pv 0 ys σ H) (hk:∀ i ys σ H,i≤n→Pv i ys σ H→Kp H)
    (hs:∀ i x ys σ H H',i < n→item i x H H'→Pv i ys σ H→∀ Nx:List V→St→Hp→Prop,(∀ ys' σ' H2,Pv (i+1) ys' σ' H2→Nx ys' σ' H2)→g2 x σ H' fun σ3 H5=>tt2 σ3 H5 fun b H6=>if b=true then wi3 σ3 H6 (kU g3 tt3 te ys σ3 Nx) else Nx ys σ3 H6)
    (hd:∀ ys σ H,Pv n ys σ H→Fin ys H):rQ g2 tt2 wi3 g3 tt3 te ys σ Fin J H:=by
  refine ⟨fun i m ys σ H=>m=n - i∧i≤n∧Pv i ys σ H,⟨n,by simp,aaR _,h0⟩,?_⟩;rintro i m ys σ H ⟨rfl,hi,p⟩;by_cases hlt:i < n
  · refine .inr ⟨T.go i H hlt (hk i ys σ H hi p),fun x H' y=>?_⟩;exact hs i x ys σ H H' hlt (T.yld i H x H' hlt (hk i ys σ H hi p) y) p (fun ys' σ' H4=>∃ m',m' < n - i∧m'=n - (i+1)∧i+1≤n∧Pv (i+1) ys' σ' H4) fun ys' σ' H2 h=>⟨_,by lia,rfl,hlt,h⟩
  · have e:i=n:=by lia
    subst e;exact .inl ⟨T.stop H (hk _ ys σ H hi p),hd ys σ H p⟩
theorem sC {J:It} {n:Nat} {Kp:Hp→Prop} {item:Nat→V→Hp→Hp→Prop} (T:Trn J n Kp item) {g2:TG} {tt2:TT} {te:TE} {ys:List V} {σ:St} {H:Hp} {Fin:List V→St→Hp→Prop} (Pv:Nat→List V→St→Hp→Prop) (h0:Pv 0 ys σ H) (hk:∀ i ys σ H,i≤n→Pv i ys σ H→Kp H∧ys.length < sizeLine)
    (hs:∀ i x ys σ H H',i < n→item i x H H'→Pv i ys σ H→∀ Nx:List V→St→Hp→Prop,(∀ ys' σ' H2,Pv (i+1) ys' σ' H2→Nx ys' σ' H2)→g2 x σ H' fun σ3 H5=>tt2 σ3 H5 fun b H6=>if b=true then te σ3 H6 fun v H7=>Nx (ys++[v]) σ3 H7 else Nx ys σ3 H6)
    (hd:∀ ys σ H,Pv n ys σ H→Fin ys σ H):kU g2 tt2 te ys σ Fin J H:=by
  refine ⟨fun i m ys σ H=>m=n - i∧i≤n∧Pv i ys σ H,⟨n,by simp,aaR _,h0⟩,?_⟩;rintro i m ys σ H ⟨rfl,hi,p⟩;by_cases hlt:i < n
  · refine .inr ⟨T.go i H hlt (hk i ys σ H hi p).1,(hk i ys σ H hi p).2,fun x H' y=>?_⟩;exact hs i x ys σ H H' hlt (T.yld i H x H' hlt (hk i ys σ H hi p).1 y) p (fun ys' σ' H4=>∃ m',m' < n - i∧m'=n - (i+1)∧i+1≤n∧Pv (i+1) ys' σ' H4) fun ys' σ' H2 h=>⟨_,by lia,rfl,hlt,h⟩
  · have e:i=n:=by lia
    subst e;exact .inl ⟨T.stop H (hk _ ys σ H hi p).1,hd ys σ H p⟩
open PySem PySem.Spec PyProof.Rows
def vi (K:aab) (neg:Bool):R2:=fun x y H Q=>∃ (p:Int × Int) (l:Addr) (us:List V) (ps:List (Int × Int)),PairIn H p x∧y=.ref l∧(SqL K H l us∨SqT K H l us)∧PairsIn H ps us∧Q (.bl (if neg then !decide (p∈ps) else decide (p∈ps))) H
theorem mJ {X:Cx} {K:aab} (hK:X.K=K) (hu:X.A.units+64 < cLine):OpR X (compareOp .NotIn) (vi K true):=by
  intro pins s σ H x y v u Q I rx ry h;obtain ⟨p,l,us,ps,hp,e,hq,hps,q⟩:=h;rcases hq with hq|hq
  · exact oN hK hu pins s σ H x y v u Q I rx ry ⟨p,l,us,ps,hp,e,hq,hps,q⟩
  · subst hK;subst e;cases ry;obtain ⟨its,r,pl,hz⟩:=I.tuple hq;obtain ⟨f,hf,ha⟩:=jy (p:=p) I hps r;refine SeqAt.notIn_tupleAt f pl (fun w hw=>?_) ⟨.bl _,H,I,rfl,?_⟩
    · obtain ⟨q',v',h1,h2,h3⟩:=hf w (by simpa using hw);rw [h3];exact (EqR.pair (K:=X.K) (n:=0) h1 hp).at I h2 rx (by show X.A.units+1+(0+1) < cLine;lia)
    · rw [show its.toArray.any f=its.any f by simp,ha];exact q
open PySem PySem.Spec PyProof.Rows
section
variable {prog:Program} {w:World} {A:Around} {E:Value→Shared→Prop} {s:Shared}
theorem kE (d:Addr) (hd:(d == sysModules)=false) :
    MeetsIn prog w (Builtin.«dict.items» ⟨[.ref d],[]⟩) (fun _ R s=>s.TypeIs (.ref d) "dict" ∧
      R (.ok (.ret (.ref s.heap.objs.size))) { s with heap:=s.heap.push { cls:=.type "dict_items",data:=.fields #[.ref d] } }) :=
  .of_wp fun A R s ⟨hm,h⟩=>by
    unfold Builtin.«dict.items»;refine wpAny_bind ?_;unfold Builtin.Dict.noArgs;refine wpAny_bind (wpAny_notOrdered_dict hm ?_);show wpAny _ _ (pure d) _ _ s;refine wpAny_pure ?_;show wpAny _ _ (abS d >>= _) _ _ s;unfold abS;rw [if_neg (by rw [hd];exact aae)];refine wpAny_bind (wpAny_pure ?_);exact wpAny_bind (wpAny_newObj_type (wpAny_pure ⟨_,rfl,h⟩))
theorem mZ {v d:Addr} {o:Obj} {es:Array DictEntry} {ep:Nat} {Q:Value→Shared→Prop} (hv:s.heap.IsItemsView v d) (ho:s.heap.get? d=some o) (hdat:o.data=.dict es ep)
    (hQ:Q (.ref s.heap.objs.size) { s with heap:=s.heap.push { cls:=.type "dict_itemiterator",data:=.fields #[.none,.bool false,.ref d,.int 0 0,.int es.size 0,.int ep 0,.none,.none] } }) :
    wpAny (model prog w) A (pyIter (.ref v)) Q E s:=by
  obtain ⟨ov,hov,hcv,hdv⟩:=id hv;refine wpAny_pyIter_slot hv.typeIs F.slot_dict_items_iter (wpAny_call_entry F.slot_dict_items_iter hv.typeIs F.entry_dict_items_iter ?_ (F.args_dict_items_iter_1 _));unfold Builtin.«dict_items.__iter__»;refine wpAny_bind (wpAny_pure ?_);refine wpAny_bind ?_;unfold Builtin.Dict_items.dictOf;refine wpAny_bind (wpAny_field hov hdv (x:=.ref d) rfl (wpAny_pure ?_));refine wpAny_bind ?_;unfold Builtin.Dict_items.newIterator;refine wpAny_bind (wpAny_dictEntries ho hdat ?_);refine wpAny_bind (wpAny_dictEpoch ho hdat ?_);have hown:aa4 "dict_itemiterator" = true:=by decide
  simp only [hown,if_true];refine wpAny_newObj_type (wpAny_pure ⟨_,rfl,"dict_itemiterator",_,⟨_,aap _ rfl,rfl⟩,F.slot_dict_itemiterator_next.lookup,?_⟩)
    (by simp only [sizeOk,abY,aaf,aan,aaD,aba,sizeLine_eq];lia)
  simpa [rawInt,abY] using hQ
theorem oV {it d:Addr} {i n ep:Nat} {od:Obj} {es:Array DictEntry} {e:DictEntry} {ok ov:Value} {Q:Option Value→Shared→Prop} (hit:IsItemIter s.heap it d i n ep ok ov) (hod:s.heap.get? d=some od) (hdd:od.data=.dict es ep) (hsz:es.size=n) (hx:es[i]?=some e)
    (hQ:∀ h',IsItemIterOut h' it d (i+1) n ep e.key e.val s.heap.objs.size →
      h'.get? s.heap.objs.size=some { cls:=.type "tuple",data:=.seq #[e.key,e.val] }→h'.objs.size=s.heap.objs.size+1 →
      (∀ b o,b≠it→s.heap.get? b=some o→h'.get? b=some o)→Q (some (.ref s.heap.objs.size)) { s with heap:=h' }) :
    wpAny (model prog w) A (pyNext (.ref it)) Q E s:=by
  obtain ⟨hp,g,dr,tk,os⟩:=s;have hT:Shared.TypeIs ⟨hp,g,dr,tk,os⟩ (.ref it) "dict_itemiterator":=⟨_,hit,rfl⟩
  unfold pyNext;refine wpAny_bind (wpAny_attempt (wpAny_callSpecial?_slot (name:=abu "__next__") hT abo
    (wpAny_call_entry abo hT F.entry_dict_itemiterator_next ?_ (acd _))))
  refine wpAny_bind (wpAny_pure ?_);refine wpAny_bind ?_;refine wpAny_bind ?_
  first|refine wpAny_bind (wpAny_typeNameOfWhole_itemiter hT (wpAny_pure ?_))|refine wpAny_bind (wpAny_typeNameOf_itemiter hT (wpAny_pure ?_))
  refine wpAny_bind (wpAny_fieldsOf hit rfl ?_);have hown:aa4 "dict_itemiterator" = true:=by decide
  simp only [hown,if_true];show wpAny _ _ (if (Value.ref d == Value.none)=true then _ else _) _ _ _;rw [if_neg (show ¬ ((Value.ref d == Value.none)=true) from aae)];refine wpAny_bind (wpAny_pure ?_);refine wpAny_bind (wpAny_dictEntries hod hdd ?_);rw [if_neg (by rw [hsz];simp)];refine wpAny_bind (wpAny_pure ?_);refine wpAny_bind (wpAny_dictEpoch hod hdd ?_);rw [if_neg (by simp)];refine wpAny_pure ?_;simp only [show ¬ ((i:Int) < 0) from by lia,if_false,acg,hx];refine wpAny_bind ?_
  first|refine wpAny_bind (wpAny_typeNameOfWhole_itemiter hT (wpAny_pure ?_))|refine wpAny_bind (wpAny_typeNameOf_itemiter hT (wpAny_pure ?_))
  refine wpAny_bind (wpAny_isOneOf_itemiter hT ?_);show wpAny _ _ (setField (.ref it) 3 (rawInt ((i:Int)+1)) >>= _) _ _ ⟨hp,g,dr,tk,os⟩;refine wpAny_bind (wpAny_setField_rec hit (by simp) fun h₁ he₁ hs₁=>?_)
  replace hs₁:abc it hp h₁:=hs₁
  replace he₁:IsItemIter h₁ it d (i+1) n ep ok ov:=by
    have e:((i+1:Nat):Int)=(i:Int)+1:=by lia
    unfold IsItemIter;rw [e];simpa [rawInt] using he₁
  have hT₁:Shared.TypeIs ⟨h₁,g,dr,tk,os⟩ (.ref it) "dict_itemiterator":=⟨_,he₁,rfl⟩
  refine wpAny_bind (wpAny_holding ?_);refine wpAny_bind (wpAny_isOneOf_itemiter hT₁ ?_);refine wpAny_bind (wpAny_isOneOf_itemiter hT₁ ?_);show wpAny _ _ (ab8 (.ref it) 6 e.key e.val) _ _ ⟨h₁,g,dr,tk,os⟩;unfold ab8;refine wpAny_bind (wpAny_newTuple ?_);have he₂:IsItemIter (h₁.push { cls:=.type "tuple",data:=.seq #[e.key,e.val] }) it d (i+1) n ep ok ov:=aac _ he₁;generalize hh₂:h₁.push { cls:=.type "tuple",data:=.seq #[e.key,e.val] }=h₂ at he₂;have hz₁:h₁.objs.size=hp.objs.size:=hs₁.1;have hil:it < hp.objs.size:=aag hit;have ht₂:h₂.get? hp.objs.size=some { cls:=.type "tuple",data:=.seq #[e.key,e.val] }:=by rw [← hh₂,← hz₁];exact aap _ rfl
  have hz₂:h₂.objs.size=hp.objs.size+1:=by rw [← hh₂,abM,hz₁]
  have hk₂:∀ b o,b≠it→hp.get? b=some o→h₂.get? b=some o:=fun b o hb e=>by rw [← hh₂];exact aac _ (hs₁.extBut b o hb e)
  show wpAny _ _ (abZ (.ref it) >>= _) _ _ ⟨h₂,g,dr,tk,os⟩;rw [hz₁];clear hh₂ he₁ hs₁ hT₁ hz₁ h₁;refine wpAny_bind ?_;unfold abZ;refine wpAny_bind (wpAny_field he₂ rfl (x:=.none) rfl (wpAny_pure ?_));simp only [if_true];refine wpAny_bind (wpAny_field he₂ rfl (x:=ok) rfl ?_);refine wpAny_bind (wpAny_field he₂ rfl (x:=ov) rfl ?_);refine wpAny_bind (wpAny_setField_rec he₂ (by simp) fun h₃ he₃ hs₃=>?_)
  replace hs₃:abc it h₂ h₃:=hs₃
  replace he₃:IsItemIter h₃ it d (i+1) n ep e.key ov:=he₃
  refine wpAny_bind (wpAny_setField_rec he₃ (by simp) fun h₄ he₄ hs₄=>?_)
  replace hs₄:abc it h₃ h₄:=hs₄
  replace he₄:IsItemIter h₄ it d (i+1) n ep e.key e.val:=he₄
  refine wpAny_bind (wpAny_setField_rec he₄ (by simp) fun h₅ he₅ hs₅=>?_)
  replace hs₅:abc it h₄ h₅:=hs₅
  replace he₅:IsItemIterOut h₅ it d (i+1) n ep e.key e.val hp.objs.size:=he₅
  refine wpAny_bind (wpAny_setField_rec he₅ (by simp) fun h₆ he₆ hs₆=>?_)
  replace hs₆:abc it h₅ h₆:=hs₆
  replace he₆:IsItemIterOut h₆ it d (i+1) n ep e.key e.val hp.objs.size:=he₆
  refine wpAny_bind (wpAny_letGo (wpAny_pure (wpAny_pure ⟨_,rfl,wpAny_pure (hQ h₆ he₆ ?_ ?_ ?_)⟩)))
  · exact hs₆.extBut _ _ (aaO hil) (hs₅.extBut _ _ (aaO hil) (hs₄.extBut _ _ (aaO hil) (hs₃.extBut _ _ (aaO hil) ht₂)))
  · show h₆.objs.size=hp.objs.size+1;rw [hs₆.1,hs₅.1,hs₄.1,hs₃.1,hz₂]
  · exact fun b o hb e=>hs₆.extBut b o hb (hs₅.extBut b o hb (hs₄.extBut b o hb (hs₃.extBut b o hb (hk₂ b o hb e))))
theorem mS {it d:Addr} {i n ep:Nat} {od:Obj} {es:Array DictEntry} {ok ov:Value} {Q:Option Value→Shared→Prop} (hh:A.handled=none) (hit:IsItemIter s.heap it d i n ep ok ov) (hod:s.heap.get? d=some od) (hdd:od.data=.dict es ep) (hsz:es.size=n) (hge:es.size≤i)
    (hQ:∀ h',Heap.ExtBut it s.heap h'→Q none { s with heap:=h' }):wpAny (model prog w) A (pyNext (.ref it)) Q E s:=by
  have hT:s.TypeIs (.ref it) "dict_itemiterator":=⟨_,hit,rfl⟩
  unfold pyNext;refine wpAny_bind (wpAny_attempt (wpAny_callSpecial?_slot (name:=abu "__next__") hT abo
    (wpAny_call_entry abo hT F.entry_dict_itemiterator_next ?_ (acd _))))
  refine wpAny_bind (wpAny_pure ?_);refine wpAny_bind ?_;refine wpAny_bind ?_
  first|refine wpAny_bind (wpAny_typeNameOfWhole_itemiter hT (wpAny_pure ?_))|refine wpAny_bind (wpAny_typeNameOf_itemiter hT (wpAny_pure ?_))
  refine wpAny_bind (wpAny_fieldsOf hit rfl ?_);have hown:aa4 "dict_itemiterator" = true:=by decide
  simp only [hown,if_true];show wpAny _ _ (if (Value.ref d == Value.none)=true then _ else _) _ _ s;rw [if_neg (show ¬ ((Value.ref d == Value.none)=true) from aae)];refine wpAny_bind (wpAny_pure ?_);refine wpAny_bind (wpAny_dictEntries hod hdd ?_);rw [if_neg (by rw [hsz];simp)];refine wpAny_bind (wpAny_pure ?_);refine wpAny_bind (wpAny_dictEpoch hod hdd ?_);rw [if_neg (by simp)];refine wpAny_pure ?_;simp only [show ¬ ((i:Int) < 0) from by lia,if_false,acg,aca hge];refine wpAny_bind ?_
  first|refine wpAny_bind (wpAny_typeNameOfWhole_itemiter hT (wpAny_pure ?_))|refine wpAny_bind (wpAny_typeNameOf_itemiter hT (wpAny_pure ?_))
  show wpAny _ _ (setField (.ref it) 2 .none >>= _) _ _ s;refine wpAny_bind (wpAny_setField hit rfl (by simp) ?_);show wpAny _ _ (newExc (.type "StopIteration") [] >>= _) _ _ _;refine wpAny_bind ?_;simp only [newExc,newTuple];refine wpAny_bind (wpAny_newObj_type ?_ (by size_fits));refine wpAny_bind (m:=firstArgMember _ _) (wpAny_of_eq (a:=Value.none) (by first|rfl|(simp only [firstArgMember];rfl)) ?_);refine wpAny_newObj_type ?_ (by size_fits);simp only [raiseNew];refine wpAny_bind (wpAny_handled ?_);rw [show A.in1.handled=none from hh];refine wpAny_bind (wpAny_pure (wpAny_throw ?_));refine wpAny_bind (wpAny_isInstance (T:="StopIteration") (b:=true) ⟨_,aap _ rfl,rfl⟩ isSubtype_stop ?_);exact wpAny_pure (hQ _ (((aa6 ..).extBut.push _).push _))
end
def qq (kvs:List (List Key × V)):Nat→V→V→Hp→Prop:=fun i k y H=>∃ kv b,kvs[i]?=some kv∧k=.ref b∧y=kv.2∧H b=some (.tup (kv.1.map kV))
def qr (kvs:List (Key × V)):Nat→V→V→Hp→Prop:=fun i k y _=>∃ kv,kvs[i]?=some kv∧k=kV kv.1∧y=kv.2
def Iti (d:Addr) (o:Obj) (u:HO) (n:Nat) (rw:Nat→V→V→Hp→Prop):It :=
  ⟨fun i H=>H d=some (.frz o u)∧i < n,fun i H x H'=>∃ p k y,H p=none∧x=.ref p∧H'=upd H p (.tup [k,y])∧rw i k y H,fun i H=>H d=some (.frz o u)∧n≤i⟩
def Ent (P:Program) (w:World) (d:Addr) (o:Obj) (u:HO) (n:Nat) (rw:Nat→V→V→Hp→Prop) (es:Array DictEntry) (ep:Nat):Prop :=
  o.data=.dict es ep∧es.size=n∧∀ H h,HOk P w H h→H d=some (.frz o u)→h.get? d=some o∧∀ i e,es[i]?=some e→∃ k y,RelV k e.key∧RelV y e.val∧rw i k y H
theorem tq {P:Program} {w:World} {H:Hp} {h:Heap} {d:Addr} {o:Obj} {kvs:List (List Key × V)} (ok:HOk P w H h) (e:H d=some (.frz o (.dT kvs))) :
    h.get? d=some o∧o.ExactDict∧(d == sysModules)=false∧∃ es ep,Ent P w d o (.dT kvs) kvs.length (qq kvs) es ep:=by
  obtain ⟨ho,z,hs,xs,rel,o2,es,ep,ho2,c,dat,_⟩:=(show ObjOk P w H h d (.frz o (.dT kvs)) from ok d _ e)
  rw [ho] at ho2;cases ho2;obtain ⟨_,_,_,hsz,_⟩:=iL ok e dat;refine ⟨ho,c,hs,es,ep,dat,hsz,fun H h ok e=>?_⟩;obtain ⟨ho,_,_,hsz,xs,rel,l⟩:=iL ok e dat;refine ⟨ho,fun i en he=>?_⟩;have lx:=aa9 rel;have hi:i < es.size:=by
    rcases Nat.lt_or_ge i es.size with h|h
    · exact h
    · rw [aca h] at he;cases he
  have hx:xs[i]?=some xs[i]:=aad (by lia);have hkv:kvs[i]?=some kvs[i]:=aad (by lia);rw [entry_at l i,hx] at he;have he:entryOfKey (tupleKind (aD P w)) xs[i]=en:=aaM he;subst he;have r:=Paired.nth rel i _ _ hkv hx;exact ⟨.ref xs[i].2.1,kvs[i].2,rfl,r.2.2,_,_,hkv,rfl,rfl,r.2.1⟩
theorem jw {P:Program} {w:World}:∀ {es:List DictEntry} {vs:List (Key × Value)},Pairs (aD P w) es vs→∀ {i:Nat} {e:DictEntry},es[i]?=some e→∃ kv,vs[i]?=some kv∧(aD P w).is kv.1 e.key=true∧e.val=kv.2
  | _,_,.nil,i,e,h=>by simp at h
  | _,_,.cons a b c,0,e,h=>by simp at h;subst h;exact ⟨_,rfl,a,b⟩
  | _,_,.cons a b c,i+1,e,h=>by simpa using jw c (by simpa using h)
theorem tu {P:Program} {w:World} {H:Hp} {h:Heap} {d:Addr} {o:Obj} {kvs:List (Key × V)} (ok:HOk P w H h) (e:H d=some (.frz o (.dK kvs))) :
    h.get? d=some o∧o.ExactDict∧(d == sysModules)=false∧∃ es ep,Ent P w d o (.dK kvs) kvs.length (qr kvs) es ep:=by
  obtain ⟨ho,z,hs,vs,rel,o2,es,ep,ho2,c,dat,ks,pr,nd⟩:=(show ObjOk P w H h d (.frz o (.dK kvs)) from ok d _ e)
  rw [ho] at ho2;cases ho2;have lv:=aa9 rel;have hsz:es.size=kvs.length:=by rw [← Array.length_toList,pr.length];lia
  refine ⟨ho,c,hs,es,ep,dat,hsz,fun H h ok e=>?_⟩;obtain ⟨ho,z,hs,vs,rel,o2,es2,ep2,ho2,c,dat2,ks,pr,nd⟩:=(show ObjOk P w H h d (.frz o (.dK kvs)) from ok d _ e)
  rw [ho] at ho2;cases ho2;rw [dat] at dat2;cases dat2;refine ⟨ho,fun i en he=>?_⟩;obtain ⟨kv,e1,e2,e3⟩:=jw pr (i:=i) (e:=en) (by simpa using he);have hi:i < vs.length:=(aaj.mp e1).1;have lv:=aa9 rel;have hkv:kvs[i]?=some kvs[i]:=aad (by lia);have r:=Paired.nth rel i _ _ hkv e1;refine ⟨kV kvs[i].1,kvs[i].2,?_,by rw [e3];exact r.2,_,hkv,rfl,rfl⟩;rw [r.1];rcases a5 e2 with ⟨j,t,q1,q2⟩|⟨x,t,q1,q2⟩
  · rw [q1,q2];exact ⟨t,rfl⟩
  · rw [q1,q2];exact ⟨t,rfl⟩
theorem mr {P:Program} {w:World} {K:aab} {elts:List Expr} {k:Nat} {pos:Pos} (d it:Addr) (hdi:d≠it) (o:Obj) (u:HO) (n:Nat) (rw:Nat→V→V→Hp→Prop) (es:Array DictEntry) (ep:Nat) (hE:Ent P w d o u n rw es ep) :
    Turn P w K (.Tuple elts k pos) (Iti d o u n rw) [it] it (fun i h=>∃ ok ov,IsItemIter h it d i n ep ok ov) where
  mem:=by simp
  obj:=fun i h st b hb=>by
    have e:b=it:=by simpa using hb
    subst e;obtain ⟨ok,ov,e⟩:=st;exact ⟨_,e,fun v z=>by cases z⟩
  keep:=fun i h h' st k=>by
    obtain ⟨ok,ov,e⟩:=st;exact ⟨ok,ov,k it (by simp) _ e⟩
  item:=by
    intro X hP hw hK hc i pins s σ H E I hf st hg;subst hP hw hK;obtain ⟨e,hlt⟩:=hg;obtain ⟨dat,hsz,hE⟩:=hE;obtain ⟨ho,hE⟩:=hE H s.heap I.hok e;obtain ⟨f0,f1,f2,f3,f4,f5⟩:=hf it (by simp);obtain ⟨ok,ov,hit⟩:=st;have hx:es[i]?=some es[i]:=Array.getElem?_eq_getElem (by lia);obtain ⟨kx,y,r1,r2,r3⟩:=hE i _ hx;have hilt:it < s.heap.objs.size:=aag hit;refine oV hit ho dat hsz hx fun h' hit' hT hz hk=>?_;refine ⟨_,rfl,wpAny_letOwnedTupleGo_items hit' fun h'' he' hs'=>?_⟩;have hs2:abc it h' h'':=hs';have keep:∀ b o,b∉[it]→s.heap.get? b=some o→h''.get? b=some o:=fun b o hb q=>by
      have b1:b≠it:=fun z=>hb (by simp [z]);exact (hs2.2 b b1).trans (hk b o b1 q)
    have I1:Inv X pins σ H { s with heap:=h'',toks:=s.toks }:=I.turnedL keep hf;have gT:h''.get? s.heap.objs.size=some { cls:=.type "tuple",data:=.seq #[es[i].key,es[i].val] }:=(hs2.2 _ (aaO hilt)).trans hT;have fresh:H s.heap.objs.size=none:=I.hok.fresh (aah _);have I2:=I1.adopt (a:=s.heap.objs.size) (o:=.tup [kx,y]) fresh I.sz (aaO I.lt) (fun y c e1=>by
        obtain ⟨v,q⟩:=I.cell y c e1;exact aas q.lt) (fun q hq=>aas (aag (I.pin q hq).1)) ⟨by show 2≤sizeLine;decide,[es[i].key,es[i].val],.cons r1 (.cons r2 .nil),⟨_,gT,rfl,_,rfl⟩⟩
    refine ⟨.ref s.heap.objs.size,_,I2,rfl,⟨_,kx,y,fresh,rfl,rfl,r3⟩,⟨_,_,he'⟩,fun b hb=>?_⟩;have z:b=it:=by simpa using hb
    subst z;rw [aj (aas hilt)];exact f0
  done:=by
    intro X hP hw hK hc i pins s σ H E I hf st hg;subst hP hw hK;obtain ⟨e,hge⟩:=hg;obtain ⟨dat,hsz,hE⟩:=hE;obtain ⟨ho,hE⟩:=hE H s.heap I.hok e;obtain ⟨f0,f1,f2,f3,f4,f5⟩:=hf it (by simp);obtain ⟨ok,ov,hit⟩:=st;exact mS (I.ok.hd hc) hit ho dat hsz (by lia) fun h' eb=>⟨rfl,I.turned (t':=s.toks) (fun b o hb e=>eb b o hb e) f0 f1 f3 f4 f5⟩
  self:=fun _ _ _ _ _ st h=>by
    obtain ⟨ok,ov,hit⟩:=st;exact PySem.W.kcp_self hit h
def uL (te:TE):TI:=fun σ H R=>te σ H fun x H1=>∃ d,x=.ref d ∧
  ((∃ kvs,H1 d=some (.dT kvs)∧∀ o,R (Iti d o (.dT kvs) kvs.length (qq kvs)) (upd H1 d (.frz o (.dT kvs))))∨(∃ kvs,H1 d=some (.dK kvs)∧∀ o,R (Iti d o (.dK kvs) kvs.length (qr kvs)) (upd H1 d (.frz o (.dK kvs)))) ∨
   (∃ o kvs,H1 d=some (.frz o (.dT kvs))∧R (Iti d o (.dT kvs) kvs.length (qq kvs)) H1)∨∃ o kvs,H1 d=some (.frz o (.dK kvs))∧R (Iti d o (.dK kvs) kvs.length (qr kvs)) H1)
theorem qC {X:Cx} {elts:List Expr} {k:Nat} {tpos:Pos} {o:Expr} {to:TE} {apos cpos:Pos} (ho:PE X o to)
    (hbase:attributeBase o "items" X.env (eval o X.env)=eval o X.env:=by rfl) (hline:(apos.endLine == cpos.line)=true:=by rfl):PI X (.Tuple elts k tpos) (.Call (.Attribute o "items" apos) [] [] cpos) (uL to):=by
  intro pins s σ H R I h;refine wpAny_Call_method0_late hbase hline (thn (ho pins s σ H _ I h) fun v s1 ⟨x,H1,I1,r1,d,ex,q1⟩=>?_);subst ex;cases r1;have main:∀ (ob:Obj) (u:HO) (n:Nat) (rw:Nat→V→V→Hp→Prop) (es:Array DictEntry) (ep:Nat) (H2:Hp),s1.heap.get? d=some ob→ob.ExactDict→(d == sysModules)=false→Inv X pins σ H2 s1→Ent X.prog X.w d ob u n rw es ep→R (Iti d ob u n rw) H2 →
      MethodOn X.prog X.w X.A "items" cpos (.ref d) [] (fun v s1=>wpAny (model X.prog X.w) X.A (pyIter v) (PIE X pins σ (.Tuple elts k tpos) R) X.xe s1) X.xe s1:=fun ob u n rw es ep H2 g c hs I2 hE q=>by
    have hT:s1.TypeIs (.ref d) "dict":=⟨ob,g,c.1⟩
    refine ⟨"dict","dict.items",PySem.F.plainAttrs_dict,PySem.F.slot_dict_items,PySem.F.type_dict_items,hT,fun a e=>by cases e;exact ⟨ob,g,c.2.1⟩,abO rfl (PySem.evalArgs_none ?_)⟩;refine call_meetsIn PySem.F.slot_dict_items hT PySem.F.entry_dict_items (PySem.F.args_dict_items_1 _) (kE d hs) ⟨hT,?_⟩;have g1:(s1.heap.push { cls:=.type "dict_items",data:=.fields #[.ref d] }).get? d=some ob:=aac _ g;refine mZ (s:={ s1 with heap:=s1.heap.push { cls:=.type "dict_items",data:=.fields #[.ref d] } }) (v:=s1.heap.objs.size) (d:=d) ⟨_,aap _ rfl,rfl,rfl⟩ g1 hE.1 ?_;have kp:∀ b o,s1.heap.get? b=some o→((s1.heap.push { cls:=.type "dict_items",data:=.fields #[.ref d] }).push { cls:=.type "dict_itemiterator",data:=.fields #[.none,.bool false,.ref d,.int 0 0,.int es.size 0,.int ep 0,.none,.none] }).get? b=some o:=fun b o e=>aac _ (aac _ e);have hlt:d < s1.heap.objs.size:=aag g;have hsz:(s1.heap.push { cls:=.type "dict_items",data:=.fields #[.ref d] }).objs.size=s1.heap.objs.size+1:=abM _ _;refine ⟨(s1.heap.push { cls:=.type "dict_items",data:=.fields #[.ref d] }).objs.size,[(s1.heap.push { cls:=.type "dict_items",data:=.fields #[.ref d] }).objs.size],_,_,H2,rfl,I2.kept (t':=s1.toks) kp,mr d _ (by rw [hsz];exact aas (abk hlt)) ob u n rw es ep hE,⟨.none,.none,?_⟩,fun b hb=>?_,q⟩
    · have e:=aap (s1.heap.push { cls:=.type "dict_items",data:=.fields #[.ref d] }) (o:={ cls:=.type "dict_itemiterator",data:=.fields #[.none,.bool false,.ref d,.int 0 0,.int es.size 0,.int ep 0,.none,.none] }) rfl;rw [hE.2.1] at e;rw [hE.2.1];exact e
    · have e:b=(s1.heap.push { cls:=.type "dict_items",data:=.fields #[.ref d] }).objs.size:=by simpa using hb
      have hb2:s1.heap.objs.size≤b:=by rw [e,hsz];exact abT _
      exact I2.fpOk hb2 (I2.hok.fresh hb2)
  have nf:∀ u,H1 d=some u→(∀ o v,u≠.frz o v)→∀ o v,X.H₀ d≠some (.frz o v):=fun u e1 n o v q=>by
    have z:=I1.base.frzs d o v q;rw [e1] at z;injection z with z;exact n _ _ z
  rcases q1 with ⟨kvs,e1,q⟩|⟨kvs,e1,q⟩|⟨ob,kvs,e1,q⟩|⟨ob,kvs,e1,q⟩
  · obtain ⟨z,hd,xs,rel,ob,es,ep,hob,c⟩:=(show ObjOk X.prog X.w H1 s1.heap d (.dT kvs) from I1.hok d _ e1)
    have I2:Inv X pins σ (upd H1 d (.frz ob (.dT kvs))) s1:=I1.retype e1 (fun _ z=>nomatch z) (fun _ z=>nomatch z) (fun _ z=>nomatch z) (nf _ e1 fun _ _ z=>nomatch z) ⟨hob,I1.hok d _ e1⟩;obtain ⟨h1,h2,h3,es',ep',hE⟩:=tq I2.hok (ac (H:=H1) (a:=d));exact main ob _ _ _ _ _ _ h1 h2 h3 I2 hE (q ob)
  · obtain ⟨z,hd,vs,rel,ob,es,ep,hob,c⟩:=(show ObjOk X.prog X.w H1 s1.heap d (.dK kvs) from I1.hok d _ e1)
    have I2:Inv X pins σ (upd H1 d (.frz ob (.dK kvs))) s1:=I1.retype e1 (fun _ z=>nomatch z) (fun _ z=>nomatch z) (fun _ z=>nomatch z) (nf _ e1 fun _ _ z=>nomatch z) ⟨hob,I1.hok d _ e1⟩;obtain ⟨h1,h2,h3,es',ep',hE⟩:=tu I2.hok (ac (H:=H1) (a:=d));exact main ob _ _ _ _ _ _ h1 h2 h3 I2 hE (q ob)
  · obtain ⟨h1,h2,h3,es',ep',hE⟩:=tq I1.hok e1;exact main ob _ _ _ _ _ _ h1 h2 h3 I1 hE q
  · obtain ⟨h1,h2,h3,es',ep',hE⟩:=tu I1.hok e1;exact main ob _ _ _ _ _ _ h1 h2 h3 I1 hE q
theorem Trn.items {d:Addr} {o:Obj} {u:HO} {n:Nat} {rw:Nat→V→V→Hp→Prop}:Trn (Iti d o u n rw) n (fun H=>H d=some (.frz o u)) (fun i x H H'=>∃ p k y,H p=none∧x=.ref p∧H'=upd H p (.tup [k,y])∧rw i k y H) :=
  ⟨fun i H hi q=>⟨q,hi⟩,fun H q=>⟨q,aah _⟩,fun i H x H' hi q y=>y⟩
theorem ni {J:It} {n:Nat} {Kp:Hp→Prop} {item:Nat→V→Hp→Hp→Prop} (T:Trn J n Kp item) {g:TG} {tb:TS} {D:Ends} {σ:St} {H:Hp} (Pv:Nat→St→Hp→Prop) (h0:Pv 0 σ H) (hk:∀ i σ H,i≤n→Pv i σ H→Kp H)
    (hs:∀ i x σ H H',i < n→item i x H H'→Pv i σ H→g x σ H' fun σ2 H2=>tb { D with nx:=Pv (i+1),ct:=Pv (i+1),bk:=D.nx } σ2 H2) (hd:∀ σ H,Pv n σ H→D.nx σ H) :
    ∃ W:Nat→Nat→St→Hp→Prop,(∃ m,W 0 m σ H)∧∀ i m σ H,W i m σ H →
      (J.stop i H∧D.nx σ H)∨(J.go i H∧∃ N:St→Hp→Prop,(∀ σ' H',N σ' H'→∃ m',m' < m∧W (i+1) m' σ' H')∧∀ x H',J.yld i H x H'→g x σ H' fun σ2 H2=>tb { D with nx:=N,ct:=N,bk:=D.nx } σ2 H2):=by
  refine ⟨fun i m σ H=>m=n - i∧i≤n∧Pv i σ H,⟨n,by simp,aaR _,h0⟩,?_⟩;rintro i m σ H ⟨rfl,hi,p⟩;have q:=hk i σ H hi p;by_cases hlt:i < n
  · exact .inr ⟨T.go i H hlt q,Pv (i+1),fun σ' H' p'=>⟨n - (i+1),by lia,rfl,hlt,p'⟩,fun x H' y=>hs i x σ H H' hlt (T.yld i H x H' hlt q y) p⟩
  · have e:i=n:=by lia
    subst e;exact .inl ⟨T.stop H q,hd σ H p⟩
def kT (H:Hp) (d:Addr):Prop:=∀ o v,H d≠some (.frz o v)
def u5 (t:TE):TE:=fun σ H Q=>t σ H fun v H'=>∃ d o u,kT H d∧H' d=some (.frz o u)∧Q v (upd H' d u)
theorem nY {X:Cx} {e:Expr} {t:TE} (he:PE X e t):PE X e (u5 t):=by
  intro pins s σ H Q I h;refine thn (he pins s σ _ _ I h) fun u s1 ⟨v,H1,I2,r,d,o,u',nf,e1,q⟩=>⟨v,upd H1 d u',?_,r,q⟩
  have hf:∀ o v,X.H₀ d≠some (.frz o v):=fun o v q=>nf _ _ (I.base.frzs d o v q);exact I2.retype e1 (fun _ z=>nomatch z) (fun _ z=>nomatch z) (fun _ z=>nomatch z) hf (show ObjOk X.prog X.w H1 s1.heap d (.frz o u') from I2.hok d _ e1).2
end L2
namespace PySem
open Sem (wp)
namespace F
end F
section
variable {prog:Program} {w:World} {A:Around} {E:Value→Shared→Prop} {h:Heap} {g:Array GenState} {d:Drawn} {t:Nat} {os:OsState} {a:Addr} {xs:Array Value} {k:Nat}
end
end PySem
namespace L2
open PySem PySem.Spec PyProof.Rows
section
variable {prog:Program} {w:World} {A:Around} {E:Value→Shared→Prop} {s:Shared}
end
open PySem PySem.Spec PyProof.Rows
def uY (P:Program) (w:World) (K:aab) (mg:Str→Option Value) (base:Heap) (x:Str) (k:Nat) (ps:List Str) (sp:Sp) (dvs:List V):Prop :=
  ∃ f fd ds,FnOk P w K mg base CX0 k f fd ps sp∧Binds K fd ps ds∧Vals dvs ds∧aaS K (.ref f)=true∧mg x=some (.ref f)
section
variable {X:Cx}
theorem so {x:Str} {k k':Nat} {ps:List Str} {sp:Sp} {dvs:List V} {e:Expr} {es:List Expr} {t:TA} {p pos:Pos} (C:uY X.prog X.w X.K X.mg X.base x k ps sp dvs) (hr:Room k' X.A) (hk:k≤k') (hg:Gl X x) (ha:PA X (e :: es) t)
    (hdb:(x == ("__debug__":Str))=false:=by decide) (he:starEach (e :: es) X.env=(false,eval e X.env) :: starEach es X.env:=by rfl) (hpl:(backTo pos (starEach es X.env)).any (·.1)=false:=by rfl) :
    PE X (.Call (.Name x p) (e :: es) [] pos) (nH sp dvs E0 t):=by
  obtain ⟨f,fd,ds,F,b,hd,kp,m⟩:=C;exact kn F (hr.mono hk) hg m kp b hd sZ ha hdb he hpl
end
theorem tH {us:List Value} {d:Value} (h:(us++[d]).length=3):∃ a b,us=[a,b]:=by
  rw [aan] at h
  match us,h with
  | [a,b],_=>exact ⟨a,b,rfl⟩
structure FunD (K:aab) (x qual:Str) (st:Stmt) (f:Addr) (fd:FuncData) (tD:Addr):Prop where
  ex:∃ (oc:Value) (od:Option Addr) (kV doc pm:Value) (an:Option Addr) (cdv ct:Value) (osl:Array (Option Value)),
    fd=aaQ x qual (bo st) (aV st) (ag st) (.ref tD) kV doc pm an cdv ct∧K.lookup f=some ⟨oc,od,.func fd,osl⟩∧abf K cdv qual=true
  kp:aaS K (.ref f)=true
section
variable {P:Program} {w:World} {K:aab} {mg:Str→Option Value} {base:Heap}
theorem FunD.ok {x qual:Str} {st:Stmt} {f:Addr} {fd:FuncData} {tD:Addr} {N ps:List Str} {k:Nat} {sp:Sp} (F:FunD K x qual st f fd tD) (S:FnScope N ps (ag st)) (len:∀ vs H Q E,sp vs H Q E→vs.length=ps.length)
    (hbody:∀ (cdv:Value) (A:Around) (outer:List Env) (s:Shared) (H:Hp) (vs:List V) (Q:VK) (E:XK),Room k (A.deeper (envOfC qual (ag st) s.heap.objs.size f cdv))→sp vs H Q E →
      ∃ t,PSs (fH CX0 P w K mg base N qual (ag st) f cdv A outer s H E).nox (aV st) t∧t { nx:=fun _ H'=>Q .non H',rt:=Q } (start N vs) H):FnOk P w K mg base CX0 (k+1) f fd ps sp:=by
  obtain ⟨oc,od,kV,doc,pm,an,cdv,ct,osl,rfl,lk,hcd⟩:=F.ex;refine om lk hcd S len fun A outer s H vs Q E hr hsp=>?_;obtain ⟨t,h,q⟩:=hbody cdv A outer s H vs Q E hr hsp;exact ⟨t,h.nox,q⟩
theorem FunD.binds {x qual:Str} {st:Stmt} {f:Addr} {fd:FuncData} {tD:Addr} {ps:List Str} {ds:List Value} (F:FunD K x qual st f fd tD)
    (h:∀ (kV doc pm:Value) (an:Option Addr) (cdv ct:Value) (s:Shared) (us:List Value),K.In s.heap→(us++ds).length=ps.length→BindsTo s (aaQ x qual (bo st) (aV st) (ag st) (.ref tD) kV doc pm an cdv ct) ⟨us,[]⟩ (ps.zip (us++ds))):Binds K fd ps ds:=by
  obtain ⟨oc,od,kV,doc,pm,an,cdv,ct,osl,rfl,lk,hcd⟩:=F.ex;exact h kV doc pm an cdv ct
theorem sM {x qual:Str} {st:Stmt} {f tD:Addr} {oc:Value} {od an:Option Addr} {osl:Array (Option Value)} {kV doc pm cdv ct:Value} (l:K.lookup f=some ⟨oc,od,.func (aaQ x qual (bo st) (aV st) (ag st) (.ref tD) kV doc pm an cdv ct),osl⟩)
    (c:abf K cdv qual=true) (k:aaS K (.ref f)=true):FunD K x qual st f (aaQ x qual (bo st) (aV st) (ag st) (.ref tD) kV doc pm an cdv ct) tD:=⟨⟨oc,od,kV,doc,pm,an,cdv,ct,osl,rfl,l,c⟩,k⟩
end
open PySem PySem.Spec PyProof.Rows
section
variable {X:Cx} {tg:Expr}
end
open PySem PySem.Spec PyProof.Rows
end L2
namespace L2
open PySem PySem.Spec PyProof.Rows PySem.W
section
variable {prog:Program} {w:World} {A:Around} {E:Value→Shared→Prop} {s:Shared}
theorem mV (d:Addr) (hd:(d == sysModules)=false) :
    MeetsIn prog w (Builtin.«dict.__len__» ⟨[.ref d],[]⟩) (fun _ R s=>∃ o es ep,s.heap.get? d=some o∧o.data=.dict es ep∧R (.ok (.ret (.int (es.size:Nat) s.toks))) { s with toks:=s.toks+1 }) :=
  .of_wp fun A R s ⟨o,es,ep,ho,hdat,h⟩=>by
    show wpAny _ _ (dictSize d >>= _) _ _ s;unfold dictSize;refine wpAny_bind (wpAny_bind (wpAny_dictEntries ho hdat (wpAny_pure ?_)));show wpAny _ _ (Builtin.Dict.pendingCount d >>= _) _ _ s;refine wpAny_bind (wpAny_pendingCount_other hd ?_);refine wpAny_ret_mkInt ?_;rw [Nat.add_zero];exact h
theorem kP {d:Addr} {o:Obj} {es:Array DictEntry} {ep:Nat} {Q:Value→Shared→Prop} (hd:(d == sysModules)=false) (ho:s.heap.get? d=some o) (hc:o.ExactDict) (hdat:o.data=.dict es ep) (hfit:(es.size:Int) < 2 ^ 63)
    (h:Q (.int (es.size:Nat) (s.toks+1)) { s with toks:=s.toks+1+1 }):wpAny (model prog w) A (call (.builtin "len") [.ref d]) Q E s:=by
  have hT:s.TypeIs (.ref d) "dict":=⟨o,ho,hc.1⟩
  refine Calls.call_function_entry kind_len plain_len entry_len (args_len1 _) ?_;unfold Builtin.«len»;refine wpAny_bind (m:=oneArg "len" _) (wpAny_pure ?_);refine wpAny_bind (m:=callSpecial? (.ref d) (abu "__len__")) (wpAny_callSpecial?_slot (name:=abu "__len__") hT F.slot_dict_len
    (call_meetsIn F.slot_dict_len hT F.entry_dict_len (F.args_dict_len_1 _) (mV d hd) ⟨o,es,ep,ho,hdat,?_⟩))
  show wpAny _ _ _ _ _ { s with toks:=s.toks+1 };refine wpAny_bind (wpAny_holding (wpAny_pure ?_));refine wpAny_bind (wpAny_letGo ?_);show wpAny _ _ (if ((es.size:Nat):Int) < 0 then _ else _) _ _ _;rw [if_neg (by lia)];show wpAny _ _ (if ((es.size:Nat):Int) ≥ 2 ^ 63 then _ else _) _ _ _;rw [if_neg (by lia)];exact wpAny_bind (wpAny_mkInt (wpAny_pure ⟨_,rfl,h⟩))
end
theorem pY {X:Cx}:cz X (.builtin "len") (fun xs H Q=>∃ a kvs,xs=[V.ref a]∧Rd H a (.dT kvs)∧Q (.int kvs.length) H):=by
  intro pins s σ H xs us Q I r h;obtain ⟨a,kvs,rfl,ha,q⟩:=h;obtain ⟨u,rfl,ru⟩:=dg r;cases ru;obtain ⟨z,hd,xs,rel,o,es,ep,ho,c,dat,l,nd⟩:=l7 I.hok ha;have hs:es.size=kvs.length:=by rw [size_of_entries l,← aa9 rel]
  refine kP hd ho c dat (by rw [hs];rw [sizeLine_eq] at z;lia) ?_;rw [hs];exact ⟨.int kvs.length,H,I.tok _,⟨_,rfl⟩,q⟩
theorem ug {X:Cx} {o i:Expr} {td ty:TE} {pos:Pos} (hu:X.A.units+1 < cLine) (hi:PE X i ty) (ho:PE X o td) (hm:behindInMarks .In o=false):PE X (.Compare i [.In] [o] pos) (va ty td):=uh (uk hu hi ho) hm
def Itv (d:Addr) (o:Obj) (kvs:List (List Key × V)):It :=
  ⟨fun i H=>H d=some (.frz o (.dT kvs))∧i < kvs.length,fun i H x H'=>H'=H∧∃ kv,kvs[i]?=some kv∧x=kv.2,fun i H=>H d=some (.frz o (.dT kvs))∧kvs.length≤i⟩
theorem oF {P:Program} {w:World} {K:aab} {tg:Expr} (d it:Addr) (o:Obj) (kvs:List (List Key × V)) (es:Array DictEntry) (ep:Nat) (hd:o.data=.dict es ep):Turn P w K tg (Itv d o kvs) [it] it (fun i h=>h.IsValIter it d i kvs.length ep) where
  mem:=by simp
  obj:=fun i h st b hb=>by
    have e:b=it:=by simpa using hb
    subst e;obtain ⟨o,e,c,d⟩:=st;exact ⟨o,e,fun v z=>by rw [d] at z;cases z⟩
  keep:=fun i h h' st k=>by
    obtain ⟨o,e,r⟩:=st;exact ⟨o,k it (by simp) o e,r⟩
  item:=by
    intro X hP hw hK hc i pins s σ H E I hf st hg;subst hP hw hK;obtain ⟨e,hlt⟩:=hg;obtain ⟨ho,_,_,hsz,xs,rel,l⟩:=iL I.hok e hd;obtain ⟨f0,f1,f2,f3,f4,f5⟩:=hf it (by simp);have lx:=aa9 rel;have hx:xs[i]?=some xs[i]:=aad (by lia);have hkv:kvs[i]?=some kvs[i]:=aad (by lia);refine qN st ho hd hsz (e:=entryOfKey (tupleKind (aD X.prog X.w)) xs[i]) (by rw [entry_at l i,hx];rfl) fun h' st' sb=>?_;have I1:Inv X pins σ H { s with heap:=h' }:=I.turned (t':=s.toks) (fun b o hb e=>(sb.2 b hb).trans e) f0 f1 f3 f4 f5;obtain ⟨oi,e1,c1,d1⟩:=id st';refine ⟨_,rfl,l4 (s:={ s with heap:=h' }) e1 c1 d1 (by decide) ⟨kvs[i].2,H,I1,(Paired.nth rel i _ _ hkv hx).2.2,⟨rfl,_,hkv,rfl⟩,st',fun b hb=>(hf b hb).1⟩⟩
  done:=by
    intro X hP hw hK hc i pins s σ H E I hf st hg;subst hP hw hK;obtain ⟨e,hge⟩:=hg;obtain ⟨ho,_,_,hsz,xs,rel,l⟩:=iL I.hok e hd;obtain ⟨f0,f1,f2,f3,f4,f5⟩:=hf it (by simp);exact oU (I.ok.hd hc) st ho hd hsz (by lia) fun h' eb=>⟨rfl,I.turned (t':=s.toks) (fun b o hb e=>eb b o hb e) f0 f1 f3 f4 f5⟩
  self:=fun _ _ _ _ _ st h=>wpAny_pyIter_valiter st h
def vB (te:TE):TI:=fun σ H R=>te σ H fun x H1=>∃ d,x=.ref d ∧
  ((∃ kvs,H1 d=some (.dT kvs)∧∀ o,R (Itv d o kvs) (upd H1 d (.frz o (.dT kvs))))∨(∃ o kvs,H1 d=some (.frz o (.dT kvs))∧R (Itv d o kvs) H1))
theorem sh {X:Cx} {tg:Expr} {o:Expr} {to:TE} {apos cpos:Pos} (ho:PE X o to)
    (hbase:attributeBase o "values" X.env (eval o X.env)=eval o X.env:=by rfl) (hline:(apos.endLine == cpos.line)=true:=by rfl):PI X tg (.Call (.Attribute o "values" apos) [] [] cpos) (vB to):=by
  intro pins s σ H R I h;refine wpAny_Call_method0_late hbase hline (thn (ho pins s σ H _ I h) fun v s1 ⟨x,H1,I1,r1,d,ex,q1⟩=>?_);subst ex;cases r1;have main:∀ (ob:Obj) (kvs:List (List Key × V)) (H2:Hp),Inv X pins σ H2 s1→H2 d=some (.frz ob (.dT kvs))→R (Itv d ob kvs) H2 →
      MethodOn X.prog X.w X.A "values" cpos (.ref d) [] (fun v s1=>wpAny (model X.prog X.w) X.A (pyIter v) (PIE X pins σ tg R) X.xe s1) X.xe s1:=fun ob kvs H2 I2 hq q=>by
    obtain ⟨g,z,hs,xs,rel,o2,es,ep,ho2,c,dat,_⟩:=(show ObjOk X.prog X.w H2 s1.heap d (.frz ob (.dT kvs)) from I2.hok d _ hq)
    rw [g] at ho2;cases ho2;obtain ⟨_,_,_,hsz,_⟩:=iL I2.hok hq dat;have hT:s1.TypeIs (.ref d) "dict":=⟨ob,g,c.1⟩
    refine ⟨"dict","dict.values",PySem.F.plainAttrs_dict,PySem.F.slot_dict_values,PySem.F.type_dict_values,hT,fun a e=>by cases e;exact ⟨ob,g,c.2.1⟩,abO rfl (PySem.evalArgs_none ?_)⟩;refine call_meetsIn PySem.F.slot_dict_values hT PySem.F.entry_dict_values (PySem.F.args_dict_values_1 _) (jh d hs) ⟨hT,?_⟩;have g1:(s1.heap.push { cls:=.type "dict_values",data:=.fields #[.ref d] }).get? d=some ob:=aac _ g;refine pB (s:={ s1 with heap:=s1.heap.push { cls:=.type "dict_values",data:=.fields #[.ref d] } }) (v:=s1.heap.objs.size) (d:=d) ⟨_,aap _ rfl,rfl,rfl⟩ g1 dat ?_;have kp:∀ b o,s1.heap.get? b=some o→((s1.heap.push { cls:=.type "dict_values",data:=.fields #[.ref d] }).push { cls:=.type "dict_valueiterator",data:=.fields #[.ref d,.int 0 0,.int es.size 0,.int ep 0] }).get? b=some o:=fun b o e=>aac _ (aac _ e);have hsz2:(s1.heap.push { cls:=.type "dict_values",data:=.fields #[.ref d] }).objs.size=s1.heap.objs.size+1:=abM _ _;refine ⟨(s1.heap.push { cls:=.type "dict_values",data:=.fields #[.ref d] }).objs.size,[(s1.heap.push { cls:=.type "dict_values",data:=.fields #[.ref d] }).objs.size],_,_,H2,rfl,I2.kept (t':=s1.toks) kp,oF d _ ob kvs es ep dat,⟨_,aap _ rfl,rfl,by rw [hsz];rfl⟩,fun b hb=>?_,q⟩;have e:b=(s1.heap.push { cls:=.type "dict_values",data:=.fields #[.ref d] }).objs.size:=by simpa using hb
    have hb2:s1.heap.objs.size≤b:=by rw [e,hsz2];exact abT _
    exact I2.fpOk hb2 (I2.hok.fresh hb2)
  have nf:∀ u,H1 d=some u→(∀ o v,u≠.frz o v)→∀ o v,X.H₀ d≠some (.frz o v):=fun u e1 n o v q=>by
    have z:=I1.base.frzs d o v q;rw [e1] at z;injection z with z;exact n _ _ z
  rcases q1 with ⟨kvs,e1,q⟩|⟨ob,kvs,e1,q⟩
  · obtain ⟨z,hd,xs,rel,ob,es,ep,hob,c⟩:=(show ObjOk X.prog X.w H1 s1.heap d (.dT kvs) from I1.hok d _ e1)
    have I2:Inv X pins σ (upd H1 d (.frz ob (.dT kvs))) s1:=I1.retype e1 (fun _ z=>nomatch z) (fun _ z=>nomatch z) (fun _ z=>nomatch z) (nf _ e1 fun _ _ z=>nomatch z) ⟨hob,I1.hok d _ e1⟩;exact main ob kvs _ I2 ac (q ob)
  · exact main ob kvs _ I1 e1 q
theorem Trn.vals {d:Addr} {o:Obj} {kvs:List (List Key × V)}:Trn (Itv d o kvs) kvs.length (fun H=>H d=some (.frz o (.dT kvs))) (fun i x H H'=>H'=H∧∃ kv,kvs[i]?=some kv∧x=kv.2) :=
  ⟨fun i H hi q=>⟨q,hi⟩,fun H q=>⟨q,aah _⟩,fun i H x H' hi q y=>y⟩
open PySem PySem.Spec PyProof.Rows
def uC (e l:Nat→Bool) (n m:Nat):Nat→Nat→Bool
  | _,0=>decide (n < m)
  | j,k+1=>if e j=true then uC e l n m (j+1) k else l j
section
open PySem.SeqAt
open PySem.AutoSeq1 (wpAny_loadPart')
open PySem.MeetsSeq PySem.MeetsSeq2 PySem.MeetsSeq3
end
inductive LtR (K:aab) (H:Hp):Nat→V→V→Bool→Prop
  | int {n:Nat} {a b:Int}:LtR K H n (.int a) (.int b) (decide (a < b))
  | tup {n:Nat} {a b:Addr} {xs ys:List V} {e l:Nat→Bool} (ha:SqT K H a xs) (hb:SqT K H b ys) (h:∀ (j:Nat) x y,xs[j]?=some x→ys[j]?=some y→EqR K H n x y (e j)) (hl:∀ (j:Nat) x y,xs[j]?=some x→ys[j]?=some y→e j=false→LtR K H n x y (l j)) :
      LtR K H (n+1) (.ref a) (.ref b) (uC e l xs.length ys.length 0 (min xs.length ys.length))
section
variable {X:Cx} {pins:List (Addr × Obj)} {σ:St} {H:Hp} {s:Shared}
end
section
variable {X:Cx}
end
open PySem PySem.Spec PyProof.Rows
def Fq (K:aab) (x:Str) (s:Stmt) (f:Addr):Prop:=aat K mainGlobals x=some (some (.ref f))∧∃ fd,Fun K x x s f fd
theorem Fq.mk4 {K:aab} {x:Str} {st:Stmt} {f:Addr} {oc:Value} {od an:Option Addr} {osl:Array (Option Value)} {kV doc pm cdv ct:Value} (a:aat K mainGlobals x=some (some (.ref f))) (l:K.lookup f=some ⟨oc,od,.func (aaQ x x (bo st) (aV st) (ag st) .none kV doc pm an cdv ct),osl⟩)
    (c:abf K cdv x=true) (k:aaS K (.ref f)=true):Fq K x st f:=⟨a,_,re l c k⟩
theorem Fq.use {K:aab} {x:Str} {st:Stmt} {f:Addr} {h:Heap} {mg:Str→Option Value} (q:Fq K x st f) (X:K.In h) (G:h.Ns mainGlobals mg) {ps:List Str}
    (hb:∀ (kV doc pm:Value) (an:Option Addr) (cdv ct:Value) (us:List Value),us.length=ps.length→bindArgs (aaQ x x (bo st) (aV st) (ag st) .none kV doc pm an cdv ct) ⟨us,[]⟩=pure (ps.zip us)):∃ fd,Fun K x x st f fd∧Binds K fd ps []∧mg x=some (.ref f):=by
  obtain ⟨a,fd,F⟩:=q;exact ⟨fd,F,F.binds hb,aaJ X G a⟩
open PySem PySem.Spec PyProof.Rows
open PySem PySem.Spec PyProof.Rows
open PySem PySem.Spec PyProof.Rows
open PySem PySem.Spec PyProof.Rows
section
variable {prog:Program} {w:World} {A:Around} {E:Value→Shared→Prop} {s:Shared}
end
end L2
namespace L2
open PySem
def vO (xs:Array Nat):Prop:=xs.toList.Pairwise (· < ·)
def Okm (m:Nat):Prop:=m=7∨m=15∨m=31∨m=63∨m=127∨m=255∨m=511∨m=1023
def lp (m:Nat):Nat→Nat→Nat→Nat × Nat
  | 0,i,p=>(i,p)
  | L+1,i,p=>lp m L ((i * 5+1+p / 32) % (m+1)) (p / 32)
end L2
namespace L2
open PySem
end L2
namespace L2
open PySem
structure GT (n:Nat) (b:Bool) (t:SetTable):Prop where
  okm:Okm t.mask
  dum:t.dummies=#[]
  pl:t.plain=true
  rise:vO t.place
  size:t.place.size=n
  led:t.led=b
  room:n * 5 < t.mask * 3
structure GT1 (n:Nat) (b:Bool) (t:SetTable):Prop where
  okm:Okm t.mask
  dum:t.dummies=#[]
  pl:t.plain=true
  rise:vO t.place
  size:t.place.size=n
  led:t.led=b
  room:(n - 1) * 5 < t.mask * 3
open PySem PySem.Spec PyProof.Rows
section
variable {prog:Program} {w:World} {A:Around} {E:Value→Shared→Prop} {s:Shared}
end
end L2
set_option maxHeartbeats 3200000
namespace L2
open PySem PySem.Spec PyProof.Rows
section
variable {prog:Program} {w:World} {A:Around} {E:Value→Shared→Prop} {s:Shared}
variable {R:Result→Shared→Prop} {I:Addr} {fp wr:List Addr} {G:Array GenState→Array GenState→Prop} {n:Nat} {P:Nat→Value→Prop} {St:Nat→Shared→Prop}
end
section
variable {prog:Program} {w:World} {A:Around} {E:Value→Shared→Prop} {s:Shared}
end
open PySem PySem.Spec PyProof.Rows
section
variable {prog:Program} {w:World} {A:Around} {E:Value→Shared→Prop} {s:Shared}
end
end L2
namespace PySem.F
end PySem.F
namespace L2
open PySem PySem.Spec PyProof.Rows
section
variable {prog:Program} {w:World} {A:Around} {E:Value→Shared→Prop} {s:Shared}
end
open PySem PySem.Spec PyProof.Rows
section
variable {prog:Program} {w:World} {A:Around} {E:Value→Shared→Prop} {s:Shared}
end
open PySem PySem.Spec PyProof.Rows
end L2
namespace PySem.F
end PySem.F
namespace L2
open PySem PySem.Spec PyProof.Rows
structure SI (prog:Program) (w:World) (h:Heap) (a:Addr) (o:Obj) (es:Array (Int × Value)) (ep:Nat) (t:SetTable):Prop where
  at':h.get? a=some o
  ex:o.ExactSet
  dat:o.data=.set es ep t
  fit:t.fits es.size=true
  els:ElemsOf (intKind prog w) es.toList
  few:es.size < scanBound
section
variable {prog:Program} {w:World} {A:Around} {E:Value→Shared→Prop} {s:Shared}
end
open PySem PySem.Spec PyProof.Rows
section
variable {prog:Program} {w:World} {A:Around} {E:Value→Shared→Prop} {s:Shared}
end
open PySem PySem.Spec PyProof.Rows
section
variable {prog:Program} {w:World} {A:Around} {E:Value→Shared→Prop} {s:Shared}
end
open PySem PySem.Spec PyProof.Rows
section
variable {prog:Program} {w:World} {A:Around} {E:Value→Shared→Prop} {s:Shared}
end
open PySem PySem.Spec PyProof.Rows
section
variable {prog:Program} {w:World} {A:Around} {E:Value→Shared→Prop} {s:Shared}
end
open PySem PySem.Spec PyProof.Rows
section
variable {prog:Program} {w:World} {A:Around} {E:Value→Shared→Prop} {s:Shared}
end
open PySem PySem.Spec PyProof.Rows
open PySem PySem.Spec PyProof.Rows
open PySem PySem.Spec PyProof.Rows
open PySem PySem.Spec PyProof.Rows
open PySem PySem.Spec PyProof.Rows
section
variable {X:Cx}
end
open PySem PySem.Spec PyProof.Rows
open PySem PySem.Spec PyProof.Rows
section
open PySem.SeqAt
open PySem.AutoSeq1 (wpAny_loadPart')
open PySem.MeetsSeq PySem.MeetsSeq2 PySem.MeetsSeq3
end
inductive LtQ (K:aab) (H:Hp):Nat→V→V→Bool→Prop
  | int {n:Nat} {a b:Int}:LtQ K H n (.int a) (.int b) (decide (a < b))
  | lst {n:Nat} {a b:Addr} {xs ys:List V} {e l:Nat→Bool} (ha:SqL K H a xs) (hb:SqL K H b ys) (h:∀ (j:Nat) x y,xs[j]?=some x→ys[j]?=some y→EqR K H n x y (e j)) (hl:∀ (j:Nat) x y,xs[j]?=some x→ys[j]?=some y→e j=false→LtQ K H n x y (l j)) :
      LtQ K H (n+1) (.ref a) (.ref b) (uC e l xs.length ys.length 0 (min xs.length ys.length))
section
variable {X:Cx} {pins:List (Addr × Obj)} {σ:St} {H:Hp} {s:Shared}
end
end L2
namespace Tim
open PySem PyProof.Rows
section
variable {prog:Program} {w:World} {A:Around} {E:Value→Shared→Prop} {s:Shared}
end
end Tim
namespace L2
open PySem PySem.Spec PyProof.Rows
section
variable {prog:Program} {w:World} {A:Around} {E:Value→Shared→Prop} {s:Shared}
end
structure Rnk (K:aab) (H:Hp) (n:Nat) (us:List V) (kf:V→Int):Prop where
  two:∀ x∈us,∃ t k wv ks,x=.ref t∧H t=some (.tup [.ref k,wv])∧H k=some (.lst ks)
  cmp:∀ t t' k k' wv wv',V.ref t∈us→V.ref t'∈us→H t=some (.tup [.ref k,wv])→H t'=some (.tup [.ref k',wv']) →
    EqR K H n (.ref k) (.ref k') (decide (kf (.ref t)=kf (.ref t')))∧(kf (.ref t)≠kf (.ref t')→LtQ K H n (.ref k) (.ref k') (decide (kf (.ref t) < kf (.ref t'))))∧(kf (.ref t)=kf (.ref t')→EqR K H n wv wv' true)
open PySem PySem.Spec PyProof.Rows
section
variable {X:Cx} {tg:Expr}
end
section
variable {X:Cx}
end
open PySem PySem.Spec PyProof.Rows
open PySem PySem.Spec PyProof.Rows
def CauT (K:aab) (H:Hp) (x:V) (t:Value):Prop:=(x=.non∧t=.type "NoneType")∨∃ ea C,x=.ref ea∧H ea=some (fX ea C)∧ExC K C∧t=.ref C
theorem CauT.mono {K:aab} {H H':Hp} {x:V} {t:Value} (s:∀ b o,H b=some o→H' b=some o) (h:CauT K H x t):CauT K H' x t:=by
  rcases h with h|⟨ea,C,e1,e2,e3,e4⟩
  · exact .inl h
  · exact .inr ⟨ea,C,e1,s _ _ e2,e3,e4⟩
theorem cw {X:Cx}:cz X (.builtin "isinstance") (fun xs H Q=>∃ x c t u b,xs=[x,c]∧CauT X.K H x t∧(∀ u',RelV c u'→u'=u)∧aaG X.K t u=some b∧Q (.bl b) H):=by
  intro pins s σ H xs us Q I r h;obtain ⟨x,c,t,u,b,rfl,hx,hu,hk,q⟩:=h;obtain ⟨u1,u2,rfl,r1,r2⟩:=qb r;obtain rfl:=hu _ r2;rcases hx with ⟨rfl,rfl⟩|⟨ea,C,rfl,he,x,rfl⟩
  · cases (show u1=Value.none from r1);exact aa1 PySem.W.kitx_none I.kIn True.intro hk (fun z=>nomatch z) fun tk=>⟨.bl b,H,I.tok tk,rfl,q⟩
  · cases r1;obtain ⟨⟨o,vs,h1,h2,_⟩,_⟩:=(show ObjOk X.prog X.w H s.heap ea (fX ea C) from I.hok ea _ he)
    exact aa1 (lU x) I.kIn ⟨o,h1,h2⟩ hk (fun z=>nomatch z) fun tk=>⟨.bl b,H,I.tok tk,rfl,q⟩
theorem dE {X:Cx}:cz X (.builtin "isinstance") (fun xs H Q=>∃ x tp cs t us b,xs=[x,.ref tp]∧CauT X.K H x t∧H tp=some (.tup cs)∧(∀ us',Vals cs us'→us'=us)∧abE X.K t us=some b∧Q (.bl b) H):=by
  intro pins s σ H xs us Q I r h;obtain ⟨x,tp,cs,t,us,b,rfl,hx,ht,hu,hk,q⟩:=h;obtain ⟨u1,u2,rfl,r1,r2⟩:=qb r;cases r2;obtain ⟨_,its,rv,ot,g1,g2,k,g3⟩:=(show ObjOk X.prog X.w H s.heap tp (.tup cs) from I.hok tp _ ht)
  obtain rfl:=hu _ rv;obtain ⟨oc,od,dat,sl⟩:=ot;cases (show oc=_ from g2);cases (show dat=_ from g3);rcases hx with ⟨rfl,rfl⟩|⟨ea,C,rfl,he,x,rfl⟩
  · cases (show u1=Value.none from r1);exact PySem.W.kia_tup PySem.W.kitx_none I.kIn True.intro g1 hk (fun z=>nomatch z) fun tk=>⟨.bl b,H,I.tok tk,rfl,q⟩
  · cases r1;obtain ⟨⟨o,vs,h1,h2,_⟩,_⟩:=(show ObjOk X.prog X.w H s.heap ea (fX ea C) from I.hok ea _ he)
    exact PySem.W.kia_tup (lU x) I.kIn ⟨o,h1,h2⟩ g1 hk (fun z=>nomatch z) fun tk=>⟨.bl b,H,I.tok tk,rfl,q⟩
theorem dN {K:aab} {t a b:Value} (h1:aaG K t a=some false) (h2:aaG K t b=some false):abE K t [a,b]=some false:=by
  simp only [abE,h1,h2]
theorem iC {K:aab} {t a b c:Value} (h1:aaG K t a=some false) (h2:aaG K t b=some false) (h3:aaG K t c=some false):abE K t [a,b,c]=some false:=by
  simp only [abE,h1,h2,h3]
theorem bO {K:aab} {D:Addr} {cd:ClassData} (h1:aaN K D=some cd) (h2:aaX K (.ref D)=some (.type "type")) (h3:aam K (.type "NoneType") (.ref D)=some false):aaG K (.type "NoneType") (.ref D)=some false:=by
  unfold aaG PySem.W.kitCls;have e1:(Value.type "NoneType" == Value.ref D)=false:=rfl;rw [e1,if_neg (by simp)];show (if ((aaN K D).isSome && aaX K (Value.ref D) == some (Value.type "type"))=true then aam K (Value.type "NoneType") (Value.ref D) else none)=some false;rw [h1,h2];exact (if_pos (by simp)).trans h3
section
variable {X:Cx} {pos:Pos}
end
end L2
namespace L2
open PySem PySem.Spec PyProof.Rows PySem.W
section
variable {X:Cx} {pins pl:List (Addr × Obj)} {σ:St} {H:Hp} {s:Shared}
end
section
variable {X:Cx}
end
end L2
namespace L2
open PySem PySem.Spec PyProof.Rows PySem.W
section
variable {X:Cx} {pins pl:List (Addr × Obj)} {σ:St} {H:Hp} {s:Shared}
end
section
variable {X:Cx}
end
open PySem PySem.Spec PyProof.Rows
inductive Thw (H:Hp):Hp→Hp→Prop
  | refl (H1:Hp):Thw H H1 H1
  | step {H1 H2:Hp} {d:Addr} {o:Obj} {u:HO} (h:Thw H H1 H2) (nf:kT H d) (e:H2 d=some (.frz o u)):Thw H H1 (upd H2 d u)
open PySem PySem.Spec PyProof.Rows
open PySem PySem.Spec PyProof.Rows
section
variable {X:Cx} {tg:Expr}
end
open PySem PySem.Spec PyProof.Rows
section
variable {prog:Program} {w:World} {A:Around} {E:Value→Shared→Prop} {R:Result→Shared→Prop} {s:Shared}
end
section
variable {prog:Program} {w:World}
end
section
variable {X:Cx}
end
open PySem PySem.Spec PyProof.Rows
section
variable {M:Model} {A:Around} {E:Value→Shared→Prop} {s:Shared}
end
section
variable {X:Cx}
end
open PySem PySem.Spec PyProof.Rows
open PySem PySem.Spec PyProof.Rows
def DatT (H:Hp) (d:PyData) (v:V):Prop:=Dat H d v∨∃ (a:Addr) (k:List Key) (x:V) (d':PyData),v=.ref a∧H a=some (.dT [(k,x)])∧Dat H d' x∧d=.dict [(.tuple (k.map pA),d')]
theorem DatT.mono {H H':Hp} (g:Same H H') {d:PyData} {v:V} (h:DatT H d v):DatT H' d v:=by
  rcases h with h|⟨a,k,x,d',e,h1,h2,h3⟩
  · exact .inl (Dat.mono g d v h)
  · exact .inr ⟨a,k,x,d',e,g _ _ h1,Dat.mono g d' x h2,h3⟩
def DatTs (H:Hp) (ds:List PyData) (vs:List V):Prop:=Paired (DatT H) ds vs
section
variable {X:Cx} {pins:List (Addr × Obj)} {σ:St} {H:Hp} {s:Shared}
theorem iD {P:Program} {w:World} {h:Heap}:∀ {ks:List Key} {us:List Value},Vals (ks.map kV) us→∃ as,ReadsAll h us (ks.map pA) as∧sysModules∉as
  | [],_,r=>by rw [abB] at r;cases r;exact ⟨_,.nil,by simp⟩
  | k :: ks,_,r=>by
    rw [aaF] at r;cases r with
    | cons h t =>
      obtain ⟨as,ra,na⟩:=iD (P:=P) (w:=w) t;exact ⟨_,.cons (jz (P:=P) (w:=w) (jC h)) ra,by simpa using na⟩
theorem DatT.reads (I:Inv X pins σ H s) {d:PyData} {v:V} {u:Value} (h:DatT H d v) (r:RelV v u):∃ as,Reads s.heap u d as∧sysModules∉as:=by
  rcases h with h|⟨a,k,x,d',rfl,ha,hx,rfl⟩
  · exact Dat.reads I d v u h r
  · cases r;obtain ⟨_,_,xs,rel,o,es,ep,e1,ex,e3,e4,_,_⟩:=ou I.hok ha;cases rel with
    | @cons p q ps qs hr t =>
      cases t;obtain ⟨k1,k2,k3⟩:=hr;obtain ⟨its,rv,⟨o2,f1,f2,n,f3⟩,_⟩:=I.tuple (SqT.of k2);obtain ⟨as,ra,na⟩:=iD (P:=X.prog) (w:=X.w) (h:=s.heap) rv;obtain ⟨bs,rb,nb⟩:=Dat.reads I d' x _ hx k3;have ek:es.toList.map (·.key)=[.ref q.2.1]:=by rw [e4];rfl
      have ev:es.toList.map (·.val)=[q.2.2]:=by rw [e4];rfl
      refine ⟨_,.dict (kvs:=[(.tuple (k.map pA),d')]) e1 ex.1 e3 (by rw [ek];exact .cons (.tuple f1 f2 f3 (by simpa using ra)) .nil) (by rw [ev];exact .cons rb .nil),fun z=>?_⟩;rcases aau.mp z with z|z
      · rcases aai.mp z with z|z
        · exact I.nosys ha z.symm
        · exact na (by simpa using z)
      · exact nb (by simpa using z)
theorem DatTs.reads (I:Inv X pins σ H s):∀ {ds:List PyData} {vs:List V} {us:List Value},DatTs H ds vs→Vals vs us→∃ as,ReadsAll s.heap us ds as∧sysModules∉as
  | _,_,_,.nil,r=>by cases r;exact ⟨_,.nil,by simp⟩
  | _,_,_,.cons h t,r=>by
    cases r with
    | cons r1 r2 =>
      obtain ⟨as,ra,na⟩:=h.reads I r1;obtain ⟨bs,rb,nb⟩:=DatTs.reads I t r2;exact ⟨_,.cons ra rb,fun z=>(aau.mp z).elim na nb⟩
theorem iR (hg:X.A.guards=some []) (hu:X.A.units+64 < cLine):cz X (.builtin "repr") (fun xs H Q=>∃ (L:Addr) (vs:List V) (ds:List PyData),xs=[.ref L]∧H L=some (.lst vs)∧DatTs H ds vs∧(PyData.list ds).showable=true∧(PyData.list ds).depth≤60∧(PyData.list ds).shown.length≤sizeLine∧Q (.str (PyData.list ds).shown) H):=by
  intro pins s σ H xs us Q I r h;obtain ⟨L,vs,ds,rfl,hL,hd,hs,hdp,hl,q⟩:=h;obtain ⟨u,rfl,ru⟩:=dg r;cases ru;obtain ⟨its,rv,⟨o,n,e1,e2,_,e3⟩,_⟩:=I.list (SqL.of hL);obtain ⟨as,ra,na⟩:=DatTs.reads I hd rv;refine repr_of_reads' (.list e1 e2 e3 (by simpa using ra)) hs (fun _ z=>?_) hg (by lia) (fun _ _ e=>e) (fun h' u tk hk=>?_) hl
  · rcases aai.mp z with z|z
    · exact I.nosys hL z.symm
    · exact na z
  · exact ⟨.str _,H,I.kept hk,⟨u,rfl⟩,q⟩
end
open PySem PySem.Spec PyProof.Rows
theorem si {X:Cx} {a:Expr} {ta:TE} {pos:Pos} (ha:PE X a ta):PE X (.UnaryOp .Not a pos) (fun σ H Q=>ta σ H fun x H'=>∃ k,uT X.K x H' k∧Q (.bl (!k)) H'):=by
  intro pins s σ H Q I h;refine UnaryOp_ (thn (ha pins s σ H _ I h) fun v s1 ⟨x,H1,I1,r1,k,tr,q1⟩=>?_);exact not_of (thn (qf pins s1 σ H1 x v _ I1 r1 ⟨k,tr,q1⟩) fun b s2 ⟨H2,I2,q2⟩=>⟨.bl (!b),H2,I2,rfl,q2⟩)
theorem Same.upd {H H1:Hp} {p:Addr} {o:HO} (a:Same H H1) (h:H p=none):Same H (L2.upd H1 p o):=fun b u q=>by
  rw [aj (ap q h)];exact a b u q
end L2
namespace Put
open PySem L2
def top (i:Nat):Stmt:=PySem.Challenge.pw_putsigns_k37_papers_of_bounds_refused.main.body.getD i (.Pass ⟨0,0,0,0⟩)
inductive Sg where
  | plus|minus|times
  deriving DecidableEq
def Sg.str:Sg→Str
  | .plus=>"+"
  | .minus=>"-"
  | .times=>"*"
inductive Wy where
  | num (i:Int)
  | node (g:Sg) (l r:Wy)
  deriving DecidableEq
def Wy.size:Wy→Nat
  | .num _=>1
  | .node _ l r=>l.size+r.size
theorem Wy.size_pos:∀ w:Wy,1≤w.size
  | .num _=>aah _
  | .node _ l r=>by have:=l.size_pos;show 1≤l.size+r.size;lia
def WyIn (H:Hp):Wy→V→Prop
  | .num i,v=>v=.int i
  | .node g l r,v=>∃ a vl vr,v=.ref a∧H a=some (.tup [.str g.str,vl,vr])∧WyIn H l vl∧WyIn H r vr
def Tups (H H':Hp):Prop:=∀ b xs,H b=some (.tup xs)→H' b=some (.tup xs)
theorem Tups.of {H H':Hp} (a:Same H H'):Tups H H':=fun b xs h=>a b _ h
theorem Tups.trans {H H1 H2:Hp} (a:Tups H H1) (b:Tups H1 H2):Tups H H2:=fun c xs h=>b c xs (a c xs h)
theorem WyIn.mono {H H':Hp} (t:Tups H H'):∀ {w:Wy} {v:V},WyIn H w v→WyIn H' w v
  | .num _,_,h=>h
  | .node g l r,v,h=>by
    obtain ⟨a,vl,vr,e,h1,h2,h3⟩:=h;exact ⟨a,vl,vr,e,t _ _ h1,WyIn.mono t h2,WyIn.mono t h3⟩
structure Bu (K:aab) (mg:Str→Option Value):Prop where
  ilen:mg "len" = none
  iisinstance : mg "isinstance" = none
  iint:mg "int" = none
  ibool:mg "bool" = none
  istr:mg "str" = none
  ituple:mg "tuple" = none
  ilist:mg "list" = none
  isorted:mg "sorted" = none
  irange:mg "range" = none
  irepr:mg "repr" = none
  ienumerate:mg "enumerate" = none
  isum:mg "sum" = none
  iall:mg "all" = none
  imin:mg "min" = none
  imax:mg "max" = none
  iabs:mg "abs" = none
  idivmod:mg "divmod" = none
  idict:mg "dict" = none
  iset:mg "set" = none
  ireversed:mg "reversed" = none
  iany:mg "any" = none
  izip:mg "zip" = none
structure Co (K:aab) (mg:Str→Option Value) (tk:Tok) (aS:Addr):Prop where
  gMOST_NUMBERS:mg "MOST_NUMBERS" = some (.int 9 tk)
  gSIGNS:mg "SIGNS" = some (.ref aS)
  sSIGNS:∀ H,SqT K H aS [.str "+",.str "-",.str "*"]
section
variable {P:Program} {w:World} {K:aab} {mg:Str→Option Value} {base:Heap} {f:Addr} {fd:FuncData}
def dh (K:aab):Sp:=fun vs H Q _=>∃ x n,vs=[x]∧TyOf K H x (.type n)∧Q (.bl (decide (n = "int"))) H
abbrev fQ:Stmt:=top 17
theorem lr:FnScope ["thing"] ["thing"] (ag fQ):=⟨rfl,rfl,rfl,by decide +kernel,rfl,by decide +kernel,by decide +kernel⟩
theorem lL (F:Fun K "is_whole" "is_whole" fQ f fd) (B:Bu K mg):FnOk P w K mg base CX0 1 f fd ["thing"] (dh K):=by
  refine F.ok lr (fun vs H Q E h=>?_) (fun cdv A outer s H vs Q E hr h=>?_)
  · obtain ⟨x,n,rfl,_⟩:=h;rfl
  obtain ⟨x,n,rfl,ty,q⟩:=h;refine ⟨_,(@ai _ _ _ (@ar _ _ _ _ (@cu _ _ _ _ _ _ _ (@ak _ _ _ _ _ _ _ _ _ (@bq _ ("int")) rfl B.iisinstance aaq (@aa _ _ _ _ _ (pv 0) (@aa _ _ _ _ _ (@cE _ _ (.ty "int") _ _ rfl B.iint PyProof.Rows.boot_int rfl (by decide) (by decide)) ad (by rfl)) (by rfl)) (by decide) (by decide) (by rfl) (by rfl)) (@eE _ _ _ _ _ (@uc _ _ _ _ (@ak _ _ _ _ _ _ _ _ _ (@bq _ ("bool")) rfl B.iisinstance aaq (@aa _ _ _ _ _ (pv 0) (@aa _ _ _ _ _ (@cE _ _ (.ty "bool") _ _ rfl B.ibool PyProof.Rows.boot_bool rfl (by decide) (by decide)) ad (by rfl)) (by rfl)) (by decide) (by decide) (by rfl) (by rfl))))))),?_⟩;cases ty with
  | non=>exact ⟨_,rfl,_,_,false,rfl,.non,rfl,false,rfl,aU q⟩
  | bl y=>exact ⟨_,rfl,_,_,true,rfl,.bl y,rfl,true,rfl,bC ⟨_,rfl,_,_,true,rfl,.bl y,rfl,true,rfl,q⟩⟩
  | int i=>exact ⟨_,rfl,_,_,true,rfl,.int i,rfl,true,rfl,bC ⟨_,rfl,_,_,false,rfl,.int i,rfl,false,rfl,q⟩⟩
  | str y=>exact ⟨_,rfl,_,_,false,rfl,.str y,rfl,false,rfl,aU q⟩
  | flt y=>exact ⟨_,rfl,_,_,false,rfl,.flt y,rfl,false,rfl,aU q⟩
  | lst e=>exact ⟨_,rfl,_,_,false,rfl,.lst e,rfl,false,rfl,aU q⟩
  | frz e=>exact ⟨_,rfl,_,_,false,rfl,.frz e,rfl,false,rfl,aU q⟩
  | tup e=>exact ⟨_,rfl,_,_,false,rfl,.tup e,rfl,false,rfl,aU q⟩
  | dK e=>exact ⟨_,rfl,_,_,false,rfl,.dK e,rfl,false,rfl,aU q⟩
  | dT e=>exact ⟨_,rfl,_,_,false,rfl,.dT e,rfl,false,rfl,aU q⟩
def vz (z:Str):Bool:=inV (.str z) [.str "+",.str "-",.str "*"]
def qh:Sp:=fun vs H Q _=>∃ z,vs=[.str z]∧Q (.bl (vz z)) H
abbrev fB:Stmt:=top 20
theorem ii:FnScope ["thing"] ["thing"] (ag fB):=⟨rfl,rfl,rfl,by decide +kernel,rfl,by decide +kernel,by decide +kernel⟩
theorem mO {tk:Tok} {aS:Addr} (F:Fun K "is_sign" "is_sign" fB f fd) (B:Bu K mg) (B':Co K mg tk aS):FnOk P w K mg base CX0 1 f fd ["thing"] qh:=by
  refine F.ok ii (fun vs H Q E h=>?_) (fun cdv A outer s H vs Q E hr h=>?_)
  · obtain ⟨x,rfl,_⟩:=h;rfl
  obtain ⟨z,rfl,q⟩:=h;refine ⟨_,(ai (ar (cu (ak (bq (n:="str")) rfl B.iisinstance aaq (aa (pv 0) (aa (cE (v:=.ty "str") rfl B.istr aco rfl) ad))) (eE (bS gz (pv 0) (bt (v:=.ref aS) rfl B'.gSIGNS rfl) (by with_unfolding_all rfl)))))),?_⟩;exact ⟨_,rfl,_,_,true,rfl,.str z,rfl,true,rfl,bC ⟨_,rfl,aS,_,rfl,.inr (B'.sSIGNS H),rfl,rfl,q⟩⟩
open PySem L2
theorem sI {α:Type} (xs:List α) (x:α):(xs++[x])[(xs++[x]).length - 1]?=some x:=by simp
theorem uZ (xs:List V) (x:V):(xs++[x]).dropLast=xs:=by simp
theorem dj {n:Nat} (h:n≤1000):n≤sizeLine:=Nat.le_of_lt (aJ h)
abbrev ij:Stmt:=top 21
theorem dI:FnScope ["thing","waiting","numbers","part"] ["thing"] (ag ij):=⟨rfl,rfl,rfl,by decide +kernel,rfl,by decide +kernel,by decide +kernel⟩
def Wy.nums:Wy→List Int
  | .num i=>[i]
  | .node _ l r=>l.nums++r.nums
theorem Wy.nums_len:∀ w:Wy,w.nums.length=w.size
  | .num _=>rfl
  | .node _ l r=>by show (l.nums++r.nums).length=l.size+r.size;rw [aan,l.nums_len,r.nums_len]
def Wy.deep:Wy→Nat
  | .num _=>1
  | .node _ l r=>max l.deep r.deep+1
theorem Wy.deep_le:∀ w:Wy,w.deep≤w.size
  | .num _=>aah _
  | .node _ l r=>by have a:=l.deep_le;have b:=r.deep_le;have c:=l.size_pos;have d:=r.size_pos;show max l.deep r.deep+1≤l.size+r.size;lia
def jX (n:Nat):Sp:=fun vs H Q _=>∃ w v,vs=[v]∧WyIn H w v∧w.size≤20∧w.deep≤n∧∀ p H',Same H H'→H p=none→H' p=some (.lst (w.nums.map V.int))→Q (.ref p) H'
abbrev c0:Stmt:=top 27
theorem bY:FnScope ["way","sign","left","right"] ["way"] (ag c0):=⟨rfl,rfl,rfl,by decide +kernel,rfl,by decide +kernel,by decide +kernel⟩
theorem gQ (F:Fun K "list_numbers" "list_numbers" c0 f fd) (bF:Binds K fd ["way"] []) (mF:mg "list_numbers" = some (.ref f)) (C_is_whole:Cal P w K mg base "is_whole" 1 ["thing"] (dh K)) :
    ∀ n,FnOk P w K mg base CX0 (n+1) f fd ["way"] (jX n):=by
  intro n
  induction n with
  | zero =>
    refine ⟨fun vs H Q E h=>?_,fun A outer s H args us vs Q E _ _ _ _ h=>?_⟩
    · obtain ⟨x,v,rfl,_⟩:=h;rfl
    · obtain ⟨wy,v,_,_,_,hd,_⟩:=h;cases wy <;> exact absurd hd (by simp [Wy.deep])
  | succ n ih =>
    have C_list_numbers:Cal P w K mg base "list_numbers" (n+1) ["way"] (jX n):=⟨f,fd,ih,bF,F.kp,mF⟩
    refine F.ok bY (fun vs H Q E h=>?_) (fun cdv A outer s H vs Q E hr h=>?_)
    · obtain ⟨x,v,rfl,_⟩:=h;rfl
    obtain ⟨wy,v,rfl,hw,h20,hd,q⟩:=h;refine ⟨_,(@af _ _ _ _ _ (@bH _ _ _ _ _ _ _ _ (@cr _ _ _ (@al _ _ _ _ _ _ _ _ _ _ _ C_is_whole hr (by lia) rfl (@aa _ _ _ _ _ (pv 0) ad (by rfl)) (by decide) (by rfl) (by rfl)) (by intro _;rfl)) (@ai _ _ _ (@ar _ _ _ _ (@az _ _ _ _ (@aa _ _ _ _ _ (pv 0) ad (by rfl))))) bn) (@af _ _ _ _ _ (@eu _ _ _ _ _ _ (pv 0) (@eD _ _ _ _ _ _ rfl (@au _ _ _ _ _ (@ao _ _ (1) _ (bY).nd rfl (Or.inl rfl) (.inl rfl)) (@au _ _ _ _ _ (@ao _ _ (2) _ (bY).nd rfl (Or.inl rfl) (.inl rfl)) (@au _ _ _ _ _ (@ao _ _ (3) _ (bY).nd rfl (Or.inl rfl) (.inl rfl)) bQ (by rfl)) (by rfl)) (by rfl)) (by rfl) (by rfl)) (by rfl) (by rfl) (by rfl)) (@ai _ _ _ (@ar _ _ _ _ (@am _ _ _ _ _ _ _ _ ft (@al _ _ _ _ _ _ _ _ _ _ _ C_list_numbers hr (by lia) rfl (@aa _ _ _ _ _ (pv 2) ad (by rfl)) (by decide) (by rfl) (by rfl)) (@al _ _ _ _ _ _ _ _ _ _ _ C_list_numbers hr (by lia) rfl (@aa _ _ _ _ _ (pv 3) ad (by rfl)) (by decide) (by rfl) (by rfl))))))),?_⟩;cases wy with
    | num i =>
      cases hw;refine ⟨_,rfl,_,"int",rfl,.int i,true,rfl,bC ⟨_,rfl,(by show 1≤sizeLine;decide),fun p hp=>?_⟩⟩;exact q p _ (Same.new hp _) hp ac
    | node g l r =>
      obtain ⟨a,vl,vr,rfl,ha,hl,hr'⟩:=hw;refine ⟨_,rfl,_,"tuple",rfl,.tup ha,false,rfl,aU ?_⟩;have d:max l.deep r.deep+1≤n+1:=hd;have z:l.size+r.size≤20:=h20;have zl:=l.size_pos;have zr:=r.size_pos;refine ⟨_,rfl,a,_,rfl,SqT.of ha,rfl,_,_,rfl,_,_,rfl,_,_,rfl,rfl,?_⟩;refine ⟨_,rfl,l,vl,rfl,hl,by lia,by lia,fun p H1 g1 n1 e1=>?_⟩;refine ⟨_,rfl,r,vr,rfl,hr'.mono (Tups.of g1),by lia,by lia,fun p2 H2 g2 n2 e2=>?_⟩;refine ⟨p,p2,_,_,rfl,rfl,g2 _ _ e1,e2,dj (by rw [aak,aak,l.nums_len,r.nums_len];lia),fun p3 n3=>?_⟩;refine q p3 _ ((g1.trans g2).trans (Same.new n3 _)) ((g1.trans g2).free n3) ?_;rw [ac];show some (HO.lst (l.nums.map V.int++r.nums.map V.int))=some (HO.lst ((l.nums++r.nums).map V.int));rw [aaL]
def Wy.sgs:Wy→List Sg
  | .num _=>[]
  | .node g l r=>l.sgs++g :: r.sgs
def aq:List Sg→Str
  | []=>""
  | g :: r=>g.str++aq r
theorem k_ (x:Str):("":Str)++x=x:=by
  cases x with|mk c=>show Str.mk (#[]++c)=_;simp
theorem jp (x y z:Str):x++y++z=x++(y++z):=by
  obtain ⟨a⟩:=x;obtain ⟨b⟩:=y;obtain ⟨c⟩:=z;show Str.mk ((a++b)++c)=Str.mk (a++(b++c));rw [Array.append_assoc]
theorem ib:∀ xs ys:List Sg,aq (xs++ys)=aq xs++aq ys
  | [],ys=>(k_ _).symm
  | g :: r,ys=>by show g.str++aq (r++ys)=g.str++aq r++aq ys;rw [ib r ys,jp]
theorem mE (g:Sg):g.str.length=1:=by cases g <;> rfl
theorem nJ (x y:Str):(x++y).length=x.length+y.length:=by
  cases x;cases y;show (_++_:Array Nat).size=_;rw [Array.size_append];rfl
theorem dX:∀ xs:List Sg,(aq xs).length=xs.length
  | []=>rfl
  | g :: r=>by show (g.str++aq r).length=r.length+1;rw [nJ,mE,dX r];lia
theorem Wy.sgs_len:∀ w:Wy,w.sgs.length+1=w.size
  | .num _=>rfl
  | .node g l r=>by have a:=l.sgs_len;have b:=r.sgs_len;show (l.sgs++g :: r.sgs).length+1=l.size+r.size;rw [aan,aaD];lia
def nK (n:Nat):Sp:=fun vs H Q _=>∃ w v,vs=[v]∧WyIn H w v∧w.size≤20∧w.deep≤n∧∀ H',Same H H'→Q (.str (aq w.sgs)) H'
abbrev dZ:Stmt:=top 28
theorem cB:FnScope ["way","sign","left","right"] ["way"] (ag dZ):=⟨rfl,rfl,rfl,by decide +kernel,rfl,by decide +kernel,by decide +kernel⟩
theorem i_ (F:Fun K "join_signs" "join_signs" dZ f fd) (bF:Binds K fd ["way"] []) (mF:mg "join_signs" = some (.ref f)) (C_is_whole:Cal P w K mg base "is_whole" 1 ["thing"] (dh K)) :
    ∀ n,FnOk P w K mg base CX0 (n+1) f fd ["way"] (nK n):=by
  intro n
  induction n with
  | zero =>
    refine ⟨fun vs H Q E h=>?_,fun A outer s H args us vs Q E _ _ _ _ h=>?_⟩
    · obtain ⟨x,v,rfl,_⟩:=h;rfl
    · obtain ⟨wy,v,_,_,_,hd,_⟩:=h;cases wy <;> exact absurd hd (by simp [Wy.deep])
  | succ n ih =>
    have C_join_signs:Cal P w K mg base "join_signs" (n+1) ["way"] (nK n):=⟨f,fd,ih,bF,F.kp,mF⟩
    refine F.ok cB (fun vs H Q E h=>?_) (fun cdv A outer s H vs Q E hr h=>?_)
    · obtain ⟨x,v,rfl,_⟩:=h;rfl
    obtain ⟨wy,v,rfl,hw,h20,hd,q⟩:=h;refine ⟨_,(@af _ _ _ _ _ (@bH _ _ _ _ _ _ _ _ (@cr _ _ _ (@al _ _ _ _ _ _ _ _ _ _ _ C_is_whole hr (by lia) rfl (@aa _ _ _ _ _ (pv 0) ad (by rfl)) (by decide) (by rfl) (by rfl)) (by intro _;rfl)) (@ai _ _ _ (@ar _ _ _ _ ax)) bn) (@af _ _ _ _ _ (@eu _ _ _ _ _ _ (pv 0) (@eD _ _ _ _ _ _ rfl (@au _ _ _ _ _ (@ao _ _ (1) _ (cB).nd rfl (Or.inl rfl) (.inl rfl)) (@au _ _ _ _ _ (@ao _ _ (2) _ (cB).nd rfl (Or.inl rfl) (.inl rfl)) (@au _ _ _ _ _ (@ao _ _ (3) _ (cB).nd rfl (Or.inl rfl) (.inl rfl)) bQ (by rfl)) (by rfl)) (by rfl)) (by rfl) (by rfl)) (by rfl) (by rfl) (by rfl)) (@ai _ _ _ (@ar _ _ _ _ (@am _ _ _ _ _ _ _ _ de (@am _ _ _ _ _ _ _ _ de (@al _ _ _ _ _ _ _ _ _ _ _ C_join_signs hr (by lia) rfl (@aa _ _ _ _ _ (pv 2) ad (by rfl)) (by decide) (by rfl) (by rfl)) (pv 1)) (@al _ _ _ _ _ _ _ _ _ _ _ C_join_signs hr (by lia) rfl (@aa _ _ _ _ _ (pv 3) ad (by rfl)) (by decide) (by rfl) (by rfl))))))),?_⟩;cases wy with
    | num i =>
      cases hw;exact ⟨_,rfl,_,"int",rfl,.int i,true,rfl,bC (q H (Same.refl H))⟩
    | node g l r =>
      obtain ⟨a,vl,vr,rfl,ha,hl,hr'⟩:=hw;refine ⟨_,rfl,_,"tuple",rfl,.tup ha,false,rfl,aU ?_⟩;have d:max l.deep r.deep+1≤n+1:=hd;have z:l.size+r.size≤20:=h20;have zl:=l.size_pos;have zr:=r.size_pos;have sl:=l.sgs_len;have sr:=r.sgs_len;refine ⟨_,rfl,a,_,rfl,SqT.of ha,rfl,_,_,rfl,_,_,rfl,_,_,rfl,rfl,?_⟩;refine ⟨_,rfl,l,vl,rfl,hl,by lia,by lia,fun H1 g1=>?_⟩;refine ⟨_,rfl,_,_,rfl,rfl,dj (by rw [dX,mE];lia),?_⟩;refine ⟨_,rfl,r,vr,rfl,hr'.mono (Tups.of g1),by lia,by lia,fun H2 g2=>?_⟩;refine ⟨_,_,rfl,rfl,dj (by rw [nJ,dX,mE,dX];lia),?_⟩;have e:aq (l.sgs++g :: r.sgs)=aq l.sgs++g.str++aq r.sgs:=by rw [ib,jp];rfl
      have q':=q H2 (g1.trans g2);show Q (.str (aq l.sgs++g.str++aq r.sgs)) H2;rw [← e];exact q'
open PySem L2
theorem gJ (x m:Int) (h:0 < m):0≤x % m∧x % m < m:=⟨Int.emod_nonneg x (by lia),Int.emod_lt_of_pos x h⟩
end
open PySem L2
def Pot (H:Hp) (w:Addr):Prop:=∃ a c k,H w=some (.lst [.int a,.int c,.int k])
theorem Pot.keep {H H':Hp} {w:Addr} (h:Pot H w) (s:Same H H'):Pot H' w:=by
  obtain ⟨a,c,k,e⟩:=h;exact ⟨a,c,k,s _ _ e⟩
theorem Pot.ne {w p:Addr} {H:Hp} (h:Pot H w) (n:H p=none):p≠w:=fun e=>by
  subst e;obtain ⟨_,_,_,z⟩:=h;rw [z] at n;cases n
theorem Pot.free {w p:Addr} {H H':Hp} (h:Pot H' w) (b:But w H H') (n:H' p=none):H p=none:=by
  cases q:H p with
  | none=>rfl
  | some o=>rw [b p o (h.ne n) q] at n;cases n
section
variable {P:Program} {w:World} {K:aab} {mg:Str→Option Value} {base:Heap} {f:Addr} {fd:FuncData}
def Small (ns:List Int):Prop:=∀ i∈ns,-1000000000000 < i∧i < 1000000000000
theorem qz {xs:List Int} {r:Int} (h0:0≤r) (h1:r < xs.length):∃ u:Int,atI (xs.map V.int) r=some (.int u)∧u∈xs:=by
  obtain ⟨j,rfl⟩:∃ j:Nat,r=(j:Int):=⟨r.toNat,by lia⟩
  have hj:j < xs.length:=by lia
  exact ⟨xs[j],dn (by rw [aaU,aad hj];rfl),abp hj⟩
theorem pm {k:Int} (h0:0≤k) (h1:k < 2):∃ z:Int,atI [V.int 1,.int (-1)] k=some (.int z)∧(z=1∨z=-1):=by
  have : k=0∨k=1:=by lia
  rcases this with rfl|rfl
  · exact ⟨1,rfl,.inl rfl⟩
  · exact ⟨-1,rfl,.inr rfl⟩
def gt:List V:=[.str "+",.str "-",.str "*",.str "+-",.str "+*",.str "-*",.str "+-*"]
def cR (gs:List Sg):Prop:=inV (.str (aq gs)) gt=true
theorem wN {k:Int} (h0:0≤k) (h1:k < 8):∃ gs:List Sg,atI [V.str "+",.str "-",.str "*",.str "+-",.str "+*",.str "-*",.str "+-*",.str "+-*"] k=some (.str (aq gs))∧1≤gs.length∧gs.length≤3∧cR gs:=by
  have : k=0∨k=1∨k=2∨k=3∨k=4∨k=5∨k=6∨k=7:=by lia
  rcases this with rfl|rfl|rfl|rfl|rfl|rfl|rfl|rfl
  · exact ⟨[.plus],by rfl,by decide,by decide,by unfold cR;decide +kernel⟩
  · exact ⟨[.minus],by rfl,by decide,by decide,by unfold cR;decide +kernel⟩
  · exact ⟨[.times],by rfl,by decide,by decide,by unfold cR;decide +kernel⟩
  · exact ⟨[.plus,.minus],by rfl,by decide,by decide,by unfold cR;decide +kernel⟩
  · exact ⟨[.plus,.times],by rfl,by decide,by decide,by unfold cR;decide +kernel⟩
  · exact ⟨[.minus,.times],by rfl,by decide,by decide,by unfold cR;decide +kernel⟩
  · exact ⟨[.plus,.minus,.times],by rfl,by decide,by decide,by unfold cR;decide +kernel⟩
  · exact ⟨[.plus,.minus,.times],by rfl,by decide,by decide,by unfold cR;decide +kernel⟩
def jZ:Sp:=fun vs H Q _=>∃ c k,vs=[.int c,.int k]∧∀ r,Q (.int r) H
abbrev ee:Stmt:=top 52
theorem dq:FnScope ["cell","k","number"] ["cell","k"] (ag ee):=⟨rfl,rfl,rfl,by decide +kernel,rfl,by decide +kernel,by decide +kernel⟩
theorem qI (F:Fun K "_law_mixed" "_law_mixed" ee f fd):FnOk P w K mg base CX0 1 f fd ["cell","k"] jZ:=by
  refine F.ok dq (fun vs H Q E h=>?_) (fun cdv A outer s H vs Q E hr h=>?_)
  · obtain ⟨c,k,rfl,_⟩:=h;rfl
  obtain ⟨c,k,rfl,q⟩:=h;refine ⟨_,(@af _ _ _ _ _ (@aw _ _ (2) _ _ _ _ (dq).nd rfl (Or.inl rfl) (@am _ _ _ _ _ _ _ _ cM (@am _ _ _ _ _ _ _ _ dD (@am _ _ _ _ _ _ _ _ bB (@am _ _ _ _ _ _ _ _ bB (@am _ _ _ _ _ _ _ _ cM (pv 0) ae) (@am _ _ _ _ _ _ _ _ dD ae (pv 1))) ae) ae) ae) (by rfl) (by first|exact .inl rfl|exact .inr rfl|assumption)) (@af _ _ _ _ _ (@aw _ _ (2) _ _ _ _ (dq).nd rfl (Or.inl rfl) (@am _ _ _ _ _ _ _ _ cM (@am _ _ _ _ _ _ _ _ dD (pv 2) (pv 2)) ae) (by rfl) (by first|exact .inl rfl|exact .inr rfl|assumption)) (@ai _ _ _ (@ar _ _ _ _ (@am _ _ _ _ _ _ _ _ lI (@am _ _ _ _ _ _ _ _ cM (@am _ _ _ _ _ _ _ _ dD (@am _ _ _ _ _ _ _ _ bB (pv 2) (@am _ _ _ _ _ _ _ _ dD ae (@am _ _ _ _ _ _ _ _ bB (pv 1) ae))) ae) ae) ae))))),?_⟩;have z:=gJ ((c % 2147483647+7919 * k+1) * 48271) 2147483647 (by decide);refine ⟨_,rfl,_,_,rfl,rfl,(show (0:Int) < 2147483647 by decide),_,rfl,_,_,rfl,rfl,.inl ⟨by decide,by decide⟩,_,_,rfl,rfl,_,_,rfl,rfl,_,_,rfl,rfl,.inr ⟨by decide,by decide⟩,_,_,rfl,rfl,(show (0:Int) < 2147483647 by decide),?_⟩;refine ⟨_,rfl,_,rfl,_,_,rfl,rfl,.inl ⟨by lia,by lia⟩,_,_,rfl,rfl,(show (0:Int) < 2147483629 by decide),?_⟩;refine ⟨_,rfl,_,rfl,_,_,rfl,rfl,_,_,rfl,rfl,.inl ⟨by decide,by decide⟩,_,_,rfl,rfl,_,_,rfl,rfl,.inr ⟨by decide,by decide⟩,_,_,rfl,rfl,(show (0:Int) < 2147483579 by decide),_,_,rfl,rfl,⟨by decide,by decide⟩,?_⟩;exact q _
def qj:Sp:=fun vs H Q _=>∃ cell,vs=[.int cell]∧∀ p H',Same H H'→H p=none→Pot H' p→Q (.ref p) H'
theorem p50:((10:Int) ^ (50:Int).toNat).natAbs < 2 ^ 4000∧((10:Int) ^ (50:Int).toNat * 10 ^ (50:Int).toNat).natAbs < 2 ^ 4000∧((10:Int) ^ (50:Int).toNat * 10 ^ (50:Int).toNat * 10 ^ (50:Int).toNat).natAbs < 2 ^ 4000∧0 < ((10:Int) ^ (50:Int).toNat * 10 ^ (50:Int).toNat * 10 ^ (50:Int).toNat * 10 ^ (50:Int).toNat):=by decide +kernel
abbrev fT:Stmt:=top 53
theorem lw:FnScope ["cell"] ["cell"] (ag fT):=⟨rfl,rfl,rfl,by decide +kernel,rfl,by decide +kernel,by decide +kernel⟩
theorem uw (F:Fun K "_law_pot" "_law_pot" fT f fd) (B:Bu K mg):FnOk P w K mg base CX0 1 f fd ["cell"] qj:=by
  refine F.ok lw (fun vs H Q E h=>?_) (fun cdv A outer s H vs Q E hr h=>?_)
  · obtain ⟨c,rfl,_⟩:=h;rfl
  obtain ⟨c,rfl,q⟩:=h;refine ⟨_,(@ai _ _ _ (@ar _ _ _ _ (@az _ _ _ _ (@aa _ _ _ _ _ (@am _ _ _ _ _ _ _ _ dD (@am _ _ _ _ _ _ _ _ cM (pv 0) (@am _ _ _ _ _ _ _ _ fD (@am _ _ _ _ _ _ _ _ fD (@am _ _ _ _ _ _ _ _ fD (@am _ _ _ _ _ _ _ _ fo ae ae) (@am _ _ _ _ _ _ _ _ fo ae ae)) (@am _ _ _ _ _ _ _ _ fo ae ae)) (@am _ _ _ _ _ _ _ _ fo ae ae))) (@jv _ _ _ _ _ _ _ _ _ p8 rfl B.iint PyProof.Rows.boot_int (@aa _ _ _ _ _ (@bS _ _ _ _ _ _ _ _ vm (pv 0) (@am _ _ _ _ _ _ _ _ fo ae ae) (a4 _)) ad (by rfl)) (by decide) (by decide) (by rfl) (by rfl))) (@aa _ _ _ _ _ (pv 0) (@aa _ _ _ _ _ ae ad (by rfl)) (by rfl)) (by rfl))))),?_⟩;obtain ⟨b1,b2,b3,b4⟩:=p50;have cp:vT 10 50:=⟨by decide,by decide,by decide⟩
  refine ⟨_,rfl,_,_,rfl,rfl,cp,_,_,rfl,rfl,cp,_,_,rfl,rfl,⟨b1,b1⟩,_,_,rfl,rfl,cp,_,_,rfl,rfl,⟨b2,b1⟩,_,_,rfl,rfl,cp,_,_,rfl,rfl,⟨b3,b1⟩,_,_,rfl,rfl,b4,?_⟩;refine ⟨_,rfl,_,_,rfl,rfl,⟨by decide,by decide,by decide⟩,_,_,rfl,rfl,.inr ⟨_,rfl,_,_,rfl,rfl,.inr ?_,_,rfl,(by show 3≤sizeLine;decide),fun p hp=>q p _ (Same.new hp _) hp ⟨_,_,_,ac⟩⟩⟩;split <;> exact ⟨by decide,by decide⟩
def eX:Sp:=fun vs H Q _=>∃ w m,vs=[.ref w,.int m]∧0 < m∧m < 2 ^ 63∧Pot H w∧∀ r H',0≤r→r < m→But w H H'→Pot H' w→Q (.int r) H'
abbrev fh:Stmt:=top 54
theorem f_:FnScope ["pot","many","told"] ["pot","many"] (ag fh):=⟨rfl,rfl,rfl,by decide +kernel,rfl,by decide +kernel,by decide +kernel⟩
theorem sw (F:Fun K "_law_take" "_law_take" fh f fd) (C__law_mixed:Cal P w K mg base "_law_mixed" 1 ["cell","k"] jZ):FnOk P w K mg base CX0 2 f fd ["pot","many"] eX:=by
  refine F.ok f_ (fun vs H Q E h=>?_) (fun cdv A outer s H vs Q E hr h=>?_)
  · obtain ⟨w,m,rfl,_⟩:=h;rfl
  obtain ⟨wl,m,rfl,h0,h1,⟨a,c,k,e⟩,q⟩:=h;refine ⟨_,(@af _ _ _ _ _ (@eu _ _ _ _ _ _ (@am _ _ _ _ _ _ _ _ bB (@aK _ _ _ _ _ _ _ aQ (pv 0) ae (fun _ _=>rfl)) ae) (@qD _ _ _ _ _ _ _ (pv 0) ae li (by intro _;rfl)) (by rfl) (by rfl) (by rfl)) (@af _ _ _ _ _ (@bH _ _ _ _ _ _ _ _ (@bj _ _ _ _ _ _ _ _ s_ (@aK _ _ _ _ _ _ _ aQ (pv 0) ae (fun _ _=>rfl)) ae (a4 _)) (@af _ _ _ _ _ (@aw _ _ (2) _ _ _ _ (f_).nd rfl (Or.inl rfl) (@am _ _ _ _ _ _ _ _ cM (@aK _ _ _ _ _ _ _ aQ (pv 0) ae (fun _ _=>rfl)) (pv 1)) (by rfl) (by first|exact .inl rfl|exact .inr rfl|assumption)) (@af _ _ _ _ _ (@eu _ _ _ _ _ _ (@am _ _ _ _ _ _ _ _ lI (@aK _ _ _ _ _ _ _ aQ (pv 0) ae (fun _ _=>rfl)) (pv 1)) (@qD _ _ _ _ _ _ _ (pv 0) ae li (by intro _;rfl)) (by rfl) (by rfl) (by rfl)) (@ai _ _ _ (@ar _ _ _ _ (pv 2))))) bn) (@ai _ _ _ (@ar _ _ _ _ (@am _ _ _ _ _ _ _ _ cM (@al _ _ _ _ _ _ _ _ _ _ _ C__law_mixed hr (by lia) rfl (@aa _ _ _ _ _ (@aK _ _ _ _ _ _ _ aQ (pv 0) ae (fun _ _=>rfl)) (@aa _ _ _ _ _ (@aK _ _ _ _ _ _ _ aQ (pv 0) ae (fun _ _=>rfl)) ad (by rfl)) (by rfl)) (by decide) (by rfl) (by rfl)) (pv 1)))))),?_⟩;refine ⟨_,rfl,wl,_,_,_,rfl,rfl,SqL.of e,rfl,_,_,rfl,rfl,_,rfl,wl,_,_,2,rfl,rfl,e,rfl,?_⟩;have e1:upd H wl (.lst (List.set [V.int a,.int c,.int k] 2 (.int (k+1)))) wl=some (.lst [.int a,.int c,.int (k+1)]):=ac;have b1:But wl H (upd H wl (.lst (List.set [V.int a,.int c,.int k] 2 (.int (k+1))))):=But.put;show (_:Hp→Prop) (upd H wl (.lst (List.set [V.int a,.int c,.int k] 2 (.int (k+1)))));generalize upd H wl (.lst (List.set [V.int a,.int c,.int k] 2 (.int (k+1))))=H1 at e1 b1 ⊢;refine ⟨_,rfl,wl,_,_,_,rfl,rfl,SqL.of e1,rfl,_,_,rfl,rfl,_,rfl,iJ (fun _=>?_) (fun _=>?_)⟩
  · refine ⟨_,rfl,wl,_,_,_,rfl,rfl,SqL.of e1,rfl,_,rfl,_,_,rfl,rfl,h0,?_⟩;refine ⟨_,rfl,wl,_,_,_,rfl,rfl,SqL.of e1,rfl,_,rfl,_,_,rfl,rfl,⟨h0,by lia⟩,_,rfl,wl,_,_,0,rfl,rfl,e1,rfl,?_⟩;refine ⟨_,rfl,?_⟩;have z:=gJ a m h0;exact q _ _ z.1 z.2 (b1.trans But.put) ⟨_,_,_,ac⟩
  · refine ⟨_,rfl,wl,_,_,_,rfl,rfl,SqL.of e1,rfl,_,rfl,wl,_,_,_,rfl,rfl,SqL.of e1,rfl,_,_,rfl,fun r=>?_⟩;have z:=gJ r m h0;exact ⟨_,rfl,_,_,rfl,rfl,h0,q _ _ z.1 z.2 b1 ⟨_,_,_,e1⟩⟩
def hU:Sp:=fun vs H Q _=>∃ w y,vs=[.ref w,.int y]∧0≤y∧y < 6∧Pot H w∧∀ r H',-1000000000000 < r→r < 1000000000000→But w H H'→Pot H' w→Q (.int r) H'
abbrev dB:Stmt:=top 55
theorem cZ:FnScope ["pot","way","far","some"] ["pot","way"] (ag dB):=⟨rfl,rfl,rfl,by decide +kernel,rfl,by decide +kernel,by decide +kernel⟩
theorem oP (F:Fun K "_law_number" "_law_number" dB f fd) (C__law_take:Cal P w K mg base "_law_take" 2 ["pot","many"] eX):FnOk P w K mg base CX0 3 f fd ["pot","way"] hU:=by
  refine F.ok cZ (fun vs H Q E h=>?_) (fun cdv A outer s H vs Q E hr h=>?_)
  · obtain ⟨w,m,rfl,_⟩:=h;rfl
  obtain ⟨wl,y,rfl,y0,y6,hp,q⟩:=h;refine ⟨_,(@af _ _ _ _ _ (@aw _ _ (2) _ _ _ _ (cZ).nd rfl (Or.inl rfl) (@am _ _ _ _ _ _ _ _ bB (@am _ _ _ _ _ _ _ _ dD (@al _ _ _ _ _ _ _ _ _ _ _ C__law_take hr (by lia) rfl (@aa _ _ _ _ _ (pv 0) (@aa _ _ _ _ _ (@am _ _ _ _ _ _ _ _ fo ae ae) ad (by rfl)) (by rfl)) (by decide) (by rfl) (by rfl)) (@am _ _ _ _ _ _ _ _ fo ae ae)) (@al _ _ _ _ _ _ _ _ _ _ _ C__law_take hr (by lia) rfl (@aa _ _ _ _ _ (pv 0) (@aa _ _ _ _ _ (@am _ _ _ _ _ _ _ _ fo ae ae) ad (by rfl)) (by rfl)) (by decide) (by rfl) (by rfl))) (by rfl) (by first|exact .inl rfl|exact .inr rfl|assumption)) (@af _ _ _ _ _ (@aw _ _ (3) _ _ _ _ (cZ).nd rfl (Or.inl rfl) (@az _ _ _ _ (@aa _ _ _ _ _ (@am _ _ _ _ _ _ _ _ cM (pv 2) ae) (@aa _ _ _ _ _ (@am _ _ _ _ _ _ _ _ fm (@am _ _ _ _ _ _ _ _ cM (pv 2) ae) ae) (@aa _ _ _ _ _ (@am _ _ _ _ _ _ _ _ fm (@am _ _ _ _ _ _ _ _ cM (pv 2) ae) ae) (@aa _ _ _ _ _ (@am _ _ _ _ _ _ _ _ dD (pv 2) (@aK _ _ _ _ _ _ _ aQ (@az _ _ _ _ (@aa _ _ _ _ _ ae (@aa _ _ _ _ _ (@sY _ _ _ _ _ _ qc ae) ad (by rfl)) (by rfl))) (@al _ _ _ _ _ _ _ _ _ _ _ C__law_take hr (by lia) rfl (@aa _ _ _ _ _ (pv 0) (@aa _ _ _ _ _ ae ad (by rfl)) (by rfl)) (by decide) (by rfl) (by rfl)) (fun _ _=>rfl))) (@aa _ _ _ _ _ (@am _ _ _ _ _ _ _ _ cM (pv 2) ae) (@aa _ _ _ _ _ (@am _ _ _ _ _ _ _ _ bB ae (@am _ _ _ _ _ _ _ _ cM (pv 2) ae)) ad (by rfl)) (by rfl)) (by rfl)) (by rfl)) (by rfl)) (by rfl))) (by rfl) (by first|exact .inl rfl|exact .inr rfl|assumption)) (@ai _ _ _ (@ar _ _ _ _ (@aK _ _ _ _ _ _ _ aQ (pv 3) (pv 1) (fun _ _=>rfl)))))),?_⟩;have p6:(10:Int) ^ (6:Int).toNat=1000000:=by decide
  refine ⟨_,rfl,10,6,rfl,rfl,⟨by decide,by decide,by decide⟩,wl,_,rfl,(by decide),(by decide),hp,fun r1 H1 a1 c1 b1 w1=>⟨10,6,rfl,rfl,⟨by decide,by decide,by decide⟩,_,_,rfl,rfl,.inr ⟨by decide,by decide⟩,?_⟩⟩;refine ⟨_,rfl,10,6,rfl,rfl,⟨by decide,by decide,by decide⟩,wl,_,rfl,(by decide),(by decide),w1,fun r2 H2 a2 c2 b2 w2=>⟨_,_,rfl,rfl,?_⟩⟩;have r1b:r1 < 1000000:=c1;have r2b:r2 < 1000000:=c2;have f0:0≤(r1 * 10 ^ (6:Int).toNat+r2)∧(r1 * 10 ^ (6:Int).toNat+r2) < 1000000000000:=by rw [p6];lia
  have m10:=gJ (r1 * 10 ^ (6:Int).toNat+r2) 10 (by decide);have m3:=gJ (r1 * 10 ^ (6:Int).toNat+r2) 3 (by decide);have m101:=gJ (r1 * 10 ^ (6:Int).toNat+r2) 101 (by decide);have m2:=gJ (r1 * 10 ^ (6:Int).toNat+r2) 2 (by decide);have m9:=gJ (r1 * 10 ^ (6:Int).toNat+r2) 9 (by decide);refine ⟨_,rfl,_,_,rfl,rfl,(show (0:Int) < 10 by decide),_,rfl,_,_,rfl,rfl,(show (0:Int) < 3 by decide),_,_,rfl,rfl,_,rfl,_,_,rfl,rfl,(show (0:Int) < 101 by decide),_,_,rfl,rfl,_,rfl,_,rfl,(by show 2≤sizeLine;decide),fun p3 n3=>?_⟩;have s3:=Same.new n3 (.lst [V.int 1,.int (-1)]);have e3:upd H2 p3 (.lst [V.int 1,.int (-1)]) p3=some (.lst [V.int 1,.int (-1)]):=ac;have w3:=w2.keep s3;have n3w:=w2.ne n3;have b3:But wl H2 _:=But.of s3;generalize upd H2 p3 (.lst [V.int 1,.int (-1)])=H3 at s3 e3 w3 b3 ⊢;refine ⟨_,rfl,wl,2,rfl,by decide,by decide,w3,fun r3 H4 a3 c3 b4 w4=>?_⟩;obtain ⟨s1,hs1,vs1⟩:=pm a3 c3;refine ⟨p3,_,_,_,rfl,rfl,SqL.of (b4 _ _ n3w e3),hs1,_,_,rfl,rfl,.inl ⟨by lia,by lia⟩,?_⟩;refine ⟨_,rfl,_,_,rfl,rfl,(show (0:Int) < 2 by decide),_,rfl,_,_,rfl,rfl,(show (0:Int) < 9 by decide),_,_,rfl,rfl,(by show 6≤sizeLine;decide),fun p5 n5=>?_⟩;have s5:=Same.new n5 (.lst (([(r1 * 10 ^ (6:Int).toNat+r2) % 10,(r1 * 10 ^ (6:Int).toNat+r2) % 3 - 1,(r1 * 10 ^ (6:Int).toNat+r2) % 101 - 50,(r1 * 10 ^ (6:Int).toNat+r2) * s1,(r1 * 10 ^ (6:Int).toNat+r2) % 2,1+(r1 * 10 ^ (6:Int).toNat+r2) % 9]:List Int).map V.int));obtain ⟨el,hel,mel⟩:=qz (xs:=[(r1 * 10 ^ (6:Int).toNat+r2) % 10,(r1 * 10 ^ (6:Int).toNat+r2) % 3 - 1,(r1 * 10 ^ (6:Int).toNat+r2) % 101 - 50,(r1 * 10 ^ (6:Int).toNat+r2) * s1,(r1 * 10 ^ (6:Int).toNat+r2) % 2,1+(r1 * 10 ^ (6:Int).toNat+r2) % 9]) y0 y6;refine ⟨_,rfl,_,rfl,p5,_,_,_,rfl,rfl,SqL.of ac,hel,?_⟩;have sb:-1000000000000 < el∧el < 1000000000000:=by
    simp only [aai,abb,or_false] at mel;rcases mel with rfl|rfl|rfl|rfl|rfl|rfl
    · lia
    · lia
    · lia
    · rcases vs1 with rfl|rfl <;> lia
    · lia
    · lia
  exact q el _ sb.1 sb.2 ((((b1.trans b2).trans b3).trans b4).trans (But.of s5)) (w4.keep s5)
def mz:Sp:=fun vs H Q _=>∃ w n,vs=[.ref w,.int n]∧1≤n∧n≤20∧Pot H w ∧
  ∀ p ns H',But w H H'→Pot H' w→H p=none→H' p=some (.lst (ns.map V.int))→(ns.length:Int)=n→Small ns→Q (.ref p) H'
abbrev fS:Stmt:=top 56
theorem bG:FnScope ["pot","many","way","found","k","kind"] ["pot","many"] (ag fS):=⟨rfl,rfl,rfl,by decide +kernel,rfl,by decide +kernel,by decide +kernel⟩
theorem uv (F:Fun K "_law_row" "_law_row" fS f fd) (B:Bu K mg) (C__law_take:Cal P w K mg base "_law_take" 2 ["pot","many"] eX) (C__law_number:Cal P w K mg base "_law_number" 3 ["pot","way"] hU):FnOk P w K mg base CX0 4 f fd ["pot","many"] mz:=by
  refine F.ok bG (fun vs H Q E h=>?_) (fun cdv A outer s H vs Q E hr h=>?_)
  · obtain ⟨w,m,rfl,_⟩:=h;rfl
  obtain ⟨wl,n,rfl,h1,h20,hp,q⟩:=h;refine ⟨_,(@af _ _ _ _ _ (@aw _ _ (2) _ _ _ _ (bG).nd rfl (Or.inl rfl) (@al _ _ _ _ _ _ _ _ _ _ _ C__law_take hr (by lia) rfl (@aa _ _ _ _ _ (pv 0) (@aa _ _ _ _ _ ae ad (by rfl)) (by rfl)) (by decide) (by rfl) (by rfl)) (by rfl) (by first|exact .inl rfl|exact .inr rfl|assumption)) (@af _ _ _ _ _ (@aw _ _ (3) _ _ _ _ (bG).nd rfl (Or.inl rfl) (@az _ _ _ _ ad) (by rfl) (by first|exact .inl rfl|exact .inr rfl|assumption)) (@af _ _ _ _ _ (@fi _ _ _ _ _ _ _ _ abn rfl (@dJ _ _ _ _ _ _ rfl B.irange (@aa _ _ _ _ _ (pv 1) ad (by rfl)) (by rfl)) (@ao _ _ (4) _ (bG).nd rfl (Or.inl rfl) (.inl rfl)) (@af _ _ _ _ _ (@aw _ _ (5) _ _ _ _ (bG).nd rfl (Or.inl rfl) (pv 2) (by rfl) (by first|exact .inl rfl|exact .inr rfl|assumption)) (@gY _ _ _ _ _ (@bH _ _ _ _ _ _ _ _ (@bj _ _ _ _ _ _ _ _ s_ (pv 2) ae (a4 _)) (@ai _ _ _ (@aw _ _ (5) _ _ _ _ (bG).nd rfl (Or.inl rfl) (@al _ _ _ _ _ _ _ _ _ _ _ C__law_take hr (by lia) rfl (@aa _ _ _ _ _ (pv 0) (@aa _ _ _ _ _ ae ad (by rfl)) (by rfl)) (by decide) (by rfl) (by rfl)) (by rfl) (by first|exact .inl rfl|exact .inr rfl|assumption))) bn) (@ai _ _ _ (@br _ _ _ _ (@fJ _ _ _ _ _ _ _ _ _ _ _ _ aaI aaV aaW cg (pv 3) (@aa _ _ _ _ _ (@al _ _ _ _ _ _ _ _ _ _ _ C__law_number hr (by lia) rfl (@aa _ _ _ _ _ (pv 0) (@aa _ _ _ _ _ (pv 5) ad (by rfl)) (by rfl)) (by decide) (by rfl) (by rfl)) ad (by rfl)) (by rfl) (by rfl) (by rfl) (by rfl) (by rfl)) (by rfl))))) (by intro _;rfl)) (@gY _ _ _ _ _ (@bH _ _ _ _ _ _ _ _ (@bj _ _ _ _ _ _ _ _ eW (pv 2) ae (a4 _)) (@ai _ _ _ (@aw _ _ (3) _ _ _ _ (bG).nd rfl (Or.inl rfl) (@am _ _ _ _ _ _ _ _ ko (@gg _ _ _ _ _ _ _ _ _ _ gX (pv 3) g0 (@gZ _ _ _ ae)) (pv 1)) (by rfl) (by first|exact .inl rfl|exact .inr rfl|assumption))) bn) (@ai _ _ _ (@ar _ _ _ _ (pv 3))))))),?_⟩;refine ⟨_,rfl,wl,9,rfl,by decide,by decide,hp,fun y H1 y0 y9 b1 w1=>?_⟩;refine ⟨(by show 0≤sizeLine;decide),fun pf nf=>?_⟩;have nfw:=w1.ne nf;have hfree:H pf=none:=w1.free b1 nf;refine ⟨_,rfl,n,rfl,by lia,by lia,jK (n:=n.toNat) (fun j σ H'=>∃ (ns:List Int) (c4 c5:Option V),σ=[some (.ref wl),some (.int n),some (.int y),some (.ref pf),c4,c5]∧H' pf=some (.lst (ns.map V.int))∧ns.length=j∧Small ns∧But wl H1 H'∧Pot H' wl) ⟨[],_,_,rfl,ac,rfl,(fun _ z=>nomatch z),But.new nf _,w1.keep (Same.new nf _)⟩ ?_ ?_⟩
  · rintro j σ H2 hj ⟨ns,c4,c5,rfl,ef,hl,hs,b2,w2⟩;refine ⟨_,rfl,fun σ H3=>∃ kd,σ=[some (.ref wl),some (.int n),some (.int y),some (.ref pf),some (.int (0+(j:Int))),some (.int kd)]∧0≤kd∧kd < 6∧But wl H2 H3∧Pot H3 wl,?_,?_⟩
    · refine ⟨_,rfl,_,_,rfl,rfl,_,rfl,iJ (fun c=>?_) (fun c=>?_)⟩
      · exact ⟨_,rfl,wl,6,rfl,by decide,by decide,w2,fun r H3 a3 c3 b3 w3=>⟨r,rfl,a3,c3,b3,w3⟩⟩
      · have c:¬ (5 < y):=fun z=>c (decide_eq_true z);exact ⟨y,rfl,y0,by lia,But.refl,w2⟩
    · rintro σ H3 ⟨kd,rfl,k0,k6,b3,w3⟩;have ef3:=b3 _ _ nfw ef;refine ⟨_,rfl,.inl ⟨rfl,_,SqL.of ef3⟩,_,rfl,_,rfl,wl,kd,rfl,k0,k6,w3,fun r H4 r1 r2 b4 w4=>?_⟩;have ef4:=b4 _ _ nfw ef3;refine ⟨pf,_,_,rfl,rfl,ef4,aJ (by rw [aak];lia),?_⟩;refine ⟨ns++[r],_,_,rfl,by rw [ac,aaL];rfl,by rw [aan,hl];rfl,fun x hx=>(aau.mp hx).elim (hs x) fun z=>by rw [aar.mp z];exact ⟨r1,r2⟩,fun c o nc hc=>?_,?_⟩
      · by_cases z:c=pf
        · subst z;rw [nf] at hc;cases hc
        · rw [aj z];exact ((b2.trans b3).trans b4) c o nc hc
      · obtain ⟨wa,wb,wc,we⟩:=w4;exact ⟨wa,wb,wc,by rw [aj (abt nfw)];exact we⟩
  · rintro σ H2 ⟨ns,c4,c5,rfl,ef,hl,hs,b2,w2⟩;have lns:(ns.length:Int)=n:=by lia
    refine ⟨fun σ H3=>∃ pr ms,σ=[some (.ref wl),some (.int n),some (.int y),some (.ref pr),c4,c5]∧H3 pr=some (.lst (ms.map V.int))∧ms.length=ns.length∧Small ms∧But wl H2 H3∧Pot H3 wl∧H pr=none,?_,?_⟩
    · refine ⟨_,rfl,rfl,_,rfl,iJ (fun c=>?_) (fun c=>?_)⟩
      · refine ⟨_,rfl,1,rfl,pf,_,rfl,SqL.of ef,fun p3 n3=>?_⟩;have s3:=Same.new n3 (.lst (dR (ns.map V.int) none (some 1)));obtain ⟨x0,r0,rfl⟩:∃ x0 r0,ns=x0 :: r0:=by
          cases ns with
          | nil=>simp at lns;lia
          | cons x r=>exact ⟨x,r,rfl⟩
        have ec:dR ((x0 :: r0).map V.int) none (some 1)=[V.int x0]:=by
          unfold dR HT.sIx;simp
        rw [ec] at s3 ⊢;refine ⟨_,rfl,p3,n,_,rfl,rfl,ac,by lia,by lia,dj (by simp;lia),fun p4 n4=>?_⟩;have s4:=Same.new n4 (.lst (aaw n.toNat [V.int x0]).flatten);have er:(aaw n.toNat [V.int x0]).flatten=(aaw n.toNat x0).map V.int:=by simp
        have S4:=s3.trans s4;refine ⟨p4,aaw n.toNat x0,rfl,by rw [ac,er],by rw [acl];lia,fun x hx=>?_,But.of S4,w2.keep S4,?_⟩
        · rw [ab2 hx];exact hs x0 aav
        · have n4':H2 p4=none:=s3.free n4;have n41:H1 p4=none:=by
            cases e:H1 p4 with
            | none=>rfl
            | some o=>rw [b2 _ _ (w2.ne n4') e] at n4';cases n4'
          exact w1.free b1 n41
      · exact ⟨pf,ns,rfl,ef,rfl,hs,But.refl,w2,hfree⟩
    · rintro σ H3 ⟨pr,ms,rfl,er,lm,hm,b3,w3,fr⟩;exact ⟨_,rfl,q pr ms H3 ((b1.trans b2).trans b3) w3 fr er (by lia) hm⟩
def g9:Sp:=fun vs H Q _=>∃ w,vs=[.ref w]∧Pot H w∧∀ gs H',1≤gs.length→gs.length≤3→cR gs→But w H H'→Pot H' w→Q (.str (aq gs)) H'
abbrev ed:Stmt:=top 57
theorem i7:FnScope ["pot"] ["pot"] (ag ed):=⟨rfl,rfl,rfl,by decide +kernel,rfl,by decide +kernel,by decide +kernel⟩
theorem kw (F:Fun K "_law_signs" "_law_signs" ed f fd) (C__law_take:Cal P w K mg base "_law_take" 2 ["pot","many"] eX):FnOk P w K mg base CX0 3 f fd ["pot"] g9:=by
  refine F.ok i7 (fun vs H Q E h=>?_) (fun cdv A outer s H vs Q E hr h=>?_)
  · obtain ⟨x,rfl,_⟩:=h;rfl
  obtain ⟨wl,rfl,hw,q⟩:=h;refine ⟨_,(@ai _ _ _ (@ar _ _ _ _ (@aK _ _ _ _ _ _ _ aQ (@az _ _ _ _ (@aa _ _ _ _ _ ax (@aa _ _ _ _ _ ax (@aa _ _ _ _ _ ax (@aa _ _ _ _ _ ax (@aa _ _ _ _ _ ax (@aa _ _ _ _ _ ax (@aa _ _ _ _ _ ax (@aa _ _ _ _ _ ax ad (by rfl)) (by rfl)) (by rfl)) (by rfl)) (by rfl)) (by rfl)) (by rfl)) (by rfl))) (@al _ _ _ _ _ _ _ _ _ _ _ C__law_take hr (by lia) rfl (@aa _ _ _ _ _ (pv 0) (@aa _ _ _ _ _ ae ad (by rfl)) (by rfl)) (by decide) (by rfl) (by rfl)) (fun _ _=>rfl)))),?_⟩;refine ⟨(by show 8≤sizeLine;decide),fun p1 n1=>?_⟩;have w1:=hw.keep (Same.new n1 (.lst [.str "+",.str "-",.str "*",.str "+-",.str "+*",.str "-*",.str "+-*",.str "+-*"]));refine ⟨_,rfl,wl,8,rfl,by decide,by decide,w1,fun r1 H1 a1 b1 g1 w2=>?_⟩;obtain ⟨gs,hg,l1,l2,l3⟩:=wN a1 b1;exact ⟨p1,_,_,_,rfl,rfl,SqL.of (g1 _ _ (hw.ne n1) ac),hg,q gs H1 l1 l2 l3 ((But.new n1 _).trans g1) w2⟩
end
open PySem L2
structure Cp (K:aab) (mg:Str→Option Value) (tk:Tok) (aP:Addr):Prop where
  gMOST_NUMBERS:mg "MOST_NUMBERS" = some (.int 9 tk)
  gSIGNS_TO_PUT:mg "SIGNS_TO_PUT" = some (.ref aP)
  sSIGNS_TO_PUT:∀ H,SqT K H aP gt
theorem PairsIn.mono {H H':Hp} (t:Tups H H'):∀ {ps:List (Int × Int)} {vs:List V},PairsIn H ps vs→PairsIn H' ps vs
  | _,_,.nil=>.nil
  | _,_,.cons ⟨a,e,h⟩ b=>.cons ⟨a,e,t _ _ h⟩ (PairsIn.mono t b)
theorem PairsIn.app {H:Hp} {ps qs:List (Int × Int)} {vs us:List V} (a:PairsIn H ps vs) (b:PairsIn H qs us):PairsIn H (ps++qs) (vs++us):=by
  induction a with
  | nil=>exact b
  | cons x _ ih=>exact .cons x ih
theorem PairsIn.snoc {H:Hp} {ps:List (Int × Int)} {vs:List V} {p:Int × Int} {v:V} (h:PairsIn H ps vs) (x:PairIn H p v):PairsIn H (ps++[p]) (vs++[v]):=PairsIn.app h (.cons x .nil)
def sfR (n m:Nat):List (Int × Int):=(abj (n - m)).map fun (f:Nat)=>((f:Int),((f+m:Nat):Int))
def sfl (n i:Nat):List (Int × Int):=(abj i).flatMap fun m=>sfR n m
theorem lg (n i:Nat):sfl n (i+1)=sfl n i++sfR n i:=by
  unfold sfl;rw [List.range_succ,List.flatMap_append];simp
theorem ke (n i:Nat):(sfl n i).length≤i * n:=by
  induction i with
  | zero=>simp [sfl]
  | succ i ih =>
    rw [lg,aan];have : (sfR n i).length≤n:=by simp [sfR]
    rw [Nat.succ_mul];lia
theorem nO (n:Nat) (a b:Nat) (h1:a≤b) (h2:b < n):((a:Int),(b:Int))∈sfl n n:=by
  unfold sfl sfR;rw [List.mem_flatMap];refine ⟨b - a,abe.mpr (by lia),?_⟩;rw [List.mem_map];refine ⟨a,abe.mpr (by lia),?_⟩;have : a+(b - a)=b:=by lia
  rw [this]
def bW:PyData→Bool
  | .int _=>true
  | _=>false
def bi:PyData→Bool
  | .list ds=>decide (1≤ds.length) && decide (ds.length≤9) && ds.all bW
  | _=>false
def bV:PyData→Bool
  | .str z=>inV (.str z) gt
  | _=>false
theorem rE {H:Hp}:∀ {ds:List PyData} {vs:List V},DatAll H ds vs→∀ {i:Nat} {x:V},vs[i]?=some x→∃ d,ds[i]?=some d∧Dat H d x
  | [],vs,h,i,x,e=>by simp only [DatAll] at h;subst h;simp at e
  | d :: ds,vs,h,i,x,e=>by
    simp only [DatAll] at h;obtain ⟨v,r,rfl,h1,h2⟩:=h;cases i with
    | zero=>simp at e;subst e;exact ⟨d,rfl,h1⟩
    | succ i=>exact rE h2 (by simpa using e)
theorem qV (d:PyData):decide (mn d = "int")=bW d:=by cases d <;> rfl
section
variable {P:Program} {w:World} {K:aab} {mg:Str→Option Value} {base:Heap} {f:Addr} {fd:FuncData}
def qi:Sp:=fun vs H Q _=>∃ n:Nat,vs=[.int n]∧n≤9∧∀ p us H',Same H H'→H p=none→H' p=some (.lst us)→PairsIn H' (sfl n n) us→Q (.ref p) H'
abbrev cJ:Stmt:=top 24
theorem gu:FnScope ["many"] ["many"] (ag cJ):=⟨rfl,rfl,rfl,by decide +kernel,rfl,by decide +kernel,by decide +kernel⟩
theorem gA (F:Fun K "shorter_first" "shorter_first" cJ f fd) (B:Bu K mg):FnOk P w K mg base CX0 1 f fd ["many"] qi:=by
  refine F.ok gu (fun vs H Q E h=>?_) (fun cdv A outer s H vs Q E hr h=>?_)
  · obtain ⟨l,rfl,_⟩:=h;rfl
  obtain ⟨n,rfl,h9,q⟩:=h;refine ⟨_,(@ai _ _ _ (@ar _ _ _ _ (@ue _ _ _ _ _ _ _ _ _ _ _ (["more","first","many"]) ([none,none,some 0]) _ _ _ _ _ _ _ rfl (@dJ _ _ _ _ _ _ rfl B.irange (@aa _ _ _ _ _ (pv 0) ad (by rfl)) (by rfl)) rfl ⟨rfl,trivial⟩ ⟨⟨rfl,Or.inl rfl,Or.inl rfl⟩,trivial⟩ (fun _ _ _ _=>⟨(@ao _ _ (0) _ (show aa2 (["more","first","many"]:List Str) by decide +kernel) rfl (Or.inl rfl) (.inr rfl)),bw,(@dJ _ _ _ _ _ _ rfl B.irange (@aa _ _ _ _ _ (@am _ _ _ _ _ _ _ _ fm (pv 2) (pv 0)) ad (by rfl)) (by rfl)),(@ao _ _ (1) _ (show aa2 (["more","first","many"]:List Str) by decide +kernel) rfl (Or.inl rfl) (.inr rfl)),bw,(@bc _ _ _ _ _ (@aa _ _ _ _ _ (pv 1) (@aa _ _ _ _ _ (@am _ _ _ _ _ _ _ _ bB (pv 1) (pv 0)) ad (by rfl)) (by rfl)))⟩) (by rfl) (by rfl) (by rfl) (by rfl) (by intro _;rfl) (by intro _ _;rfl)))),?_⟩;refine ⟨_,rfl,n,rfl,by lia,by lia,?_⟩;refine uF (Trn.range (lo:=0) (n:=(n:Int).toNat)) (fun i ys H'=>Same H H'∧PairsIn H' (sfl n i) ys) ⟨Same.refl _,.nil⟩ (fun i ys H' hi p=>trivial) (fun i x ys H1 H' hi hx p Nx nx=>?_) (fun ys H' p p5 n5=>?_)
  · obtain ⟨rfl,rfl⟩:=hx;obtain ⟨S,hp⟩:=p;have hl:=hp.length;have hb:=ke n i;have hn:(n:Int).toNat=n:=by lia
    have hin:i < n:=by lia
    have hb2:i * n≤9 * 9:=abN (by lia) h9;have en:((n:Int) - (0+(i:Int))).toNat=n - i:=by lia
    refine ⟨_,rfl,_,rfl,_,_,rfl,rfl,(n:Int) - (0+(i:Int)),rfl,by lia,by lia,?_⟩;refine uB (Trn.range (lo:=0) (n:=((n:Int) - (0+(i:Int))).toNat)) (fun j zs σ H2=>Same H H2∧(∃ c,σ=[some (.int (0+(i:Int))),c,some (.int n)])∧PairsIn H2 (sfl n i++(sfR n i).take j) zs) ⟨S,⟨_,rfl⟩,by simpa using hp⟩ (fun j zs σ H2 hj p=>⟨trivial,aJ (by have:=p.2.2.length;rw [← this,aan,aaE];lia)⟩) (fun j x zs σ H2 H3 hj hx p Ny ny=>?_) (fun zs σ H2 p=>?_)
    · obtain ⟨rfl,rfl⟩:=hx;obtain ⟨S2,⟨c,rfl⟩,hp2⟩:=p;refine ⟨_,rfl,_,rfl,_,rfl,_,_,rfl,rfl,(by show 2≤sizeLine;decide),fun t ht=>ny _ _ _ ⟨S2.trans (Same.new ht _),⟨_,rfl⟩,?_⟩⟩;have s3:=Same.new ht (.tup [.int (0+(j:Int)),.int (0+(j:Int)+(0+(i:Int)))]);have e:(sfR n i).take (j+1)=(sfR n i).take j++[(((j:Nat):Int),((j+i:Nat):Int))]:=by
        rw [aa8];have : (sfR n i)[j]?=some (((j:Nat):Int),((j+i:Nat):Int)):=by
          unfold sfR;rw [aaU,List.getElem?_range (by lia)];rfl
        rw [this];rfl
      rw [e,← abF];refine PairsIn.snoc (PairsIn.mono (Tups.of s3) hp2) ⟨t,rfl,?_⟩;rw [ac];have e1:(0:Int)+(j:Int)=((j:Nat):Int):=by lia
      have e2:(0:Int)+(j:Int)+(0+(i:Int))=((j+i:Nat):Int):=by lia
      show some (HO.tup [V.int (0+(j:Int)),V.int (0+(j:Int)+(0+(i:Int)))])=some (HO.tup [V.int ((j:Nat):Int),V.int ((j+i:Nat):Int)]);rw [e2,e1]
    · obtain ⟨S2,⟨c,rfl⟩,hp2⟩:=p;refine nx _ _ ⟨S2,?_⟩;rw [en,abx (by simp [sfR]),← lg] at hp2;exact hp2
  · obtain ⟨S,hp⟩:=p;have hn:(n:Int).toNat=n:=by lia
    rw [hn] at hp;have s5:=Same.new n5 (.lst ys);exact q p5 ys _ (S.trans s5) (S.free n5) ac (PairsIn.mono (Tups.of s5) hp)
def hX:Sp:=fun vs H Q _=>∃ p v,vs=[v]∧PairIn H p v∧Q (.bl true) H
abbrev gv:Stmt:=top 29
theorem mG:FnScope ["thing"] ["thing"] (ag gv):=⟨rfl,rfl,rfl,by decide +kernel,rfl,by decide +kernel,by decide +kernel⟩
theorem mP (F:Fun K "is_pair" "is_pair" gv f fd) (B:Bu K mg) (C_is_whole:Cal P w K mg base "is_whole" 1 ["thing"] (dh K)):FnOk P w K mg base CX0 2 f fd ["thing"] hX:=by
  refine F.ok mG (fun vs H Q E h=>?_) (fun cdv A outer s H vs Q E hr h=>?_)
  · obtain ⟨p,v,rfl,_⟩:=h;rfl
  obtain ⟨p,v,rfl,⟨a,rfl,ha⟩,q⟩:=h;refine ⟨_,(@ai _ _ _ (@ar _ _ _ _ (@cu _ _ _ _ _ _ _ (@ak _ _ _ _ _ _ _ _ _ (@bq _ ("tuple")) rfl B.iisinstance aaq (@aa _ _ _ _ _ (pv 0) (@aa _ _ _ _ _ (@cE _ _ (.ty "tuple") _ _ rfl B.ituple ab7 rfl (by decide) (by decide)) ad (by rfl)) (by rfl)) (by decide) (by decide) (by rfl) (by rfl)) (@cu _ _ _ _ _ _ _ (@bS _ _ _ _ _ _ _ _ eW (@ak _ _ _ _ _ _ _ _ _ aI rfl B.ilen aaY (@aa _ _ _ _ _ (pv 0) ad (by rfl)) (by decide) (by decide) (by rfl) (by rfl)) ae (a4 _)) (@cu _ _ _ _ _ _ _ (@al _ _ _ _ _ _ _ _ _ _ _ C_is_whole hr (by lia) rfl (@aa _ _ _ _ _ (@aK _ _ _ _ _ _ _ cN (pv 0) ae (fun _ _=>rfl)) ad (by rfl)) (by decide) (by rfl) (by rfl)) (@eE _ _ _ _ _ (@al _ _ _ _ _ _ _ _ _ _ _ C_is_whole hr (by lia) rfl (@aa _ _ _ _ _ (@aK _ _ _ _ _ _ _ cN (pv 0) ae (fun _ _=>rfl)) ad (by rfl)) (by decide) (by rfl) (by rfl)))))))),?_⟩;refine ⟨_,rfl,_,_,true,rfl,.tup ha,rfl,true,rfl,bC ⟨_,rfl,a,_,rfl,.inr (SqT.of ha),rfl,true,rfl,bC ?_⟩⟩;refine ⟨_,rfl,a,_,_,_,rfl,rfl,SqT.of ha,rfl,_,_,rfl,.int _,true,rfl,bC ?_⟩;exact ⟨_,rfl,a,_,_,_,rfl,rfl,SqT.of ha,rfl,_,_,rfl,.int _,q⟩
def fF:PyData→Bool
  | .list _=>true
  | _=>false
theorem vo {d:PyData} (h:fF d=false):bi d=false:=by cases d <;> first|rfl|simp [fF] at h
theorem qS {d:PyData} {K:aab}:aaG K (.type (mn d)) (.type "list")=some (fF d):=by cases d <;> rfl
def j0:Sp:=fun vs H Q _=>∃ d v,vs=[v]∧Dat H d v∧∀ H',Same H H'→Q (.bl (bi d)) H'
abbrev ik:Stmt:=top 18
theorem oK:FnScope ["thing"] ["thing"] (ag ik):=⟨rfl,rfl,rfl,by decide +kernel,rfl,by decide +kernel,by decide +kernel⟩
theorem oR {tk:Tok} {aP:Addr} (F:Fun K "is_row" "is_row" ik f fd) (B:Bu K mg) (B3:Cp K mg tk aP) (C_is_whole:Cal P w K mg base "is_whole" 1 ["thing"] (dh K)):FnOk P w K mg base CX0 2 f fd ["thing"] j0:=by
  refine F.ok oK (fun vs H Q E h=>?_) (fun cdv A outer s H vs Q E hr h=>?_)
  · obtain ⟨x,v,rfl,_⟩:=h;rfl
  obtain ⟨d,v,rfl,hd,q⟩:=h;refine ⟨_,(@af _ _ _ _ _ (@bH _ _ _ _ _ _ _ _ (@PW.pt _ _ _ (@nQ _ _ _ _ _ _ _ (@eo _ _ _ _ (@cr _ _ _ (@ak _ _ _ _ _ _ _ _ _ (@bq _ ("list")) rfl B.iisinstance aaq (@aa _ _ _ _ _ (pv 0) (@aa _ _ _ _ _ (@cE _ _ (.ty "list") _ _ rfl B.ilist PyProof.Rows.boot_list rfl (by decide) (by decide)) ad (by rfl)) (by rfl)) (by decide) (by decide) (by rfl) (by rfl)) (by intro _;rfl))) (@kh _ _ _ _ (@eo _ _ _ _ (@qu _ _ _ _ _ _ _ _ _ _ _ _ lH lH ae (@ak _ _ _ _ _ _ _ _ _ aI rfl B.ilen aaY (@aa _ _ _ _ _ (pv 0) ad (by rfl)) (by decide) (by decide) (by rfl) (by rfl)) (@bt _ _ (.int 9) _ _ rfl B3.gMOST_NUMBERS ⟨_,rfl⟩ (by decide)) (by with_unfolding_all rfl)))))) (@ai _ _ _ (@ar _ _ _ _ eV)) bn) (@ai _ _ _ (@ar _ _ _ _ (@ak _ _ _ _ _ _ _ _ _ (@fw _ rfl) rfl B.iall abC (@aa _ _ _ _ _ (@ju _ _ _ _ _ _ _ _ (["number"]) ([none]) _ _ _ _ rfl (@eA _ _ _ _ (pv 0)) rfl trivial trivial (fun _ _ _ _=>⟨(@ao _ _ (0) _ (show aa2 (["number"]:List Str) by decide +kernel) rfl (Or.inl rfl) (.inr rfl)),bw,(@al _ _ _ _ _ _ _ _ _ _ _ C_is_whole hr (by lia) rfl (@aa _ _ _ _ _ (pv 0) ad (by rfl)) (by decide) (by rfl) (by rfl))⟩) (by rfl) (by rfl) (by rfl) (by rfl) (by intro _;rfl)) ad (by rfl)) (by decide) (by decide) (by rfl) (by rfl))))),?_⟩;by_cases hl:fF d=true
  · cases d with
    | list ds =>
      have hd0:=hd;simp only [Dat] at hd;obtain ⟨a,xs,rfl,ea,hall⟩:=hd;have hlen:=hall.len;refine ⟨_,rfl,_,_,true,rfl,.lst ea,rfl,true,rfl,aU ?_⟩;by_cases c1:1≤xs.length
      · refine ⟨_,rfl,a,_,rfl,.inl (SqL.of ea),_,_,rfl,rfl,true,congrArg V.bl (decide_eq_true (by lia)),bC ?_⟩;by_cases c2:xs.length≤9
        · refine ⟨_,_,rfl,rfl,true,congrArg V.bl (decide_eq_true (by lia)),aU ?_⟩;refine ⟨_,rfl,a,rfl,⟨_,SqL.of ea⟩,?_⟩;refine sH (xs:=xs) (fun i ys H'=>H'=H∧ys=((ds.take i).map bW).map V.bl) ⟨rfl,rfl⟩ (fun i ys H' hi p=>⟨by rw [p.1];exact SqL.of ea,by rw [p.2,aak,aak,aaE];exact aJ (by lia)⟩) (fun i x ys H' hx p nx=>?_) (fun ys H' p p5 n5=>?_)
          · obtain ⟨rfl,rfl⟩:=p;obtain ⟨dd,h1,h2⟩:=rE hall hx;refine ⟨_,rfl,x,_,rfl,h2.ty,nx ⟨rfl,?_⟩⟩;rw [qV,aa8,h1,aaL,aaL];rfl
          obtain ⟨rfl,rfl⟩:=p;rw [abx (by lia)];refine ⟨p5,_,rfl,SqL.of ac,?_⟩;have e:((ds.map bW).all id)=bi (.list ds):=by
            show _=(decide (1≤ds.length) && decide (ds.length≤9) && ds.all bW)
            rw [decide_eq_true (show 1≤ds.length by lia),decide_eq_true (show ds.length≤9 by lia),List.all_map];rfl
          rw [e];exact q _ (Same.new n5 _)
        · refine ⟨_,_,rfl,rfl,false,congrArg V.bl (decide_eq_false (by lia)),bC ?_⟩;have z:=q H (Same.refl _);rw [show bi (.list ds)=false by
            show (decide (1≤ds.length) && decide (ds.length≤9) && ds.all bW)=false;rw [decide_eq_false (show ¬ ds.length≤9 by lia)];simp] at z
          exact z
      · refine ⟨_,rfl,a,_,rfl,.inl (SqL.of ea),_,_,rfl,rfl,false,congrArg V.bl (decide_eq_false (by lia)),aU ⟨false,rfl,bC ?_⟩⟩;have z:=q H (Same.refl _);rw [show bi (.list ds)=false by
          show (decide (1≤ds.length) && decide (ds.length≤9) && ds.all bW)=false;rw [decide_eq_false (show ¬ 1≤ds.length by lia)];simp] at z
        exact z
    | _=>simp [fF] at hl
  · have hl':fF d=false:=by simpa using hl
    refine ⟨_,rfl,_,_,false,rfl,hd.ty,by rw [qS,hl'],false,rfl,bC ?_⟩;have z:=q H (Same.refl _);rw [vo hl'] at z;exact z
def gq:Sp:=fun vs H Q _=>∃ d v,vs=[v]∧Dat H d v∧Q (.bl (bV d)) H
abbrev fR:Stmt:=top 19
theorem lu:FnScope ["thing"] ["thing"] (ag fR):=⟨rfl,rfl,rfl,by decide +kernel,rfl,by decide +kernel,by decide +kernel⟩
theorem lM {tk:Tok} {aP:Addr} (F:Fun K "is_signs" "is_signs" fR f fd) (B:Bu K mg) (B3:Cp K mg tk aP):FnOk P w K mg base CX0 1 f fd ["thing"] gq:=by
  refine F.ok lu (fun vs H Q E h=>?_) (fun cdv A outer s H vs Q E hr h=>?_)
  · obtain ⟨x,v,rfl,_⟩:=h;rfl
  obtain ⟨d,v,rfl,hd,q⟩:=h;refine ⟨_,(@ai _ _ _ (@ar _ _ _ _ (@cu _ _ _ _ _ _ _ (@ak _ _ _ _ _ _ _ _ _ (@bq _ ("str")) rfl B.iisinstance aaq (@aa _ _ _ _ _ (pv 0) (@aa _ _ _ _ _ (@cE _ _ (.ty "str") _ _ rfl B.istr aco rfl (by decide) (by decide)) ad (by rfl)) (by rfl)) (by decide) (by decide) (by rfl) (by rfl)) (@eE _ _ _ _ _ (@bS _ _ _ _ _ _ _ _ gz (pv 0) (@bt _ _ (.ref aP) _ _ rfl B3.gSIGNS_TO_PUT rfl (by decide)) (by with_unfolding_all rfl)))))),?_⟩;cases d with
  | str z =>
    have e:v=.str z:=by simpa only [Dat] using hd
    subst e;exact ⟨_,rfl,_,_,true,rfl,.str z,rfl,true,rfl,bC ⟨_,rfl,aP,_,rfl,.inr (B3.sSIGNS_TO_PUT H),rfl,rfl,q⟩⟩
  | none=>exact ⟨_,rfl,_,_,false,rfl,hd.ty,rfl,false,rfl,aU q⟩
  | bool b=>exact ⟨_,rfl,_,_,false,rfl,hd.ty,rfl,false,rfl,aU q⟩
  | int b=>exact ⟨_,rfl,_,_,false,rfl,hd.ty,rfl,false,rfl,aU q⟩
  | list b=>exact ⟨_,rfl,_,_,false,rfl,hd.ty,rfl,false,rfl,aU q⟩
  | tuple b=>exact ⟨_,rfl,_,_,false,rfl,hd.ty,rfl,false,rfl,aU q⟩
  | dict b=>exact ⟨_,rfl,_,_,false,rfl,hd.ty,rfl,false,rfl,aU q⟩
end
open PySem L2
def wl (s:Nat) (L:List Int) (n l:Nat):Int:=(s:Int) * L.getD l 0 * L.getD (n - l) 0
def cl (s:Nat):Nat→List Int
  | 0=>[0,1]
  | k+1=>cl s k++[((abj (k+1)).map fun j=>wl s (cl s k) (k+2) (1+j)).sum]
theorem kO (s:Nat):∀ k,(cl s k).length=k+2
  | 0=>rfl
  | k+1=>by
    show (cl s k++[_]).length=_;rw [aan,kO s k];rfl
def cn (s n:Nat):Int:=(cl s 8).getD n 0
theorem rK (s:Nat):∀ (k d n:Nat),n < k+2→(cl s (k+d)).getD n 0=(cl s k).getD n 0
  | k,0,n,h=>rfl
  | k,d+1,n,h=>by
    show (cl s (k+d)++[_]).getD n 0=_;rw [← rK s k d n h];have hl:=kO s (k+d);simp only [aay];rw [List.getElem?_append_left (by lia)]
theorem rL {s k n:Nat} (hk:k≤8) (h:n < k+2):(cl s k).getD n 0=cn s n:=by
  have:=rK s k (8 - k) n h;unfold cn;rw [show 8=k+(8 - k) by lia];exact this.symm
theorem mh:∀ s≤3,∀ n≤9,0≤cn s n∧cn s n < 1000000000:=by decide +kernel
theorem oB {s k n:Nat} (hk:k≤8) (h:n < k+2):atI ((cl s k).map V.int) (n:Int)=some (.int (cn s n)):=by
  have hl:=kO s k;have e:(cl s k)[n]?=some (cn s n):=by
    have:=rL (s:=s) hk h;rw [aay] at this;cases z:(cl s k)[n]? with
    | none=>rw [List.getElem?_eq_none_iff] at z;lia
    | some x=>rw [z] at this;exact congrArg some this
  refine dn ?_;rw [aaU,e];rfl
section
variable {P:Program} {w:World} {K:aab} {mg:Str→Option Value} {base:Heap} {f:Addr} {fd:FuncData}
def qg:Sp:=fun vs H Q _=>∃ (z:Str) (pc:Addr) (xs:List V) (l r a b:Int),vs=[.str z,.ref pc,.int l,.int r]∧z.length≤3∧H pc=some (.lst xs)∧atI xs l=some (.int a)∧atI xs r=some (.int b)∧0≤b∧b < 1000000000∧Q (.int ((z.length:Int) * a * b)) H
abbrev dv:Stmt:=top 33
theorem ie:FnScope ["signs","counts","left","right"] ["signs","counts","left","right"] (ag dv):=⟨rfl,rfl,rfl,by decide +kernel,rfl,by decide +kernel,by decide +kernel⟩
theorem io (F:Fun K "ways_by_cut" "ways_by_cut" dv f fd) (B:Bu K mg):FnOk P w K mg base CX0 1 f fd ["signs","counts","left","right"] qg:=by
  refine F.ok ie (fun vs H Q E h=>?_) (fun cdv A outer s H vs Q E hr h=>?_)
  · obtain ⟨z,pc,xs,l,r,a,b,rfl,_⟩:=h;rfl
  obtain ⟨z,pc,xs,l,r,a,b,rfl,hz,hc,ha,hb,b0,b1,q⟩:=h;refine ⟨_,(@ai _ _ _ (@ar _ _ _ _ (@am _ _ _ _ _ _ _ _ dD (@am _ _ _ _ _ _ _ _ dD (@ak _ _ _ _ _ _ _ _ _ gm rfl B.ilen aaY (@aa _ _ _ _ _ (pv 0) ad (by rfl)) (by decide) (by decide) (by rfl) (by rfl)) (@aK _ _ _ _ _ _ _ aQ (pv 1) (pv 2) (fun _ _=>rfl))) (@aK _ _ _ _ _ _ _ aQ (pv 1) (pv 3) (fun _ _=>rfl))))),?_⟩;exact ⟨_,rfl,z,rfl,dj (by lia),_,rfl,_,rfl,pc,_,_,_,rfl,rfl,SqL.of hc,ha,_,_,rfl,rfl,.inl ⟨by lia,by lia⟩,_,rfl,_,rfl,pc,_,_,_,rfl,rfl,SqL.of hc,hb,_,_,rfl,rfl,.inr ⟨by lia,by lia⟩,q⟩
def qm:Sp:=fun vs H Q _=>∃ (z:Str) (m:Int),vs=[.str z,.int m]∧z.length≤3∧1≤m∧m≤9∧∀ p H',Same H H'→H p=none→H' p=some (.lst ((cl z.length (m - 1).toNat).map V.int))→Q (.ref p) H'
abbrev c_:Stmt:=top 32
theorem bZ:FnScope ["signs","many","counts","length","by_left"] ["signs","many"] (ag c_):=⟨rfl,rfl,rfl,by decide +kernel,rfl,by decide +kernel,by decide +kernel⟩
theorem gU (F:Fun K "counts_up_to" "counts_up_to" c_ f fd) (B:Bu K mg) (C_ways_by_cut:Cal P w K mg base "ways_by_cut" 1 ["signs","counts","left","right"] qg):FnOk P w K mg base CX0 2 f fd ["signs","many"] qm:=by
  refine F.ok bZ (fun vs H Q E h=>?_) (fun cdv A outer s H vs Q E hr h=>?_)
  · obtain ⟨z,m,rfl,_⟩:=h;rfl
  obtain ⟨z,m,rfl,hz,h1,h9,q⟩:=h;refine ⟨_,(@af _ _ _ _ _ (@aw _ _ (2) _ _ _ _ (bZ).nd rfl (Or.inr rfl) (@az _ _ _ _ (@aa _ _ _ _ _ ae (@aa _ _ _ _ _ ae ad (by rfl)) (by rfl))) (by rfl) (by first|exact .inl rfl|exact .inr rfl|assumption)) (@af _ _ _ _ _ (@fi _ _ _ _ _ _ _ _ abn rfl (@gy _ _ _ _ _ _ _ rfl B.irange (@aa _ _ _ _ _ ae (@aa _ _ _ _ _ (@am _ _ _ _ _ _ _ _ bB (pv 1) ae) ad (by rfl)) (by rfl)) (by rfl) (by rfl)) (@ao _ _ (3) _ (bZ).nd rfl (Or.inr rfl) (.inl rfl)) (@af _ _ _ _ _ (@sf _ (4) _ _ _ _ _ _ _ _ _ _ (["left","signs","counts","length"]) ([none,some 0,some 2,some 3]) _ _ _ _ (bZ).nd rfl (Or.inl rfl) rfl (@gy _ _ _ _ _ _ _ rfl B.irange (@aa _ _ _ _ _ ae (@aa _ _ _ _ _ (pv 3) ad (by rfl)) (by rfl)) (by rfl) (by rfl)) rfl ⟨rfl,⟨rfl,⟨rfl,trivial⟩⟩⟩ ⟨⟨rfl,Or.inl rfl,Or.inl rfl⟩,⟨⟨rfl,Or.inl rfl,Or.inl rfl⟩,⟨⟨rfl,Or.inl rfl,Or.inl rfl⟩,trivial⟩⟩⟩ (fun _ _ _ _=>⟨(@ao _ _ (0) _ (show aa2 (["left","signs","counts","length"]:List Str) by decide +kernel) rfl (Or.inl rfl) (.inr rfl)),bw,(@al _ _ _ _ _ _ _ _ _ _ _ C_ways_by_cut hr (by lia) rfl (@aa _ _ _ _ _ (pv 1) (@aa _ _ _ _ _ (pv 2) (@aa _ _ _ _ _ (pv 0) (@aa _ _ _ _ _ (@am _ _ _ _ _ _ _ _ fm (pv 3) (pv 0)) ad (by rfl)) (by rfl)) (by rfl)) (by rfl)) (by decide) (by rfl) (by rfl))⟩) (by rfl) (by rfl) (by rfl) (by rfl) (by intro _;rfl) (by rfl) (by first|exact .inl rfl|exact .inr rfl|assumption)) (@ai _ _ _ (@br _ _ _ _ (@fJ _ _ _ _ _ _ _ _ _ _ _ _ aaI aaV aaW cg (pv 2) (@aa _ _ _ _ _ (@ak _ _ _ _ _ _ _ _ _ (@rO _ rfl) rfl B.isum PyProof.Rows.boot_sum (@aa _ _ _ _ _ (pv 4) ad (by rfl)) (by decide) (by decide) (by rfl) (by rfl)) ad (by rfl)) (by rfl) (by rfl) (by rfl) (by rfl) (by rfl)) (by rfl)))) (by intro _;rfl)) (@ai _ _ _ (@ar _ _ _ _ (pv 2))))),?_⟩;refine ⟨(by show 2≤sizeLine;decide),fun p np=>?_⟩;refine ⟨_,rfl,_,_,rfl,rfl,2,m+1,rfl,⟨by decide,by decide,by lia,by lia⟩,jK (n:=(m+1 - 2).toNat) (fun i σ H'=>∃ len by',σ=[some (.str z),some (.int m),some (.ref p),len,by']∧H' p=some (.lst ((cl z.length i).map V.int))∧Same H H') ⟨_,_,rfl,ac,Same.new np _⟩ ?_ ?_⟩
  · rintro i σ H1 hi ⟨len,by',rfl,e1,S1⟩;have i8:i≤7:=by lia
    have hl:=kO z.length i;refine ⟨_,rfl,1,_,rfl,⟨by decide,by decide,by lia,by lia⟩,qP (n:=(2+(i:Int) - 1).toNat) (fun j ys H'=>ys=((abj j).map fun j=>wl z.length (cl z.length i) (i+2) (1+j)).map V.int∧H'=H1) ⟨rfl,rfl⟩ ?_ ?_ ?_⟩
    · rintro j ys H' hj ⟨rfl,rfl⟩;rw [aak,aak,List.length_range];exact aJ (by lia)
    · rintro j ys H' hj ⟨rfl,rfl⟩ nx;have bd:=mh z.length hz;have e2:2+(i:Int) - (1+(j:Int))=((i+2 - (1+j):Nat):Int):=by lia
      have e3:(1+(j:Int))=((1+j:Nat):Int):=by lia
      refine ⟨_,rfl,_,rfl,_,rfl,_,rfl,_,rfl,_,_,rfl,rfl,z,p,_,_,_,cn z.length (1+j),cn z.length (i+2 - (1+j)),rfl,hz,e1,?_,?_,(bd _ (by lia)).1,(bd _ (by lia)).2,nx ⟨?_,rfl⟩⟩
      · rw [e3];exact oB (by lia) (by lia)
      · rw [e2];exact oB (by lia) (by lia)
      · rw [List.range_succ,aaL,aaL];show _=_++[V.int (wl z.length (cl z.length i) (i+2) (1+j))];unfold wl;rw [rL (by lia) (by lia),rL (by lia) (by lia)]
    · rintro ys H' ⟨rfl,rfl⟩ p2 n2;have g2:=Same.new n2 (.lst (((abj (2+(i:Int) - 1).toNat).map fun j=>wl z.length (cl z.length i) (i+2) (1+j)).map V.int));refine ⟨_,rfl,.inl ⟨rfl,_,SqL.of (g2 _ _ e1)⟩,_,rfl,p2,_,rfl,SqL.of ac,p,_,_,rfl,rfl,g2 _ _ e1,aJ (by rw [aak];lia),_,_,rfl,?_,?_⟩
      · rw [ac,← List.map_singleton,← aaL];have e4:(2+(i:Int) - 1).toNat=i+1:=by lia
        rw [e4];rfl
      · exact (S1.trans g2).upd np
  · rintro σ H1 ⟨len,by',rfl,e1,S1⟩;have e4:(m+1 - 2).toNat=(m - 1).toNat:=by lia
    rw [e4] at e1;exact ⟨_,rfl,q p H1 S1 np e1⟩
end
open PySem L2
def ky (p:Int × Int):List Key:=[Sum.inl p.1,Sum.inl p.2]
theorem kJ {p q:Int × Int} (h:ky p=ky q):p=q:=by
  obtain ⟨a,b⟩:=p;obtain ⟨c,d⟩:=q;simp [ky] at h;rw [h.1,h.2]
theorem PairIn.key {H:Hp} {p:Int × Int} {v:V} (h:PairIn H p v):∃ b,v=.ref b∧H b=some (.tup ((ky p).map kV)):=h
def CutIn (H:Hp) (p:Int × Int) (c:Int) (v:V):Prop:=∃ a x y,v=.ref a∧H a=some (.tup [x,y])∧PairIn H (p.1,c) x∧PairIn H (c+1,p.2) y
theorem PairIn.mono {H H':Hp} {p:Int × Int} {v:V} (t:Tups H H') (h:PairIn H p v):PairIn H' p v:=by
  obtain ⟨a,e,h⟩:=h;exact ⟨a,e,t _ _ h⟩
theorem CutIn.mono {H H':Hp} {p:Int × Int} {c:Int} {v:V} (t:Tups H H') (h:CutIn H p c v):CutIn H' p c v:=by
  obtain ⟨a,x,y,e,h1,h2,h3⟩:=h;exact ⟨a,x,y,e,t _ _ h1,PairIn.mono t h2,PairIn.mono t h3⟩
def a8 (p:Int × Int):List Int:=(abj (p.2 - p.1).toNat).map fun (k:Nat)=>p.1+(k:Int)
theorem Paired.snoc {α β:Type} {F:α→β→Prop} {as:List α} {us:List β} {a:α} {u:β} (h:Paired F as us) (x:F a u):Paired F (as++[a]) (us++[u]):=by
  induction h with
  | nil=>exact .cons x .nil
  | cons y _ ih=>exact .cons y ih
theorem Paired.at {α β:Type} {F:α→β→Prop}:∀ {as:List α} {us:List β},Paired F as us→∀ {j:Nat} {x:β},us[j]?=some x→∃ a,as[j]?=some a∧F a x
  | _,_,.nil,j,x,h=>by simp at h
  | _,_,.cons a _,0,x,h=>by simp at h;subst h;exact ⟨_,rfl,a⟩
  | _,_,.cons _ b,j+1,x,h=>by
    obtain ⟨p,h1,h2⟩:=Paired.at b (j:=j) (x:=x) (by simpa using h);exact ⟨p,by simpa using h1,h2⟩
def Sg.op:Sg→Int→Int→Int
  | .plus,a,b=>a+b
  | .minus,a,b=>a - b
  | .times,a,b=>a * b
theorem mw (x y:Str):(x++y).cps.toList=x.cps.toList++y.cps.toList:=by
  obtain ⟨a⟩:=x;obtain ⟨b⟩:=y;show (a++b).toList=_;rw [Array.toList_append]
def Sg.code:Sg→Nat
  | .plus=>43
  | .minus=>45
  | .times=>42
theorem eY (g:Sg):g.str=⟨#[g.code]⟩:=by cases g <;> rfl
theorem cU:∀ gs:List Sg,(aq gs).cps.toList=gs.map Sg.code
  | []=>rfl
  | g :: r=>by
    show (g.str++aq r).cps.toList=g.code :: r.map Sg.code;rw [mw,cU r,eY];rfl
theorem ia (gs:List Sg):(aq gs).cps.all (· < 128)=true:=by
  rw [← Array.all_toList,cU,aaH];intro c hc;obtain ⟨g,_,rfl⟩:=aaT.mp hc;cases g <;> decide
theorem sW {gs:List Sg} {i c:Nat} (h:(aq gs).cps[i]?=some c):∃ g,gs[i]?=some g∧c=g.code:=by
  have h2:(aq gs).cps.toList[i]?=some c:=by simpa using h
  rw [cU,aaU] at h2;obtain ⟨g,hg,e⟩:=aby.mp h2;exact ⟨g,hg,e.symm⟩
theorem kc (gs:List Sg):(aq gs).cps.size=gs.length:=by
  have:=congrArg List.length (cU gs);simpa using this
abbrev Jt:=Int × Sg × Int × Int
def Lw (s:Nat) (p:Int × Int) (c:Int):Int:=cn s (c - p.1+1).toNat
def Rw (s:Nat) (p:Int × Int) (c:Int):Int:=cn s (p.2 - c).toNat
def eM (c L R:Int):List Sg→Int→List Jt
  | [],_=>[]
  | g :: r,st=>(c,g,st,R) :: eM c L R r (st+L * R)
def dO (gs:List Sg) (p:Int × Int):List Int→Int→List Jt
  | [],_=>[]
  | c :: cs,st=>eM c (Lw gs.length p c) (Rw gs.length p c) gs st++dO gs p cs (st+(gs.length:Int) * (Lw gs.length p c * Rw gs.length p c))
def jst (gs:List Sg) (p:Int × Int) (cs:List Int):Int:=(cs.map fun c=>(gs.length:Int) * (Lw gs.length p c * Rw gs.length p c)).sum
theorem jD (c L R:Int) (g:Sg):∀ (xs:List Sg) (st:Int),eM c L R (xs++[g]) st=eM c L R xs st++[(c,g,st+(xs.length:Int) * (L * R),R)]
  | [],st=>by show [(c,g,st,R)]=[(c,g,st+((0:Nat):Int) * (L * R),R)];simp
  | x :: xs,st=>by
    show (c,x,st,R) :: eM c L R (xs++[g]) (st+L * R)=(c,x,st,R) :: (eM c L R xs (st+L * R)++[(c,g,st+((x :: xs).length:Int) * (L * R),R)]);rw [jD c L R g xs];have : st+L * R+(xs.length:Int) * (L * R)=st+((x :: xs).length:Int) * (L * R):=by
      rw [aaD,Int.natCast_add,Int.add_mul];simp only [Int.natCast_one,Int.one_mul];lia
    rw [this]
theorem jE (gs:List Sg) (p:Int × Int) (c:Int):∀ (cs:List Int) (st:Int),dO gs p (cs++[c]) st=dO gs p cs st++eM c (Lw gs.length p c) (Rw gs.length p c) gs (st+jst gs p cs)
  | [],st=>by simp [dO,jst]
  | x :: cs,st=>by
    show eM x _ _ gs st++dO gs p (cs++[c]) _=(eM x _ _ gs st++dO gs p cs _)++_;rw [jE gs p c cs,abF];congr 3;simp only [jst,aaF,List.sum_cons];lia
theorem iH (c L R:Int):∀ (xs:List Sg) (st:Int),(eM c L R xs st).length=xs.length
  | [],_=>rfl
  | x :: xs,st=>by show (eM c L R xs _).length+1=_;rw [iH c L R xs];rfl
theorem iI (gs:List Sg) (p:Int × Int):∀ (cs:List Int) (st:Int),(dO gs p cs st).length=cs.length * gs.length
  | [],_=>by simp [dO]
  | c :: cs,st=>by
    show (eM c _ _ gs st++dO gs p cs _).length=_;rw [aan,iH,iI gs p cs,aaD,Nat.succ_mul];lia
def JtIn (H:Hp) (p:Int × Int) (j:Jt) (v:V):Prop:=∃ t x y,v=.ref t∧H t=some (.tup [x,.str j.2.1.str,y,.int j.2.2.1,.int j.2.2.2])∧PairIn H (p.1,j.1) x∧PairIn H (j.1+1,p.2) y
theorem JtIn.mono {H H':Hp} {p:Int × Int} {j:Jt} {v:V} (t:Tups H H') (h:JtIn H p j v):JtIn H' p j v:=by
  obtain ⟨a,x,y,e,h1,h2,h3⟩:=h;exact ⟨a,x,y,e,t _ _ h1,PairIn.mono t h2,PairIn.mono t h3⟩
section
variable {P:Program} {w:World} {K:aab} {mg:Str→Option Value} {base:Heap} {f:Addr} {fd:FuncData}
def mD:Sp:=fun vs H Q _=>∃ p v,vs=[v]∧PairIn H p v∧0≤p.1∧p.1≤p.2∧p.2 < 100∧∀ a us H',Same H H'→H a=none→H' a=some (.lst us)→Paired (CutIn H' p) (a8 p) us→Q (.ref a) H'
abbrev gw:Stmt:=top 26
theorem fN:FnScope ["stretch","first","last"] ["stretch"] (ag gw):=⟨rfl,rfl,rfl,by decide +kernel,rfl,by decide +kernel,by decide +kernel⟩
theorem mQ (F:Fun K "cuts_of" "cuts_of" gw f fd) (B:Bu K mg):FnOk P w K mg base CX0 1 f fd ["stretch"] mD:=by
  refine F.ok fN (fun vs H Q E h=>?_) (fun cdv A outer s H vs Q E hr h=>?_)
  · obtain ⟨p,v,rfl,_⟩:=h;rfl
  obtain ⟨p,v,rfl,⟨a,rfl,ha⟩,h1,h2,h3,q⟩:=h;refine ⟨_,(@af _ _ _ _ _ (@eu _ _ _ _ _ _ (pv 0) (@eD _ _ _ _ _ _ rfl (@au _ _ _ _ _ (@ao _ _ (1) _ (fN).nd rfl (Or.inr rfl) (.inl rfl)) (@au _ _ _ _ _ (@ao _ _ (2) _ (fN).nd rfl (Or.inr rfl) (.inl rfl)) bQ (by rfl)) (by rfl)) (by rfl) (by rfl)) (by rfl) (by rfl) (by rfl)) (@ai _ _ _ (@ar _ _ _ _ (@ju _ _ _ _ _ _ _ _ (["cut","first","last"]) ([none,some 1,some 2]) _ _ _ _ rfl (@gy _ _ _ _ _ _ _ rfl B.irange (@aa _ _ _ _ _ (pv 1) (@aa _ _ _ _ _ (pv 2) ad (by rfl)) (by rfl)) (by rfl) (by rfl)) rfl ⟨rfl,⟨rfl,trivial⟩⟩ ⟨⟨rfl,Or.inl rfl,Or.inl rfl⟩,⟨⟨rfl,Or.inl rfl,Or.inl rfl⟩,trivial⟩⟩ (fun _ _ _ _=>⟨(@ao _ _ (0) _ (show aa2 (["cut","first","last"]:List Str) by decide +kernel) rfl (Or.inl rfl) (.inr rfl)),bw,(@bc _ _ _ _ _ (@aa _ _ _ _ _ (@bc _ _ _ _ _ (@aa _ _ _ _ _ (pv 1) (@aa _ _ _ _ _ (pv 0) ad (by rfl)) (by rfl))) (@aa _ _ _ _ _ (@bc _ _ _ _ _ (@aa _ _ _ _ _ (@am _ _ _ _ _ _ _ _ bB (pv 0) ae) (@aa _ _ _ _ _ (pv 2) ad (by rfl)) (by rfl))) ad (by rfl)) (by rfl)))⟩) (by rfl) (by rfl) (by rfl) (by rfl) (by intro _;rfl))))),?_⟩;refine ⟨_,rfl,a,_,rfl,SqT.of ha,rfl,_,_,rfl,_,_,rfl,rfl,?_⟩;refine ⟨_,rfl,_,rfl,p.1,p.2,rfl,⟨by lia,by lia,by lia,by lia⟩,?_⟩;refine n_ (Trn.range (lo:=p.1) (n:=(p.2 - p.1).toNat)) (fun i ys H'=>Same H H'∧Paired (CutIn H' p) ((a8 p).take i) ys) ⟨Same.refl _,.nil⟩ (fun i ys H' hi z=>⟨trivial,aJ (by have:=z.2.length;rw [← this,aaE];lia)⟩) (fun i x ys H0 H' hi hx z Nx nx=>?_) (fun ys H' z p5 n5=>?_)
  · obtain ⟨rfl,rfl⟩:=hx;obtain ⟨S,hp⟩:=z;have t2:(2:Nat)≤sizeLine:=by decide
    refine ⟨_,rfl,_,rfl,t2,fun t ht=>?_⟩;have st:=Same.new ht (.tup [.int p.1,.int (p.1+(i:Int))]);refine ⟨_,rfl,_,_,rfl,rfl,_,rfl,t2,fun u hu=>⟨t2,fun v hv=>nx _ _ ?_⟩⟩;have su:=Same.new hu (.tup [.int (p.1+(i:Int)+1),.int p.2]);have sv:=Same.new hv (.tup [.ref t,.ref u]);have S3:=(st.trans su).trans sv;refine ⟨S.trans S3,?_⟩;have e:(a8 p).take (i+1)=(a8 p).take i++[p.1+(i:Int)]:=by
      rw [aa8];have : (a8 p)[i]?=some (p.1+(i:Int)):=by
        unfold a8;rw [aaU,List.getElem?_range hi];rfl
      rw [this];rfl
    rw [e];exact Paired.snoc (Paired.mapP hp fun _ _ h=>CutIn.mono (Tups.of S3) h) ⟨v,_,_,rfl,ac,⟨t,rfl,sv _ _ (su _ _ ac)⟩,⟨u,rfl,sv _ _ ac⟩⟩
  · obtain ⟨S,hp⟩:=z;rw [abx (by simp [a8])] at hp;have s5:=Same.new n5 (.lst ys);exact q p5 ys _ (S.trans s5) (S.free n5) ac (Paired.mapP hp fun _ _ h=>CutIn.mono (Tups.of s5) h)
def fA:Sp:=fun vs H Q _=>∃ a g b,vs=[.int a,.str (Sg.str g),.int b]∧a.natAbs < 2 ^ 4000∧b.natAbs < 2 ^ 4000∧Q (.int (g.op a b)) H
abbrev fO:Stmt:=top 36
theorem ll:FnScope ["left","sign","right"] ["left","sign","right"] (ag fO):=⟨rfl,rfl,rfl,by decide +kernel,rfl,by decide +kernel,by decide +kernel⟩
theorem lJ (F:Fun K "put_sign" "put_sign" fO f fd):FnOk P w K mg base CX0 1 f fd ["left","sign","right"] fA:=by
  refine F.ok ll (fun vs H Q E h=>?_) (fun cdv A outer s H vs Q E hr h=>?_)
  · obtain ⟨a,g,b,rfl,_⟩:=h;rfl
  obtain ⟨a,g,b,rfl,ha,hb,q⟩:=h;refine ⟨_,(@af _ _ _ _ _ (@bH _ _ _ _ _ _ _ _ (@bj _ _ _ _ _ _ _ _ eW (pv 1) ax (a4 _)) (@ai _ _ _ (@ar _ _ _ _ (@am _ _ _ _ _ _ _ _ bB (pv 0) (pv 2)))) bn) (@af _ _ _ _ _ (@bH _ _ _ _ _ _ _ _ (@bj _ _ _ _ _ _ _ _ eW (pv 1) ax (a4 _)) (@ai _ _ _ (@ar _ _ _ _ (@am _ _ _ _ _ _ _ _ fm (pv 0) (pv 2)))) bn) (@ai _ _ _ (@ar _ _ _ _ (@am _ _ _ _ _ _ _ _ fD (pv 0) (pv 2)))))),?_⟩;cases g with
  | plus=>exact ⟨_,rfl,rfl,_,rfl,jG rfl ⟨_,rfl,_,rfl,_,_,rfl,rfl,q⟩⟩
  | minus=>exact ⟨_,rfl,rfl,_,rfl,jH (by decide +kernel) ⟨_,rfl,rfl,_,rfl,jG rfl ⟨_,rfl,_,rfl,_,_,rfl,rfl,q⟩⟩⟩
  | times=>exact ⟨_,rfl,rfl,_,rfl,jH (by decide +kernel) ⟨_,rfl,rfl,_,rfl,jH (by decide +kernel) ⟨_,rfl,_,rfl,_,_,rfl,rfl,⟨ha,hb⟩,q⟩⟩⟩
def hV:Sp:=fun vs H Q _=>∃ (gs:List Sg) (pc:Addr) (M:Nat) (p:Int × Int) (v:V),vs=[.str (aq gs),.ref pc,v]∧gs.length≤3∧H pc=some (.lst ((cl gs.length M).map V.int))∧M≤8∧PairIn H p v∧0≤p.1∧p.1≤p.2∧p.2≤M ∧
  ∀ a us H',Same H H'→H a=none→H' a=some (.lst us)→Paired (JtIn H' p) (dO gs p (a8 p) 0) us→Q (.ref a) H'
abbrev fb:Stmt:=top 34
theorem a9:FnScope ["signs","counts","stretch","joints","start","before","behind","left_ways","right_ways","sign"] ["signs","counts","stretch"] (ag fb):=⟨rfl,rfl,rfl,by decide +kernel,rfl,by decide +kernel,by decide +kernel⟩
theorem kz (F:Fun K "joints_of" "joints_of" fb f fd) (B:Bu K mg) (C_cuts_of:Cal P w K mg base "cuts_of" 1 ["stretch"] mD):FnOk P w K mg base CX0 2 f fd ["signs","counts","stretch"] hV:=by
  refine F.ok a9 (fun vs H Q E h=>?_) (fun cdv A outer s H vs Q E hr h=>?_)
  · obtain ⟨gs,pc,M,p,v,rfl,_⟩:=h;rfl
  obtain ⟨gs,pc,M,p,v,rfl,g3,ec,hM,hp,p0,p1,pM,q⟩:=h;refine ⟨_,(@af _ _ _ _ _ (@aw _ _ (3) _ _ _ _ (a9).nd rfl (Or.inl rfl) (@az _ _ _ _ ad) (by rfl) (by first|exact .inl rfl|exact .inr rfl|assumption)) (@af _ _ _ _ _ (@aw _ _ (4) _ _ _ _ (a9).nd rfl (Or.inl rfl) ae (by rfl) (by first|exact .inl rfl|exact .inr rfl|assumption)) (@af _ _ _ _ _ (@fi _ _ _ _ _ _ _ _ abn rfl (@eA _ _ _ _ (@al _ _ _ _ _ _ _ _ _ _ _ C_cuts_of hr (by lia) rfl (@aa _ _ _ _ _ (pv 2) ad (by rfl)) (by decide) (by rfl) (by rfl))) (@eD _ _ _ _ _ _ rfl (@au _ _ _ _ _ (@ao _ _ (5) _ (a9).nd rfl (Or.inl rfl) (.inl rfl)) (@au _ _ _ _ _ (@ao _ _ (6) _ (a9).nd rfl (Or.inl rfl) (.inl rfl)) bQ (by rfl)) (by rfl)) (by rfl) (by rfl)) (@af _ _ _ _ _ (@aw _ _ (7) _ _ _ _ (a9).nd rfl (Or.inl rfl) (@aK _ _ _ _ _ _ _ aQ (pv 1) (@am _ _ _ _ _ _ _ _ bB (@am _ _ _ _ _ _ _ _ fm (@aK _ _ _ _ _ _ _ cN (pv 5) ae (fun _ _=>rfl)) (@aK _ _ _ _ _ _ _ cN (pv 5) ae (fun _ _=>rfl))) ae) (fun _ _=>rfl)) (by rfl) (by first|exact .inl rfl|exact .inr rfl|assumption)) (@af _ _ _ _ _ (@aw _ _ (8) _ _ _ _ (a9).nd rfl (Or.inl rfl) (@aK _ _ _ _ _ _ _ aQ (pv 1) (@am _ _ _ _ _ _ _ _ bB (@am _ _ _ _ _ _ _ _ fm (@aK _ _ _ _ _ _ _ cN (pv 6) ae (fun _ _=>rfl)) (@aK _ _ _ _ _ _ _ cN (pv 6) ae (fun _ _=>rfl))) ae) (fun _ _=>rfl)) (by rfl) (by first|exact .inl rfl|exact .inr rfl|assumption)) (@ai _ _ _ (@fi _ _ _ _ _ _ _ _ abn rfl (@qB _ _ _ _ (pv 0)) (@ao _ _ (9) _ (a9).nd rfl (Or.inl rfl) (.inl rfl)) (@af _ _ _ _ _ (@br _ _ _ _ (@fJ _ _ _ _ _ _ _ _ _ _ _ _ aaI aaV aaW cg (pv 3) (@aa _ _ _ _ _ (@bc _ _ _ _ _ (@aa _ _ _ _ _ (pv 5) (@aa _ _ _ _ _ (pv 9) (@aa _ _ _ _ _ (pv 6) (@aa _ _ _ _ _ (pv 4) (@aa _ _ _ _ _ (pv 8) ad (by rfl)) (by rfl)) (by rfl)) (by rfl)) (by rfl))) ad (by rfl)) (by rfl) (by rfl) (by rfl) (by rfl) (by rfl)) (by rfl)) (@ai _ _ _ (@qx _ _ (4) _ _ _ _ _ _ (a9).nd rfl (Or.inl rfl) (@am _ _ _ _ _ _ _ _ fD (pv 7) (pv 8)) qW (by first|exact .inl rfl|exact .inr rfl|assumption)))) (by intro _;rfl))))) (by intro _;rfl)) (@ai _ _ _ (@ar _ _ _ _ (pv 3)))))),?_⟩;refine ⟨(by show 0≤sizeLine;decide),fun pj nj=>?_⟩;have sj:=Same.new nj (.lst []);have ej:upd H pj (.lst []) pj=some (.lst []):=ac;generalize upd H pj (.lst [])=H0 at sj ej ⊢;refine ⟨_,rfl,p,v,rfl,PairIn.mono (Tups.of sj) hp,p0,p1,by lia,fun pl ul H1 s1 npl epl hul=>?_⟩;have lul:=hul.length;have lc:(a8 p).length=(p.2 - p.1).toNat:=by simp [a8]
  have S1:=sj.trans s1;refine ⟨pl,rfl,⟨_,SqL.of epl⟩,l5 (xs:=ul) (fun i σ H'=>∃ (us:List V) (c5 c6 c7 c8 c9:Option V),σ=[some (.str (aq gs)),some (.ref pc),some v,some (.ref pj),some (.int (jst gs p ((a8 p).take i))),c5,c6,c7,c8,c9]∧Same H H'∧H' pj=some (.lst us)∧H' pl=some (.lst ul)∧Paired (CutIn H' p) (a8 p) ul∧Paired (JtIn H' p) (dO gs p ((a8 p).take i) 0) us) ⟨[],_,_,_,_,_,rfl,S1,s1 _ _ ej,epl,hul,.nil⟩ ?_ ?_ ?_⟩
  · rintro i σ H' _ ⟨_,_,_,_,_,_,rfl,_,_,e,_⟩;exact SqL.of e
  · rintro i x σ H2 hx ⟨us,c5,c6,c7,c8,c9,rfl,S2,ej2,el2,hc2,hj2⟩;obtain ⟨c,hci,t,xb,yb,rfl,et,hxb0,hyb0⟩:=Paired.at hc2 hx;have hxb:=hxb0;have hyb:=hyb0;obtain ⟨bx,rfl,ebx⟩:=hxb0;obtain ⟨byy,rfl,eby⟩:=hyb0;have hc1:p.1≤c∧c < p.2:=by
      have:=aaP hci;unfold a8 at this;obtain ⟨k,hk,rfl⟩:=aaT.mp this;have:=abe.mp hk;lia
    have ec2:=S2 _ _ ec;refine ⟨t,_,rfl,SqT.of et,rfl,_,_,rfl,_,_,rfl,rfl,?_⟩;have eL:atI ((cl gs.length M).map V.int) (c - p.1+1)=some (.int (Lw gs.length p c)):=by
      have:=oB (s:=gs.length) (k:=M) (n:=(c - p.1+1).toNat) hM (by lia);rw [show (((c - p.1+1).toNat:Nat):Int)=c - p.1+1 by lia] at this;exact this
    have eR:atI ((cl gs.length M).map V.int) (p.2 - (c+1)+1)=some (.int (Rw gs.length p c)):=by
      have:=oB (s:=gs.length) (k:=M) (n:=(p.2 - c).toNat) hM (by lia);rw [show (((p.2 - c).toNat:Nat):Int)=p.2 - (c+1)+1 by lia] at this;exact this
    refine ⟨_,rfl,_,rfl,bx,_,_,_,rfl,rfl,SqT.of ebx,rfl,_,rfl,bx,_,_,_,rfl,rfl,SqT.of ebx,rfl,_,_,rfl,rfl,_,_,rfl,rfl,pc,_,_,_,rfl,rfl,SqL.of ec2,eL,?_⟩;refine ⟨_,rfl,_,rfl,byy,_,_,_,rfl,rfl,SqT.of eby,rfl,_,rfl,byy,_,_,_,rfl,rfl,SqT.of eby,rfl,_,_,rfl,rfl,_,_,rfl,rfl,pc,_,_,_,rfl,rfl,SqL.of ec2,eR,?_⟩;have bL:=mh gs.length g3 (c - p.1+1).toNat (by lia);have bR:=mh gs.length g3 (p.2 - c).toNat (by lia);have b9:(1000000000:Nat) < 2 ^ 4000:=by decide +kernel
    have nL:(Lw gs.length p c).natAbs < 2 ^ 4000:=Nat.lt_trans (by unfold Lw;lia) b9;have nR:(Rw gs.length p c).natAbs < 2 ^ 4000:=Nat.lt_trans (by unfold Rw;lia) b9;have et1:(a8 p).take (i+1)=(a8 p).take i++[c]:=by rw [aa8,hci];rfl
    have hi:i < (a8 p).length:=(aaj.mp hci).1;refine ⟨_,rfl,_,rfl,ia gs,sO (fun a σ H'=>∃ (us:List V) (c9:Option V),σ=[some (.str (aq gs)),some (.ref pc),some v,some (.ref pj),some (.int (jst gs p ((a8 p).take i)+(a:Int) * (Lw gs.length p c * Rw gs.length p c))),some (.ref bx),some (.ref byy),some (.int (Lw gs.length p c)),some (.int (Rw gs.length p c)),c9]∧Same H H'∧H' pj=some (.lst us)∧H' pl=some (.lst ul)∧Paired (CutIn H' p) (a8 p) ul∧PairIn H' (p.1,c) (.ref bx)∧PairIn H' (c+1,p.2) (.ref byy)∧Paired (JtIn H' p) (dO gs p ((a8 p).take i) 0++eM c (Lw gs.length p c) (Rw gs.length p c) (gs.take a) (jst gs p ((a8 p).take i))) us) ⟨us,c9,by simp,S2,ej2,el2,hc2,hxb,hyb,by simpa [eM] using hj2⟩ ?_ ?_⟩
    · rintro a ch σ H3 hch ⟨us3,c9',rfl,S3,ej3,el3,hc3,hx3,hy3,hj3⟩;obtain ⟨g,hg,rfl⟩:=sW hch;have ha:a < gs.length:=(aaj.mp hg).1;refine ⟨_,rfl,.inl ⟨rfl,_,SqL.of ej3⟩,?_⟩;refine ⟨_,rfl,_,rfl,_,rfl,_,rfl,_,rfl,(by show 5≤sizeLine;decide),fun t5 n5=>?_⟩;have s5:=Same.new n5 (.tup [.ref bx,.str ⟨#[g.code]⟩,.ref byy,.int (jst gs p ((a8 p).take i)+(a:Int) * (Lw gs.length p c * Rw gs.length p c)),.int (Rw gs.length p c)]);have sG:=hj3.length;rw [aan,iI,iH,aaE,aaE] at sG;have lm:min i (a8 p).length * gs.length≤8 * 3:=abN (by lia) g3;refine ⟨pj,_,_,rfl,rfl,s5 _ _ ej3,aJ (by lia),?_⟩;have ej5:=s5 _ _ ej3;have T5:Tups (upd H3 t5 (.tup [.ref bx,.str ⟨#[g.code]⟩,.ref byy,.int (jst gs p ((a8 p).take i)+(a:Int) * (Lw gs.length p c * Rw gs.length p c)),.int (Rw gs.length p c)])) (upd (upd H3 t5 (.tup [.ref bx,.str ⟨#[g.code]⟩,.ref byy,.int (jst gs p ((a8 p).take i)+(a:Int) * (Lw gs.length p c * Rw gs.length p c)),.int (Rw gs.length p c)])) pj (.lst (us3++[.ref t5]))):=fun d xs hd=>by rw [aj (fun e=>by rw [e,ej5] at hd;cases hd)];exact hd
      have T35:=(Tups.of s5).trans T5;have npl2:pl≠pj:=fun e=>by rw [e] at npl;rw [ej] at npl;cases npl
      refine ⟨_,rfl,_,rfl,_,rfl,_,_,rfl,rfl,⟨nL,nR⟩,_,_,rfl,rfl,?_⟩;refine ⟨us3++[.ref t5],some (.str ⟨#[g.code]⟩),?_,(S3.trans s5).upd nj,ac,?_,Paired.mapP hc3 fun _ _ h=>CutIn.mono T35 h,PairIn.mono T35 hx3,PairIn.mono T35 hy3,?_⟩
      · have : jst gs p ((a8 p).take i)+(a:Int) * (Lw gs.length p c * Rw gs.length p c)+Lw gs.length p c * Rw gs.length p c=jst gs p ((a8 p).take i)+((a+1:Nat):Int) * (Lw gs.length p c * Rw gs.length p c):=by
          rw [Int.natCast_add,Int.add_mul];simp only [Int.natCast_one,Int.one_mul];lia
        rw [← this];rfl
      · rw [aj npl2];exact s5 _ _ el3
      · have eg:gs.take (a+1)=gs.take a++[g]:=by rw [aa8,hg];rfl
        rw [eg,jD,← abF];refine Paired.snoc (Paired.mapP hj3 fun _ _ h=>JtIn.mono T35 h) ⟨t5,.ref bx,.ref byy,rfl,T5 _ _ ?_,PairIn.mono T35 hx3,PairIn.mono T35 hy3⟩;rw [ac,eY,aaE,Nat.min_eq_left (by lia)]
    · rintro σ H3 ⟨us3,c9',rfl,S3,ej3,el3,hc3,hx3,hy3,hj3⟩;rw [kc] at *;rw [abq] at hj3;refine ⟨us3,some (.ref bx),some (.ref byy),some (.int (Lw gs.length p c)),some (.int (Rw gs.length p c)),c9',?_,S3,ej3,el3,hc3,?_⟩
      · rw [et1];have : jst gs p ((a8 p).take i++[c])=jst gs p ((a8 p).take i)+(gs.length:Int) * (Lw gs.length p c * Rw gs.length p c):=by
          unfold jst;rw [aaL,List.sum_append];simp
        rw [this]
      · rw [et1,jE];simpa using hj3
  · rintro σ H2 ⟨us,c5,c6,c7,c8,c9,rfl,S2,ej2,el2,hc2,hj2⟩;rw [← lul,abq] at hj2;exact ⟨_,rfl,q pj us H2 S2 nj ej2 hj2⟩
end
open PySem L2
def PkAt (H:Hp) (kvs:List (List Key × V)) (q:Int × Int) (ls:List (Int × Int)):Prop:=∃ t xs,cx kvs (ky q)=some (.ref t)∧H t=some (.tup xs)∧PairsIn H ls xs
theorem PkAt.mono {H H':Hp} {kvs:List (List Key × V)} {q:Int × Int} {ls:List (Int × Int)} (t:Tups H H') (h:PkAt H kvs q ls):PkAt H' kvs q ls:=by
  obtain ⟨a,xs,e,h1,h2⟩:=h;exact ⟨a,xs,e,t _ _ h1,PairsIn.mono t h2⟩
def jp1 (j:Jt) (a:Int × Int) (bs:List (Int × Int)):List (Int × Int):=bs.map fun b=>(j.2.1.op a.1 b.1,j.2.2.1+a.2 * j.2.2.2+b.2)
def jp2 (L:Int × Int→List (Int × Int)) (p:Int × Int) (j:Jt):List (Int × Int):=(L (p.1,j.1)).flatMap fun a=>jp1 j a (L (j.1+1,p.2))
def fu (L:Int × Int→List (Int × Int)) (p:Int × Int) (js:List Jt):List (Int × Int):=js.flatMap fun j=>jp2 L p j
theorem jO {α β:Type} {l:List α} {f:α→List β} {i:Nat} {x:α} (h:l[i]?=some x):(l.take (i+1)).flatMap f=(l.take i).flatMap f++f x:=by
  rw [aa8,h,List.flatMap_append];simp
theorem kL {α β:Type} {l:List α} {f:α→List β} {c:Nat} (h:∀ x∈l,(f x).length≤c):(l.flatMap f).length≤l.length * c:=by
  induction l with
  | nil=>simp
  | cons a r ih =>
    rw [List.flatMap_cons,aan,aaD,Nat.succ_mul];have:=h a aav;have:=ih fun x hx=>h x (aal _ hx);lia
def Bg (i:Int):Prop:=i.natAbs < 2 ^ 4000
section
variable {P:Program} {w:World} {K:aab} {mg:Str→Option Value} {base:Heap} {f:Addr} {fd:FuncData}
def tR:Sp:=fun vs H Q _=>∃ (pk jl:Addr) (kvs:List (List Key × V)) (us:List V) (p:Int × Int) (js:List Jt) (L:Int × Int→List (Int × Int)),vs=[.ref pk,.ref jl]∧H pk=some (.dT kvs)∧H jl=some (.lst us)∧Paired (JtIn H p) js us∧js.length≤24 ∧
  (∀ j∈js,PkAt H kvs (p.1,j.1) (L (p.1,j.1))∧PkAt H kvs (j.1+1,p.2) (L (j.1+1,p.2))∧Bg j.2.2.2)∧(∀ q,(L q).length≤3∧∀ x∈L q,Bg x.1∧Bg x.2) ∧
  ∀ a vs H',Same H H'→H a=none→H' a=some (.lst vs)→PairsIn H' (fu L p js) vs→Q (.ref a) H'
abbrev d4:Stmt:=top 41
theorem i5:FnScope ["picks","joints"] ["picks","joints"] (ag d4):=⟨rfl,rfl,rfl,by decide +kernel,rfl,by decide +kernel,by decide +kernel⟩
theorem ja (F:Fun K "join_picks" "join_picks" d4 f fd) (C_put_sign:Cal P w K mg base "put_sign" 1 ["left","sign","right"] fA):FnOk P w K mg base CX0 2 f fd ["picks","joints"] tR:=by
  refine F.ok i5 (fun vs H Q E h=>?_) (fun cdv A outer s H vs Q E hr h=>?_)
  · obtain ⟨pk,jl,kvs,us,p,js,L,rfl,_⟩:=h;rfl
  obtain ⟨pk,jl,kvs,us,p,js,L,rfl,ek,ej,hj,l24,hpk,hL,q⟩:=h;refine ⟨_,(@ai _ _ _ (@ar _ _ _ _ (@ud _ _ _ _ _ _ _ _ _ _ _ _ _ _ (["before","sign","behind","start","step","left_worth","left_number","right_worth","right_number","picks"]) ([none,none,none,none,none,none,none,none,none,some 0]) _ _ _ _ _ _ _ _ _ _ rfl (@eA _ _ _ _ (pv 1)) rfl ⟨rfl,trivial⟩ ⟨⟨rfl,Or.inl rfl,Or.inl rfl⟩,trivial⟩ (fun _ _ _ _=>⟨(@gf _ _ _ _ _ _ (5) rfl rfl (@au _ _ _ _ _ (@ao _ _ (0) _ (show aa2 (["before","sign","behind","start","step","left_worth","left_number","right_worth","right_number","picks"]:List Str) by decide +kernel) rfl (Or.inl rfl) (.inr rfl)) (@au _ _ _ _ _ (@ao _ _ (1) _ (show aa2 (["before","sign","behind","start","step","left_worth","left_number","right_worth","right_number","picks"]:List Str) by decide +kernel) rfl (Or.inl rfl) (.inr rfl)) (@au _ _ _ _ _ (@ao _ _ (2) _ (show aa2 (["before","sign","behind","start","step","left_worth","left_number","right_worth","right_number","picks"]:List Str) by decide +kernel) rfl (Or.inl rfl) (.inr rfl)) (@au _ _ _ _ _ (@ao _ _ (3) _ (show aa2 (["before","sign","behind","start","step","left_worth","left_number","right_worth","right_number","picks"]:List Str) by decide +kernel) rfl (Or.inl rfl) (.inr rfl)) (@au _ _ _ _ _ (@ao _ _ (4) _ (show aa2 (["before","sign","behind","start","step","left_worth","left_number","right_worth","right_number","picks"]:List Str) by decide +kernel) rfl (Or.inl rfl) (.inr rfl)) bQ (by rfl)) (by rfl)) (by rfl)) (by rfl)) (by rfl)) (by rfl) (by rfl)),bw,(@nX _ _ _ _ _ rfl (@g4 _ _ _ _ _ _ (u1 hr.units) (pv 9) (pv 0) (fun _ _=>rfl))),(@gf _ _ _ _ _ _ (2) rfl rfl (@au _ _ _ _ _ (@ao _ _ (5) _ (show aa2 (["before","sign","behind","start","step","left_worth","left_number","right_worth","right_number","picks"]:List Str) by decide +kernel) rfl (Or.inl rfl) (.inr rfl)) (@au _ _ _ _ _ (@ao _ _ (6) _ (show aa2 (["before","sign","behind","start","step","left_worth","left_number","right_worth","right_number","picks"]:List Str) by decide +kernel) rfl (Or.inl rfl) (.inr rfl)) bQ (by rfl)) (by rfl)) (by rfl) (by rfl)),bw,(@nX _ _ _ _ _ rfl (@g4 _ _ _ _ _ _ (u1 hr.units) (pv 9) (pv 2) (fun _ _=>rfl))),(@gf _ _ _ _ _ _ (2) rfl rfl (@au _ _ _ _ _ (@ao _ _ (7) _ (show aa2 (["before","sign","behind","start","step","left_worth","left_number","right_worth","right_number","picks"]:List Str) by decide +kernel) rfl (Or.inl rfl) (.inr rfl)) (@au _ _ _ _ _ (@ao _ _ (8) _ (show aa2 (["before","sign","behind","start","step","left_worth","left_number","right_worth","right_number","picks"]:List Str) by decide +kernel) rfl (Or.inl rfl) (.inr rfl)) bQ (by rfl)) (by rfl)) (by rfl) (by rfl)),bw,(@bc _ _ _ _ _ (@aa _ _ _ _ _ (@al _ _ _ _ _ _ _ _ _ _ _ C_put_sign hr (by lia) rfl (@aa _ _ _ _ _ (pv 5) (@aa _ _ _ _ _ (pv 1) (@aa _ _ _ _ _ (pv 7) ad (by rfl)) (by rfl)) (by rfl)) (by decide) (by rfl) (by rfl)) (@aa _ _ _ _ _ (@am _ _ _ _ _ _ _ _ bB (@am _ _ _ _ _ _ _ _ bB (pv 3) (@am _ _ _ _ _ _ _ _ fD (pv 6) (pv 4))) (pv 8)) ad (by rfl)) (by rfl)))⟩) (by rfl) (by rfl) (by rfl) (by rfl) (by intro _;rfl) (by intro _ _;rfl) (by intro _ _;rfl)))),?_⟩;have lj:=hj.length;have b2:∀ j,(jp2 L p j).length≤9:=fun j=>by
    unfold jp2;have h1:=kL (l:=L (p.1,j.1)) (f:=fun a=>jp1 j a (L (j.1+1,p.2))) (c:=3) (fun x _=>by unfold jp1;rw [aak];exact (hL _).1);have:=(hL (p.1,j.1)).1;lia
  refine ⟨_,rfl,jl,rfl,⟨_,SqL.of ej⟩,?_⟩;refine uE (Trn.list (xs:=us)) (fun i ys H'=>Same H H'∧PairsIn H' (fu L p (js.take i)) ys) ⟨Same.refl _,.nil⟩ (fun i ys H' hi z=>SqL.of (z.1 _ _ ej)) (fun i x ys H0 H1 hi hx z Nx nx=>?_) (fun ys H' z p5 n5=>?_)
  · obtain ⟨rfl,hx⟩:=hx;obtain ⟨S,hp⟩:=z;obtain ⟨j,hji,t,xb,yb,rfl,et,hxb0,hyb0⟩:=Paired.at hj hx;have et:=S _ _ et;have hxb:=PairIn.mono (Tups.of S) hxb0;have hyb:=PairIn.mono (Tups.of S) hyb0;obtain ⟨bx,rfl,ebx⟩:=PairIn.key hxb;obtain ⟨byy,rfl,eby⟩:=PairIn.key hyb;obtain ⟨k1,k2,k3⟩:=hpk j (aaP hji);obtain ⟨t1,xs1,v1,e1,h1⟩:=PkAt.mono (Tups.of S) k1;obtain ⟨t2,xs2,v2,e2,h2⟩:=PkAt.mono (Tups.of S) k2;have ek1:=S _ _ ek;have l1:=h1.length;have l2:=h2.length;have c1:=(hL (p.1,j.1)).1;have c2:=(hL (j.1+1,p.2)).1;have lys:=hp.length;have lb:(fu L p (js.take i)).length≤24 * 9:=by
      have:=kL (l:=js.take i) (f:=fun j=>jp2 L p j) (c:=9) (fun j _=>b2 j);have h3:(js.take i).length≤24:=by rw [aaE];lia
      exact aaK this (abW _ h3)
    refine ⟨t,_,rfl,SqT.of et,rfl,_,_,rfl,_,_,rfl,_,_,rfl,_,_,rfl,_,_,rfl,rfl,?_⟩;refine ⟨_,rfl,_,rfl,pk,.ref t1,rfl,by rw [← v1];exact DGet.t (k:=ky (p.1,j.1)) ek1 ebx,t1,rfl,⟨_,SqT.of e1⟩,?_⟩;refine sD (Trn.tup (xs:=xs1)) (fun a ys' σ' H'=>∃ c5 c6 c7 c8,σ'=[some (.ref bx),some (.str j.2.1.str),some (.ref byy),some (.int j.2.2.1),some (.int j.2.2.2),c5,c6,c7,c8,some (.ref pk)]∧Same H1 H'∧PairsIn H' (fu L p (js.take i)++((L (p.1,j.1)).take a).flatMap fun x=>jp1 j x (L (j.1+1,p.2))) ys') ⟨_,_,_,_,rfl,Same.refl _,by simpa using hp⟩ (fun a ys' σ' H' ha z=>by obtain ⟨_,_,_,_,_,S1,_⟩:=z;exact SqT.of (S1 _ _ e1)) (fun a x ys1 σ1 H2 H2' ha hx1 z Nx1 nx1=>?_) (fun ys1 σ1 H2 z=>?_)
    · obtain ⟨rfl,hx1⟩:=hx1;obtain ⟨c5,c6,c7,c8,rfl,S1,hp1⟩:=z;obtain ⟨pa,hpa,ba,rfl,eba⟩:=bX (PairsIn.mono (Tups.of S1) h1) hx1;have gpa:=(hL (p.1,j.1)).2 pa (aaP hpa);refine ⟨ba,_,rfl,SqT.of eba,rfl,_,_,rfl,_,_,rfl,rfl,?_⟩;refine ⟨_,rfl,_,rfl,pk,.ref t2,rfl,by rw [← v2];exact DGet.t (k:=ky (j.1+1,p.2)) (S1 _ _ ek1) (S1 _ _ eby),t2,rfl,⟨_,SqT.of (S1 _ _ e2)⟩,?_⟩;have lys1:=hp1.length;have lt1:(((L (p.1,j.1)).take a).flatMap fun x=>jp1 j x (L (j.1+1,p.2))).length≤3 * 3:=by
        have:=kL (l:=(L (p.1,j.1)).take a) (f:=fun x=>jp1 j x (L (j.1+1,p.2))) (c:=3) (fun x _=>by unfold jp1;rw [aak];exact c2);have h3:((L (p.1,j.1)).take a).length≤3:=by rw [aaE];lia
        exact aaK this (abW _ h3)
      rw [aan] at lys1;refine sC (Trn.tup (xs:=xs2)) (fun b ys' σ' H'=>∃ c7 c8,σ'=[some (.ref bx),some (.str j.2.1.str),some (.ref byy),some (.int j.2.2.1),some (.int j.2.2.2),some (.int pa.1),some (.int pa.2),c7,c8,some (.ref pk)]∧Same H1 H'∧PairsIn H' (fu L p (js.take i)++((L (p.1,j.1)).take a).flatMap (fun x=>jp1 j x (L (j.1+1,p.2)))++jp1 j pa ((L (j.1+1,p.2)).take b)) ys') ⟨_,_,rfl,S1,by simpa [jp1] using hp1⟩ (fun b ys' σ' H' hb z=>?_) (fun b x ys2 σ2 H3 H3' hb hx2 z Nx2 nx2=>?_) (fun ys2 σ2 H3 z=>?_)
      · obtain ⟨_,_,_,S2,hp2⟩:=z;have:=hp2.length;rw [aan,aan] at this;have h3:(jp1 j pa ((L (j.1+1,p.2)).take b)).length≤3:=by unfold jp1;rw [aak,aaE];lia
        exact ⟨SqT.of (S2 _ _ e2),aJ (by lia)⟩
      · obtain ⟨rfl,hx2⟩:=hx2;obtain ⟨c7,c8,rfl,S2,hp2⟩:=z;obtain ⟨pb,hpb,bb,rfl,ebb⟩:=bX (PairsIn.mono (Tups.of S2) h2) hx2;have gpb:=(hL (j.1+1,p.2)).2 pb (aaP hpb);refine ⟨bb,_,rfl,SqT.of ebb,rfl,_,_,rfl,_,_,rfl,rfl,?_⟩;refine ⟨_,rfl,_,rfl,_,rfl,pa.1,j.2.1,pb.1,rfl,gpa.1,gpb.1,?_⟩;refine ⟨_,rfl,_,rfl,_,rfl,_,_,rfl,rfl,⟨gpa.2,k3⟩,_,_,rfl,rfl,_,rfl,_,_,rfl,rfl,(by show 2≤sizeLine;decide),fun o ho=>nx2 _ _ _ ⟨_,_,rfl,S2.trans (Same.new ho _),?_⟩⟩;have etb:(L (j.1+1,p.2)).take (b+1)=(L (j.1+1,p.2)).take b++[pb]:=by rw [aa8,hpb];rfl
        rw [etb];unfold jp1;rw [aaL,← abF];exact PairsIn.snoc (PairsIn.mono (Tups.of (Same.new ho _)) hp2) ⟨o,rfl,ac⟩
      · obtain ⟨c7,c8,rfl,S2,hp2⟩:=z;refine nx1 _ _ _ ⟨_,_,_,_,rfl,S2,?_⟩;rw [← l2,abq] at hp2;rw [jO (f:=fun x=>jp1 j x (L (j.1+1,p.2))) hpa,← abF];exact hp2
    · obtain ⟨c5,c6,c7,c8,rfl,S1,hp1⟩:=z;refine nx _ _ ⟨S.trans S1,?_⟩;rw [← l1,abq] at hp1;unfold fu at hp1 ⊢;rw [jO (f:=fun j=>jp2 L p j) hji];exact hp1
  · obtain ⟨S,hp⟩:=z;rw [← lj,abq] at hp;have s5:=Same.new n5 (.lst ys);exact q p5 ys _ (S.trans s5) (S.free n5) ac (PairsIn.mono (Tups.of s5) hp)
open PySem L2
def vq:Str:=("pick_three":Str) ++ ".<locals>." ++ "<lambda>"
def sJ (p:Int × Int):List Int:=[p.2]
def qU (p:Int × Int):List Int:=[-p.1,p.2]
def LT (T:Addr) (H:Hp):Prop:=∃ tp,LTab T vq H tp
def mB (T:Addr):Sp:=fun vs H Q _=>∃ (l:Addr) (us:List V) (ps:List (Int × Int)),vs=[.ref l]∧H l=some (.lst us)∧PairsIn H ps us∧0 < us.length∧LT T H ∧
  ∀ t x y z H',But T H H'→H t=none→LT T H'→H' t=some (.tup [x,y,z])→us[ay (bT sJ ps) (us.length - 1)]?=some x→us[ay (bT gH ps) (us.length - 1)]?=some y→us[ay (bT qU ps) (us.length - 1)]?=some z→Q (.ref t) H'
abbrev a_:Stmt:=top 42
theorem sc_pick_three:FnScope ["found","first","greatest"] ["found"] (ag a_):=⟨rfl,rfl,rfl,by decide +kernel,rfl,by decide +kernel,by decide +kernel⟩
theorem i9 {c T:Addr} (F:FunC K "pick_three" "pick_three" a_ f fd c) (C:PySem.W.CodeHd base c T) (hB:base.BuiltinsAt mg T) (hmin:mg "min" = none):FnOk P w K mg base CX0 4 f fd ["found"] (mB T):=by
  refine F.ok sc_pick_three (fun vs H Q E h=>?_) (fun A outer s H vs Q E hr h=>?_)
  · obtain ⟨l,us,ps,rfl,_⟩:=h;rfl
  obtain ⟨l,us,ps,rfl,el,hps,hne,hT,q⟩:=h;have nd:=sc_pick_three.nd;have S1:FnScope ["way"] ["way"] { kind:=.function,names:=[("way",.local)],isGenerator:=false,isCoroutine:=false }:=⟨rfl,rfl,rfl,by decide,rfl,by decide,by decide⟩
  have k1:∀ p x H (Q:VK),PairIn H p x→(∀ k H',KeyIn false (sJ p) k H'→Same H H'→Q k H')→tOp (tW K) (tJ 0) (tC (V.int 1)) [some x] H Q:=fun p x H Q ⟨a,e,ha⟩ q=>by
    subst e;exact ⟨_,rfl,a,_,_,_,rfl,rfl,SqT.of ha,rfl,q _ H ⟨p.2,rfl,rfl⟩ (Same.refl _)⟩
  refine ⟨_,af (aw (i:=1) nd rfl (Or.inl rfl) (jt (key:=sJ) (kd:=false) (y:="way") (c:=c) (P:=T) (hr.mono (by decide)) (by rfl) hmin abU (aa (pv 0) ad) (by rfl) (by rfl) rfl C hB S1 (fun _ _ _ _=>rfl) (fun _ _ _ _ _=>(aK (gk (K:=K) rfl) (pv 0) ae (fun _ _=>rfl))) k1))
    (af (aw (i:=2) nd rfl (Or.inl rfl) (jt (key:=qU) (kd:=true) (y:="way") (c:=c) (P:=T) (hr.mono (by decide)) (by rfl) hmin abU (aa (pv 0) ad) (by rfl) (by rfl) rfl C hB S1 (fun _ _ _ _=>rfl) (fun _ _ _ _ _=>bc (aa (sY qc (aK (gk (K:=K) rfl) (pv 0) ae (fun _ _=>rfl))) (aa (aK (gk (K:=K) rfl) (pv 0) ae (fun _ _=>rfl)) ad))) ?_))
    (ai (ar (bc (aa (pv 1) (aa (ak (pU (hr.mono (by decide))) (by rfl) hmin abU (aa (pv 0) ad)) (aa (pv 2) ad))))))),?_⟩
  · intro p x H Q ⟨a,e,ha⟩ q;subst e;exact ⟨_,rfl,a,_,_,_,rfl,rfl,SqT.of ha,rfl,_,rfl,_,rfl,a,_,_,_,rfl,rfl,SqT.of ha,rfl,(by show 2≤sizeLine;decide),fun t ht=>q (.ref t) _ ⟨t,rfl,ac⟩ (Same.new ht _)⟩
  · have nl:l≠T:=fun z=>by obtain ⟨tp,h⟩:=hT;rw [z,h.tab] at el;cases el
    have tT:∀ {H H':Hp},But T H H'→LT T H→∀ b xs,H b=some (.tup xs)→H' b=some (.tup xs):=fun b h c xs e=>b c _ (fun z=>by obtain ⟨tp,h⟩:=h;rw [z,h.tab] at e;cases e) e;refine ⟨_,rfl,l,us,ps,rfl,el,hps,hne,hT,fun x1 H1 hx1 B1 T1=>?_⟩;have el1:=B1 _ _ nl el;have hps1:=PairsIn.tups (tT B1 hT) hps;refine ⟨_,rfl,l,us,ps,rfl,el1,hps1,hne,T1,fun x2 H2 hx2 B2 T2=>?_⟩;have el2:=B2 _ _ nl el1;have hps2:=PairsIn.tups (tT B2 T1) hps1;refine ⟨_,rfl,_,rfl,l,us,ps,rfl,el2,hps2,hne,fun x3 hx3=>⟨_,rfl,(by show 3≤sizeLine;decide),fun t ht=>?_⟩⟩;have st:=Same.new ht (.tup [x1,x3,x2]);have nT:t≠T:=fun z=>by obtain ⟨tp,h⟩:=T2;rw [z,h.tab] at ht;cases ht
    refine q t x1 x3 x2 _ (fun b o hb e=>st _ _ (B2 _ _ hb (B1 _ _ hb e))) ?_ ?_ ac hx1 hx3 hx2
    · cases e:H t with
      | none=>rfl
      | some o=>have:=B2 _ _ nT (B1 _ _ nT e);rw [ht] at this;cases this
    · obtain ⟨tp,h⟩:=T2;refine ⟨tp,st _ _ h.tab,h.tri,fun pos' cv hc=>?_⟩;obtain ⟨d,e1,e2⟩:=h.cds pos' cv hc;exact ⟨d,e1,st _ _ e2⟩
end
open PySem L2
def ge (ps:List (Int × Int)):List (Int × Int):=[ps.getD (ay (bT sJ ps) (ps.length - 1)) (0,0),ps.getD (ay (bT gH ps) (ps.length - 1)) (0,0),ps.getD (ay (bT qU ps) (ps.length - 1)) (0,0)]
def fnd (ns:List Int) (gs:List Sg) (L:Int × Int→List (Int × Int)) (q:Int × Int):List (Int × Int):=if q.1=q.2 then [(ns.getD q.1.toNat 0,0)] else fu L q (dO gs q (a8 q) 0)
def kS (ns:List Int) (gs:List Sg) (lo:List (Int × Int)) (L:Int × Int→List (Int × Int)) (q:Int × Int):Prop:=L q=if fnd ns gs L q≠[]∧q∉lo then ge (fnd ns gs L q) else []
theorem lA {kvs:List (List Key × V)} {k:List Key} {v:V} (h:k∉kvs.map (·.1)):db kvs k v=kvs++[(k,v)]:=by
  unfold db;rw [if_neg];intro q;obtain ⟨p,hp,e⟩:=List.any_eq_true.mp q;exact h (aaT.mpr ⟨p,hp,of_decide_eq_true e⟩)
theorem fC {ps:List (Int × Int)} (h:ps≠[]):∀ x∈ge ps,x∈ps:=fun x hx=>by
  have l:0 < ps.length:=ab0.mpr h;have key:∀ kf:Nat→List Int,ps.getD (ay kf (ps.length - 1)) (0,0)∈ps:=fun kf=>by
    have:=iS kf (ps.length - 1);have hb:ay kf (ps.length - 1) < ps.length:=by lia
    rw [aay,aad hb];exact abp hb
  simp only [ge,aai,abb,or_false] at hx;rcases hx with rfl|rfl|rfl
  · exact key _
  · exact key _
  · exact key _
theorem lh:∀ n,n≤9→(sfl n n).Pairwise (fun p q=>p.2 - p.1≤q.2 - q.1):=by decide +kernel
theorem ic {n i:Nat} (hn:n≤9) {p q:Int × Int} (hi:(sfl n n)[i]?=some p) (hq:0≤q.1∧q.1≤q.2∧q.2 < n) (hl:q.2 - q.1 < p.2 - p.1):q∈(sfl n n).take i:=by
  have hm:q∈sfl n n:=by
    have z:=nO n q.1.toNat q.2.toNat (by lia) (by lia);have e:((q.1.toNat:Int),(q.2.toNat:Int))=q:=by
      obtain ⟨a,b⟩:=q;simp only at *;rw [show (a.toNat:Int)=a by lia,show (b.toNat:Int)=b by lia]
    rw [e] at z;exact z
  obtain ⟨j,hj,e⟩:=abI hm;obtain ⟨hi1,hi2⟩:=aaj.mp hi;by_cases c:j < i
  · rw [List.mem_iff_getElem?];exact ⟨j,by rw [List.getElem?_take];rw [if_pos c,aad hj,e]⟩
  · have hr:=abD.mp (lh n hn);by_cases c2:i=j
    · subst c2;rw [hi2] at e;rw [e] at hl;lia
    · have:=hr i j hi1 hj (by lia);rw [hi2,e] at this;lia
theorem eZ (n:Nat):∀ p∈sfl n n,0≤p.1∧p.1≤p.2∧p.2 < n:=fun p hp=>by
  unfold sfl sfR at hp;rw [List.mem_flatMap] at hp;obtain ⟨m,hm,hp⟩:=hp;rw [List.mem_map] at hp;obtain ⟨f,hf,rfl⟩:=hp;rw [List.mem_range] at hf;simp only;lia
theorem gr:∀ n,n≤9→(sfl n n).Nodup:=by decide +kernel
theorem lW {c L R:Int} {j:Jt}:∀ {xs:List Sg} {st:Int},j∈eM c L R xs st→j.1=c∧j.2.2.2=R∧∃ k:Nat,k < xs.length∧j.2.2.1=st+(k:Int) * (L * R)
  | [],st,h=>by simp [eM] at h
  | g :: r,st,h=>by
    rcases aai.mp h with rfl|h
    · exact ⟨rfl,rfl,0,by simp,by simp⟩
    · obtain ⟨a,b,k,hk,e⟩:=lW h;refine ⟨a,b,k+1,by simp;lia,?_⟩;rw [e,Int.natCast_add,Int.add_mul];simp only [Int.natCast_one,Int.one_mul];lia
theorem gj {gs:List Sg} {p:Int × Int} {j:Jt} (g3:gs.length≤3) (hp:0≤p.1) (hp2:p.2≤8):∀ {cs:List Int} {st:Int},(∀ c∈cs,p.1≤c∧c < p.2)→0≤st→j∈dO gs p cs st→(p.1≤j.1∧j.1 < p.2)∧(0≤j.2.2.2∧j.2.2.2 < 1000000000)∧0≤j.2.2.1∧j.2.2.1≤st+(cs.length:Int) * (3 * (1000000000 * 1000000000))
  | [],st,_,_,h=>by simp [dO] at h
  | c :: cs,st,hc,h0,h=>by
    have c1:=hc c aav;have bL:=mh gs.length g3 (c - p.1+1).toNat (by lia);have bR:=mh gs.length g3 (p.2 - c).toNat (by lia);have m0:0≤Lw gs.length p c * Rw gs.length p c:=Int.mul_nonneg bL.1 bR.1;have m1:Lw gs.length p c * Rw gs.length p c≤1000000000 * 1000000000:=Int.mul_le_mul (by unfold Lw;lia) (by unfold Rw;lia) bR.1 (by decide);have g3':(gs.length:Int)≤3:=by lia
    have lc:((c :: cs).length:Int)=(cs.length:Int)+1:=by simp
    rcases aau.mp h with h|h
    · obtain ⟨a,b,k,hk,e⟩:=lW h;rw [a,b];have k1:(k:Int) * (Lw gs.length p c * Rw gs.length p c)≤3 * (1000000000 * 1000000000):=Int.mul_le_mul (by lia) m1 m0 (by decide);have k0:0≤(k:Int) * (Lw gs.length p c * Rw gs.length p c):=Int.mul_nonneg (by lia) m0;refine ⟨c1,⟨bR.1,bR.2⟩,?_,?_⟩
      · rw [e];lia
      · rw [e,lc];have : (0:Int)≤(cs.length:Int):=by lia
        lia
    · have k1:(gs.length:Int) * (Lw gs.length p c * Rw gs.length p c)≤3 * (1000000000 * 1000000000):=Int.mul_le_mul g3' m1 m0 (by decide);have k0:0≤(gs.length:Int) * (Lw gs.length p c * Rw gs.length p c):=Int.mul_nonneg (by lia) m0;obtain ⟨a,b,d,e⟩:=gj g3 hp hp2 (fun x hx=>hc x (aal _ hx)) (by lia) h;refine ⟨a,b,d,?_⟩;rw [lc];lia
theorem iO {p:Int × Int} {c:Int} (h:c∈a8 p):p.1≤c∧c < p.2:=by
  unfold a8 at h;obtain ⟨k,hk,rfl⟩:=aaT.mp h;have:=abe.mp hk;lia
def bdW (q:Int × Int) (x:Int × Int):Prop:=x.1.natAbs≤10 ^ (30 * (q.2 - q.1+1).toNat)∧x.2.natAbs≤10 ^ (30 * (q.2 - q.1+1).toNat)
theorem gx {n:Nat} (h:n≤9):10 ^ (30 * n) < 2 ^ 4000:=abQ (Nat.pow_le_pow_right (by decide) (show 30 * n≤270 by lia)) (by decide +kernel)
theorem jx {H:Hp} {ps:List (Int × Int)} {us:List V} (h:PairsIn H ps us):us=[]↔ps=[]:=by
  have:=h.length;constructor
  · rintro rfl;exact abJ.mp this
  · rintro rfl;exact abJ.mp this.symm
theorem on {α β:Type} {f g:α→List β}:∀ {l:List α},(∀ x∈l,f x=g x)→l.flatMap f=l.flatMap g
  | [],_=>rfl
  | a :: r,h=>by rw [List.flatMap_cons,List.flatMap_cons,h a aav,on fun x hx=>h x (aal _ hx)]
theorem uM {ns:List Int} {gs:List Sg} {L L':Int × Int→List (Int × Int)} {q:Int × Int} (g3:gs.length≤3) (h0:0≤q.1) (h8:q.2≤8) (h:∀ c,q.1≤c→c < q.2→L' (q.1,c)=L (q.1,c)∧L' (c+1,q.2)=L (c+1,q.2)):fnd ns gs L' q=fnd ns gs L q:=by
  unfold fnd;split
  · rfl
  · unfold fu;refine on fun j hj=>?_;have hb:=(gj g3 h0 h8 (fun c hc=>iO hc) (acf 0) hj).1;obtain ⟨e1,e2⟩:=h j.1 hb.1 hb.2;unfold jp2;rw [e1,e2]
theorem bdW.bg {q x:Int × Int} (h:bdW q x) (hq:(q.2 - q.1+1).toNat≤9):Bg x.1∧Bg x.2:=⟨abQ h.1 (gx hq),abQ h.2 (gx hq)⟩
theorem rT {a b:Nat} (ha:1≤a) (hb:1≤b):10 ^ (30 * a) * 10 ^ 25+10 ^ (30 * b)+10 ^ 25≤10 ^ (30 * (a+b)):=by
  have e:10 ^ (30 * (a+b))=10 ^ (30 * a) * 10 ^ (30 * b):=by rw [← Nat.pow_add];congr 1;lia
  have h1:10 ^ 30≤10 ^ (30 * a):=Nat.pow_le_pow_right (by decide) (by lia);have h2:10 ^ 30≤10 ^ (30 * b):=Nat.pow_le_pow_right (by decide) (by lia);rw [e];generalize 10 ^ (30 * a)=x at h1 ⊢;generalize 10 ^ (30 * b)=y at h2 ⊢;have h3:x * 10 ^ 30≤x * y:=Nat.mul_le_mul_left _ h2;have h4:10 ^ 30 * y≤x * y:=abW _ h1;have a1:x * (10 ^ 25 * 4)≤x * 10 ^ 30:=Nat.mul_le_mul_left x (by decide);have a2:4 * y≤10 ^ 30 * y:=abW y (by decide);have a3:10 ^ 25 * 4≤y:=aaK (by decide) h2;have b1:=aaK a1 h3;have b2:=aaK a2 h4;rw [← Nat.mul_assoc] at b1;clear a1 a2 h1 h2 h3 h4 e;generalize x * y=m at b1 b2 ⊢;generalize x * 10 ^ 25=u at b1 ⊢;generalize 10 ^ 25=v at a3 ⊢;lia
theorem vw {p:Int × Int} {j:Jt} {a b:Int × Int} (h1:p.1≤j.1∧j.1 < p.2) (h2:0≤j.2.2.2∧j.2.2.2 < 1000000000) (h3:0≤j.2.2.1∧j.2.2.1≤10 ^ 25) (ha:bdW (p.1,j.1) a) (hb:bdW (j.1+1,p.2) b):bdW p (j.2.1.op a.1 b.1,j.2.2.1+a.2 * j.2.2.2+b.2):=by
  obtain ⟨a1,a2⟩:=ha;obtain ⟨b1,b2⟩:=hb;simp only at a1 a2 b1 b2;have el:(p.2 - p.1+1).toNat=(j.1 - p.1+1).toNat+(p.2 - (j.1+1)+1).toNat:=by lia
  have tp:=rT (a:=(j.1 - p.1+1).toNat) (b:=(p.2 - (j.1+1)+1).toNat) (by lia) (by lia);have em:10 ^ (30 * ((j.1 - p.1+1).toNat+(p.2 - (j.1+1)+1).toNat))=10 ^ (30 * (j.1 - p.1+1).toNat) * 10 ^ (30 * (p.2 - (j.1+1)+1).toNat):=by rw [← Nat.pow_add];congr 1;lia
  unfold bdW;rw [el];generalize 10 ^ (30 * (j.1 - p.1+1).toNat)=x at a1 a2 tp em ⊢;generalize 10 ^ (30 * (p.2 - (j.1+1)+1).toNat)=y at b1 b2 tp em ⊢;generalize 10 ^ (30 * ((j.1 - p.1+1).toNat+(p.2 - (j.1+1)+1).toNat))=z at tp em ⊢;refine ⟨?_,?_⟩
  · simp only;cases j.2.1 with
    | plus=>show (a.1+b.1).natAbs≤z;lia
    | minus=>show (a.1 - b.1).natAbs≤z;lia
    | times=>show (a.1 * b.1).natAbs≤z;rw [Int.natAbs_mul,em];exact abN a1 b1
  · simp only;have hm:(a.2 * j.2.2.2).natAbs≤x * 10 ^ 25:=by rw [Int.natAbs_mul];exact abN a2 (by lia)
    have h10:((10 ^ 25:Nat):Int)=(10:Int) ^ 25:=by decide
    lia
section
variable {P:Program} {w:World} {K:aab} {mg:Str→Option Value} {base:Heap} {f:Addr} {fd:FuncData}
def qk (T:Addr):Sp:=fun vs H Q _=>∃ (r:Addr) (ns:List Int) (gs:List Sg) (l:Addr) (ul:List V) (lo:List (Int × Int)),vs=[.ref r,.str (aq gs),.ref l]∧H r=some (.lst (ns.map V.int))∧1≤ns.length∧ns.length≤9∧1≤gs.length∧gs.length≤3∧Small ns∧(H l=some (.lst ul)∨∀ H',SqT K H' l ul)∧PairsIn H lo ul∧LT T H ∧
  ∀ pk kvs (L:Int × Int→List (Int × Int)) H',But T H H'→LT T H'→H pk=none→H' pk=some (.dT kvs)→kvs.map (·.1)=(sfl ns.length ns.length).map ky→(∀ q∈sfl ns.length ns.length,PkAt H' kvs q (L q)∧kS ns gs lo L q)→Q (.ref pk) H'
abbrev aX:Stmt:=top 40
theorem aB:FnScope ["row","signs","left_out","counts","picks","stretch","first","last","found"] ["row","signs","left_out"] (ag aX):=⟨rfl,rfl,rfl,by decide +kernel,rfl,by decide +kernel,by decide +kernel⟩
theorem fG {T tD:Addr} (F:FunD K "picks_by_stretch" "picks_by_stretch" aX f fd tD) (B:Bu K mg) (C_counts_up_to:Cal P w K mg base "counts_up_to" 2 ["signs","many"] qm) (C_shorter_first:Cal P w K mg base "shorter_first" 1 ["many"] qi) (C_joints_of:Cal P w K mg base "joints_of" 2 ["signs","counts","stretch"] hV)
    (C_join_picks:Cal P w K mg base "join_picks" 2 ["picks","joints"] tR) (C_pick_three:Cal P w K mg base "pick_three" 4 ["found"] (mB T)):FnOk P w K mg base CX0 5 f fd ["row","signs","left_out"] (qk (K:=K) T):=by
  refine F.ok aB (fun vs H Q E h=>?_) (fun cdv A outer s H vs Q E hr h=>?_)
  · obtain ⟨r,ns,gs,l,ul,lo,rfl,_⟩:=h;rfl
  obtain ⟨r,ns,gs,l,ul,lo,rfl,er,h1,h9,g1,g3,sm,hlo,plo,hT,q⟩:=h;refine ⟨_,(@af _ _ _ _ _ (@aw _ _ (3) _ _ _ _ (aB).nd rfl (Or.inl rfl) (@al _ _ _ _ _ _ _ _ _ _ _ C_counts_up_to hr (by lia) rfl (@aa _ _ _ _ _ (pv 1) (@aa _ _ _ _ _ (@ak _ _ _ _ _ _ _ _ _ aI rfl B.ilen aaY (@aa _ _ _ _ _ (pv 0) ad (by rfl)) (by decide) (by decide) (by rfl) (by rfl)) ad (by rfl)) (by rfl)) (by decide) (by rfl) (by rfl)) (by rfl) (by first|exact .inl rfl|exact .inr rfl|assumption)) (@af _ _ _ _ _ (@aw _ _ (4) _ _ _ _ (aB).nd rfl (Or.inl rfl) qG (by rfl) (by first|exact .inl rfl|exact .inr rfl|assumption)) (@af _ _ _ _ _ (@fi _ _ _ _ _ _ _ _ abn rfl (@eA _ _ _ _ (@al _ _ _ _ _ _ _ _ _ _ _ C_shorter_first hr (by lia) rfl (@aa _ _ _ _ _ (@ak _ _ _ _ _ _ _ _ _ aI rfl B.ilen aaY (@aa _ _ _ _ _ (pv 0) ad (by rfl)) (by decide) (by decide) (by rfl) (by rfl)) ad (by rfl)) (by decide) (by rfl) (by rfl))) (@ao _ _ (5) _ (aB).nd rfl (Or.inl rfl) (.inl rfl)) (@af _ _ _ _ _ (@eu _ _ _ _ _ _ (pv 5) (@eD _ _ _ _ _ _ rfl (@au _ _ _ _ _ (@ao _ _ (6) _ (aB).nd rfl (Or.inl rfl) (.inl rfl)) (@au _ _ _ _ _ (@ao _ _ (7) _ (aB).nd rfl (Or.inl rfl) (.inl rfl)) bQ (by rfl)) (by rfl)) (by rfl) (by rfl)) (by rfl) (by rfl) (by rfl)) (@gY _ _ _ _ _ (@aw _ _ (8) _ _ _ _ (aB).nd rfl (Or.inl rfl) (@il _ _ _ _ _ _ _ _ (@bj _ _ _ _ _ _ _ _ eW (pv 6) (pv 7) (a4 _)) (@az _ _ _ _ (@aa _ _ _ _ _ (@bc _ _ _ _ _ (@aa _ _ _ _ _ (@aK _ _ _ _ _ _ _ aQ (pv 0) (pv 6) (fun _ _=>rfl)) (@aa _ _ _ _ _ ae ad (by rfl)) (by rfl))) ad (by rfl))) (@al _ _ _ _ _ _ _ _ _ _ _ C_join_picks hr (by lia) rfl (@aa _ _ _ _ _ (pv 4) (@aa _ _ _ _ _ (@al _ _ _ _ _ _ _ _ _ _ _ C_joints_of hr (by lia) rfl (@aa _ _ _ _ _ (pv 1) (@aa _ _ _ _ _ (pv 3) (@aa _ _ _ _ _ (pv 5) ad (by rfl)) (by rfl)) (by rfl)) (by decide) (by rfl) (by rfl)) ad (by rfl)) (by rfl)) (by decide) (by rfl) (by rfl))) (by rfl) (by first|exact .inl rfl|exact .inr rfl|assumption)) (@ai _ _ _ (@sg _ _ _ _ _ _ _ _ _ (u1 hr.units) (pv 4) (pv 5) (@il _ _ _ _ _ _ _ _ (@PW.pt _ _ _ (@km _ _ _ _ _ _ _ (@lB _ _ _ (pv 8) (fun _=>rfl)) (@ki _ _ _ _ (@bj _ _ _ _ _ _ _ _ (@mJ _ _ rfl hr.units) (pv 5) (pv 2) (by with_unfolding_all rfl))))) (@al _ _ _ _ _ _ _ _ _ _ _ C_pick_three hr (by lia) rfl (@aa _ _ _ _ _ (pv 8) ad (by rfl)) (by decide) (by rfl) (by rfl)) (@bc _ _ _ _ _ ad)) rfl)))) (by intro _;rfl)) (@ai _ _ _ (@ar _ _ _ _ (pv 4)))))),?_⟩;have hl:(ns.map V.int).length=ns.length:=aak _;have zl:(aq gs).length=gs.length:=kc gs;have t2:(2:Nat)≤sizeLine:=by decide
  refine ⟨_,rfl,_,rfl,r,_,rfl,.inl (SqL.of er),?_⟩;rw [hl];refine ⟨aq gs,ns.length,rfl,by rw [zl];exact g3,by lia,by lia,fun pc H1 s1 npc ec=>?_⟩;rw [zl,show (((ns.length:Nat):Int) - 1).toNat=ns.length - 1 by lia] at ec;refine fun pk nk=>?_;have sk:=Same.new nk (.dT []);have ek0:upd H1 pk (.dT []) pk=some (.dT []):=ac;generalize upd H1 pk (.dT [])=H2 at sk ek0 ⊢;refine ⟨_,rfl,r,_,rfl,.inl (SqL.of ((s1.trans sk) _ _ er)),?_⟩;rw [hl];refine ⟨ns.length,rfl,h9,fun pl us H3 s3 npl epl hus=>?_⟩;have S3:=(s1.trans sk).trans s3;have nkH:H pk=none:=s1.free nk;obtain ⟨tp0,T0⟩:=hT;have npkT:pk≠T:=fun e=>by rw [e,T0.tab] at nkH;cases nkH
  have nplT:pl≠T:=fun e=>by rw [e,(s1.trans sk) _ _ T0.tab] at npl;cases npl
  have nplk:pl≠pk:=fun e=>by rw [e,ek0] at npl;cases npl
  have npcT:pc≠T:=fun e=>by rw [e,T0.tab] at npc;cases npc
  have npck:pc≠pk:=ap ec nk;have nrT:r≠T:=fun e=>by rw [e,T0.tab] at er;cases er
  have nrk:r≠pk:=ap er nkH;have lus:=hus.length;have l81:=ke ns.length ns.length;have l81':ns.length * ns.length≤9 * 9:=abN h9 h9;have LT3:LT T H3:=⟨tp0,S3 _ _ T0.tab,T0.tri,fun pos' cv hc=>by obtain ⟨d,e1,e2⟩:=T0.cds pos' cv hc;exact ⟨d,e1,S3 _ _ e2⟩⟩
  refine ⟨pl,rfl,⟨_,SqL.of epl⟩,l5 (xs:=us) (fun i σ H'=>∃ (kvs:List (List Key × V)) (L:Int × Int→List (Int × Int)) (c5 c6 c7 c8:Option V),σ=[some (.ref r),some (.str (aq gs)),some (.ref l),some (.ref pc),some (.ref pk),c5,c6,c7,c8]∧(∀ b o,b≠pk→b≠T→H3 b=some o→H' b=some o)∧LT T H'∧H' pk=some (.dT kvs)∧kvs.map (·.1)=((sfl ns.length ns.length).take i).map ky∧(∀ q,(L q).length≤3∧(q∉(sfl ns.length ns.length).take i→L q=[])∧∀ x∈L q,bdW q x)∧∀ q∈(sfl ns.length ns.length).take i,PkAt H' kvs q (L q)∧kS ns gs lo L q)
    ⟨[],fun _=>[],_,_,_,_,rfl,fun b o _ _ h=>h,LT3,s3 _ _ ek0,by simp,fun q=>⟨by simp,fun _=>rfl,fun x hx=>by simp at hx⟩,fun q hq=>by simp at hq⟩ ?_ ?_ ?_⟩
  · rintro i σ H' _ ⟨_,_,_,_,_,_,rfl,kp,_⟩;exact SqL.of (kp _ _ nplk nplT epl)
  · rintro i x σ H4 hx ⟨kvs,L,c5,c6,c7,c8,rfl,kp,lt,ek,lk,hL,hq⟩;obtain ⟨p,hpi,hpx0⟩:=bX hus hx;have ilt:i < us.length:=(aaj.mp hx).1;have hpm:=eZ ns.length p (aaP hpi);have TT:Tups H3 H4:=fun b xs hb=>kp b _ (fun e=>by rw [e,s3 _ _ ek0] at hb;cases hb) (fun e=>by rw [e,S3 _ _ T0.tab] at hb;cases hb) hb;have hpx:=PairIn.mono TT hpx0;have hpx':=hpx;obtain ⟨bp,rfl,ebp⟩:=hpx;have er4:=kp _ _ nrk nrT (S3 _ _ er);have ec4:=kp _ _ npck npcT ((sk.trans s3) _ _ ec);have pnew:p∉(sfl ns.length ns.length).take i:=fun z=>by
      obtain ⟨k,hk⟩:=acm.mp z;have hk1:k < i:=by
        have:=(aaj.mp hk).1;rw [aaE] at this;lia
      rw [abG hk1] at hk;obtain ⟨h1',e1'⟩:=aaj.mp hk;obtain ⟨h2',e2'⟩:=aaj.mp hpi;exact abD.mp (gr ns.length h9) k i h1' h2' hk1 (by rw [e1',e2'])
    have etake:(sfl ns.length ns.length).take (i+1)=(sfl ns.length ns.length).take i++[p]:=by rw [aa8,hpi];rfl
    have part:∀ q,q.1≤q.2→q∈(sfl ns.length ns.length).take (i+1)→∀ z:Int × Int,z.2 - z.1 < q.2 - q.1→z≠p:=fun q _ hqm z hz e=>by
      subst e;rw [etake] at hqm;rcases aau.mp hqm with hm|hm
      · obtain ⟨k,hk⟩:=acm.mp hm;have hk1:k < i:=by
          have:=(aaj.mp hk).1;rw [aaE] at this;lia
        rw [abG hk1] at hk;obtain ⟨h1',e1'⟩:=aaj.mp hk;obtain ⟨h2',e2'⟩:=aaj.mp hpi;have:=abD.mp (lh ns.length h9) k i h1' h2' hk1;rw [e1',e2'] at this;lia
      · rw [aar.mp hm] at hz;lia
    have lk':kvs.length≤i:=by have:=congrArg List.length lk;rw [aak,aak,aaE] at this;lia
    have fin:∀ (ls:List (Int × Int)) (t:Addr) (xs:List V) (H5:Hp) (d6 d7 d8:Option V),(∀ b o,b≠pk→b≠T→H4 b=some o→H5 b=some o)→LT T H5→H5 pk=some (.dT kvs)→H5 t=some (.tup xs)→PairsIn H5 ls xs→ls.length≤3→(∀ x∈ls,bdW p x)→(ls=if fnd ns gs L p≠[]∧p∉lo then ge (fnd ns gs L p) else []) →
        ∃ H6,DPut H5 pk (.ref bp) (.ref t) H6∧∃ (kvs:List (List Key × V)) (L:Int × Int→List (Int × Int)) (c5 c6 c7 c8:Option V),[some (V.ref r),some (.str (aq gs)),some (.ref l),some (.ref pc),some (.ref pk),some (.ref bp),d6,d7,d8]=[some (.ref r),some (.str (aq gs)),some (.ref l),some (.ref pc),some (.ref pk),c5,c6,c7,c8]∧(∀ b o,b≠pk→b≠T→H3 b=some o→H6 b=some o)∧LT T H6∧H6 pk=some (.dT kvs)∧kvs.map (·.1)=((sfl ns.length ns.length).take (i+1)).map ky∧(∀ q,(L q).length≤3∧(q∉(sfl ns.length ns.length).take (i+1)→L q=[])∧∀ x∈L q,bdW q x)∧∀ q∈(sfl ns.length ns.length).take (i+1),PkAt H6 kvs q (L q)∧kS ns gs lo L q:=fun ls t xs H5 d6 d7 d8 k5 lt5 ek5 et5 hp5 l3 hb he=>by
      have ntk:t≠pk:=fun e=>by rw [e,ek5] at et5;cases et5
      have T45:Tups H4 H5:=fun b ys hb=>k5 b _ (fun e=>by rw [e,ek] at hb;cases hb) (fun e=>by obtain ⟨tp,lt⟩:=lt;rw [e,lt.tab] at hb;cases hb) hb;have T56:Tups H5 (upd H5 pk (.dT (db kvs (ky p) (.ref t)))):=fun b ys hb=>by rw [aj (fun e=>by rw [e,ek5] at hb;cases hb)];exact hb
      have fe:∀ q∈(sfl ns.length ns.length).take (i+1),fnd ns gs (fun q'=>if q'=p then ls else L q') q=fnd ns gs L q:=fun q hqm=>by
        have hg:=eZ ns.length q (List.mem_of_mem_take hqm);refine uM g3 hg.1 (by lia) fun c h1 h2=>⟨?_,?_⟩
        · rw [if_neg (part q hg.2.1 hqm _ (by simp only;lia))]
        · rw [if_neg (part q hg.2.1 hqm _ (by simp only;lia))]
      refine ⟨_,DPut.t (k:=ky p) ek5 (T45 _ _ ebp) (aJ (by lia)),db kvs (ky p) (.ref t),fun q'=>if q'=p then ls else L q',_,_,_,_,rfl,fun b o h1 h2 h3=>?_,?_,ac,?_,fun q=>?_,fun q hqm=>?_⟩
      · rw [aj h1];exact k5 _ _ h1 h2 (kp _ _ h1 h2 h3)
      · obtain ⟨tp,h⟩:=lt5;refine ⟨tp,by rw [aj npkT.symm];exact h.tab,h.tri,fun pos' cv hc=>?_⟩;obtain ⟨d,e1,e2⟩:=h.cds pos' cv hc;exact ⟨d,e1,by rw [aj (fun e=>by rw [e,ek5] at e2;cases e2)];exact e2⟩
      · rw [lA (fun z=>by rw [lk] at z;obtain ⟨q',hq',e⟩:=aaT.mp z;exact pnew (kJ e ▸ hq')),aaL,lk,etake,aaL];rfl
      · by_cases e:q=p
        · subst e;simp only [if_true];refine ⟨l3,fun z=>absurd (by rw [etake];simp) z,hb⟩
        · simp only [if_neg e];refine ⟨(hL q).1,fun z=>(hL q).2.1 fun y=>z (by rw [etake];exact aaz _ y),(hL q).2.2⟩
      · have fq:=fe q hqm;rw [etake] at hqm;rcases aau.mp hqm with hm|hm
        · have ne:q≠p:=fun e=>pnew (e ▸ hm);obtain ⟨⟨t0,xs0,v0,e0,p0⟩,pe⟩:=hq q hm;refine ⟨⟨t0,xs0,?_,T56 _ _ (T45 _ _ e0),?_⟩,?_⟩
          · rw [kX,if_neg (fun e=>ne (kJ e))];exact v0
          · simp only [if_neg ne];exact PairsIn.mono (T45.trans T56) p0
          · unfold kS;rw [fq];simp only [if_neg ne];exact pe
        · have e:=aar.mp hm;subst e;refine ⟨⟨t,xs,?_,T56 _ _ et5,?_⟩,?_⟩
          · rw [kX,if_pos rfl]
          · simp only [if_true];exact PairsIn.mono T56 hp5
          · unfold kS;rw [fq];simp only [if_true];exact he
    refine ⟨_,rfl,bp,_,rfl,SqT.of ebp,rfl,_,_,rfl,_,_,rfl,rfl,?_⟩;have fbd:∀ x∈fnd ns gs L p,bdW p x:=fun x hx=>by
      unfold fnd at hx;split at hx
      · rename_i e;rw [aar.mp hx];have e1:(p.2 - p.1+1).toNat=1:=by lia
        have hi:p.1.toNat < ns.length:=by lia
        have hm:=sm _ (abp hi);unfold bdW;rw [e1,aay,aad hi];have e10:(10:Nat) ^ (30 * 1)=1000000000000000000000000000000:=by decide
        rw [e10];refine ⟨?_,by show (0:Int).natAbs≤_;decide⟩;show (ns[p.1.toNat]).natAbs≤_;lia
      · unfold fu at hx;obtain ⟨j,hj,hx⟩:=acp.mp hx;unfold jp2 jp1 at hx;obtain ⟨a,ha,hx⟩:=acp.mp hx;obtain ⟨b,hb,rfl⟩:=aaT.mp hx;obtain ⟨j1,j2,j3,j4⟩:=gj g3 hpm.1 (by lia) (fun c hc=>iO hc) (acf 0) hj;have lc:((a8 p).length:Int)≤8:=by
          have : (a8 p).length=(p.2 - p.1).toNat:=by simp [a8]
          lia
        have e25:(10:Int) ^ 25=10000000000000000000000000:=by decide
        exact vw j1 j2 ⟨j3,by rw [e25];lia⟩ ((hL _).2.2 a ha) ((hL _).2.2 b hb)
    refine ⟨fun σ H5=>∃ pf uf,σ=[some (.ref r),some (.str (aq gs)),some (.ref l),some (.ref pc),some (.ref pk),some (.ref bp),some (.int p.1),some (.int p.2),some (.ref pf)]∧Same H4 H5∧H5 pf=some (.lst uf)∧PairsIn H5 (fnd ns gs L p) uf,?_,?_⟩
    · refine ⟨_,rfl,_,rfl,rfl,_,rfl,iJ (fun ce=>?_) (fun ce=>?_)⟩
      · have ce:V.int p.1=V.int p.2:=of_decide_eq_true ce;injection ce with ce
        have hi:p.1.toNat < ns.length:=by lia
        have ea:atI (ns.map V.int) p.1=some (.int (ns.getD p.1.toNat 0)):=by
          have h:atI (ns.map V.int) ((p.1.toNat:Nat):Int)=some (.int (ns.getD p.1.toNat 0)):=dn (by rw [aaU,aad hi,aay,aad hi];rfl)
          rwa [show ((p.1.toNat:Nat):Int)=p.1 by lia] at h
        refine ⟨_,rfl,_,rfl,r,_,_,_,rfl,rfl,SqL.of er4,ea,t2,fun t ht=>⟨(by show 1≤sizeLine;decide),fun u hu=>?_⟩⟩;have st:=Same.new ht (.tup [.int (ns.getD p.1.toNat 0),.int 0]);have su:=Same.new hu (.lst [.ref t]);refine ⟨u,_,rfl,st.trans su,ac,?_⟩;unfold fnd;rw [if_pos ce];exact .cons ⟨t,rfl,su _ _ ac⟩ .nil
      · have ce:p.1≠p.2:=fun z=>ce (by rw [z];exact decide_eq_true rfl);refine ⟨_,rfl,_,rfl,_,rfl,_,rfl,gs,pc,ns.length - 1,p,_,rfl,g3,ec4,by lia,hpx',hpm.1,hpm.2.1,by lia,fun pj uj H5 s5 npj ej hj=>?_⟩;have lj:(dO gs p (a8 p) 0).length≤24:=by
          rw [iI];have : (a8 p).length=(p.2 - p.1).toNat:=by simp [a8]
          exact aaK (abN (show (a8 p).length≤8 by lia) g3) (by decide)
        refine ⟨pk,pj,kvs,uj,p,dO gs p (a8 p) 0,L,rfl,s5 _ _ ek,ej,hj,lj,fun j hj'=>?_,fun q'=>⟨(hL q').1,fun x hx=>?_⟩,fun a vs H6 s6 na ea hp6=>?_⟩
        · obtain ⟨j1,j2,_,_⟩:=gj g3 hpm.1 (by lia) (fun c hc=>iO hc) (acf 0) hj';have m1:=ic h9 hpi (q:=(p.1,j.1)) ⟨hpm.1,by lia,by simp only;lia⟩ (by simp only;lia);have m2:=ic h9 hpi (q:=(j.1+1,p.2)) ⟨by simp only;lia,by simp only;lia,hpm.2.2⟩ (by simp only;lia);refine ⟨PkAt.mono (Tups.of s5) (hq _ m1).1,PkAt.mono (Tups.of s5) (hq _ m2).1,?_⟩;have b9:(1000000000:Nat) < 2 ^ 4000:=by decide +kernel
          exact Nat.lt_trans (by lia) b9
        · by_cases e:q'∈(sfl ns.length ns.length).take i
          · have hg:=eZ ns.length q' (List.mem_of_mem_take e);exact ((hL q').2.2 x hx).bg (by lia)
          · rw [(hL q').2.1 e] at hx;simp at hx
        · refine ⟨a,vs,rfl,s5.trans s6,ea,?_⟩;unfold fnd;rw [if_neg ce];exact hp6
    · rintro σ H5 ⟨pf,uf,rfl,s5,ef,hf⟩;have k5:∀ b o,b≠pk→b≠T→H4 b=some o→H5 b=some o:=fun b o _ _ h=>s5 _ _ h;have lt5:LT T H5:=by
        obtain ⟨tp,h⟩:=lt;exact ⟨tp,s5 _ _ h.tab,h.tri,fun pos' cv hc=>by obtain ⟨d,e1,e2⟩:=h.cds pos' cv hc;exact ⟨d,e1,s5 _ _ e2⟩⟩
      have lo5:PairsIn H5 lo ul:=PairsIn.mono (((Tups.of S3).trans TT).trans (Tups.of s5)) plo;have hlo5:SqL K H5 l ul∨SqT K H5 l ul:=by
        rcases hlo with h|h
        · exact .inl (SqL.of (s5 _ _ (kp _ _ (ap h nkH) (fun e=>by rw [e,T0.tab] at h;cases h) (S3 _ _ h))))
        · exact .inr (h H5)
      have ek5:=s5 _ _ ek;have hfl:=hf.length;refine ⟨_,rfl,!uf.isEmpty,.inl ⟨uf,SqL.of ef,rfl⟩,?_⟩;have empty:(¬ (fnd ns gs L p≠[]∧p∉lo))→∀ t,H5 t=none→∃ H6,DPut (upd H5 t (.tup [])) pk (.ref bp) (.ref t) H6∧_:=fun hn t ht=>fin [] t [] (upd H5 t (.tup [])) (some (.int p.1)) (some (.int p.2)) (some (.ref pf)) (fun b o _ _ h=>Same.new ht _ _ _ (s5 _ _ h)) (by
          obtain ⟨tp,h⟩:=lt5;exact ⟨tp,Same.new ht _ _ _ h.tab,h.tri,fun pos' cv hc=>by obtain ⟨d,e1,e2⟩:=h.cds pos' cv hc;exact ⟨d,e1,Same.new ht _ _ _ e2⟩⟩) (Same.new ht _ _ _ ek5) ac .nil (by decide) (fun x hx=>by simp at hx) (by rw [if_neg hn])
      have t0:(0:Nat)≤sizeLine:=by decide
      cases uf with
      | nil =>
        have e0:fnd ns gs L p=[]:=(jx hf).mp rfl;refine aU ⟨t0,fun t ht=>?_⟩;obtain ⟨H6,d6,w6⟩:=empty (fun z=>z.1 e0) t ht;exact ⟨_,rfl,_,rfl,pk,H6,rfl,d6,w6⟩
      | cons u0 ur =>
        have hne:fnd ns gs L p≠[]:=fun z=>by have:=(jx hf).mpr z;cases this
        refine bC ⟨_,rfl,_,rfl,p,l,ul,lo,PairIn.mono (Tups.of s5) hpx',rfl,hlo5,lo5,_,rfl,iJ (fun cn'=>?_) (fun cn'=>?_)⟩
        · have cn':p∉lo:=by simpa using cn'
          refine ⟨_,rfl,pf,u0 :: ur,fnd ns gs L p,rfl,ef,hf,by simp,lt5,fun t x y z H6 b6 nt lt6 et hx hy hz=>?_⟩;have T56:Tups H5 H6:=fun b ys hb=>b6 b _ (fun e=>by obtain ⟨tp,h⟩:=lt5;rw [e,h.tab] at hb;cases hb) hb;have one:∀ {k:Nat} {v:V},(u0 :: ur)[k]?=some v→PairIn H6 ((fnd ns gs L p).getD k (0,0)) v:=fun {k v} h=>by
            obtain ⟨p',e1,h1⟩:=bX hf h;rw [aay,e1];exact PairIn.mono T56 h1
          rw [← hfl] at hx hy hz;have ek6:=b6 _ _ npkT ek5;obtain ⟨H7,d7,w7⟩:=fin (ge (fnd ns gs L p)) t [x,y,z] H6 (some (.int p.1)) (some (.int p.2)) (some (.ref pf)) (fun b o _ h2 h=>b6 _ _ h2 (s5 _ _ h)) lt6 ek6 et (.cons (one hx) (.cons (one hy) (.cons (one hz) .nil))) (aah 3) (fun x hx=>fbd x (fC hne x hx)) (by rw [if_pos ⟨hne,cn'⟩]);exact ⟨_,rfl,_,rfl,pk,H7,rfl,d7,w7⟩
        · have cn':p∈lo:=by simpa using cn'
          refine ⟨t0,fun t ht=>?_⟩;obtain ⟨H6,d6,w6⟩:=empty (fun z=>z.2 cn') t ht;exact ⟨_,rfl,_,rfl,pk,H6,rfl,d6,w6⟩
  · rintro σ H' ⟨kvs,L,_,_,_,_,rfl,kp,lt,ek,lk,hL,hq⟩;rw [← lus,abq] at hq lk;refine ⟨_,rfl,q pk kvs L H' (fun b o hb e=>?_) lt nkH ek lk hq⟩;exact kp _ _ (ap e nkH) hb (S3 _ _ e)
end
open PySem L2
theorem fK {lx ux ly uy x y:Int} (hx:lx≤x∧x≤ux) (hy:ly≤y∧y≤uy):∃ a b,(a=lx∨a=ux)∧(b=ly∨b=uy)∧a * b≤x * y:=by
  have inner:∀ a,∃ b,(b=ly∨b=uy)∧a * b≤a * y:=fun a=>by
    by_cases h:0≤a
    · exact ⟨ly,.inl rfl,Int.mul_le_mul_of_nonneg_left hy.1 h⟩
    · exact ⟨uy,.inr rfl,Int.mul_le_mul_of_nonpos_left (by lia) hy.2⟩
  by_cases h:0≤y
  · obtain ⟨b,hb,e⟩:=inner lx;exact ⟨lx,b,.inl rfl,hb,Int.le_trans e (Int.mul_le_mul_of_nonneg_right hx.1 h)⟩
  · obtain ⟨b,hb,e⟩:=inner ux;exact ⟨ux,b,.inr rfl,hb,Int.le_trans e (Int.mul_le_mul_of_nonpos_right hx.2 (by lia))⟩
theorem jf {lx ux ly uy x y:Int} (hx:lx≤x∧x≤ux) (hy:ly≤y∧y≤uy):∃ a b,(a=lx∨a=ux)∧(b=ly∨b=uy)∧x * y≤a * b:=by
  obtain ⟨a,b,ha,hb,e⟩:=fK (lx:=-ux) (ux:=-lx) (ly:=ly) (uy:=uy) (x:=-x) (y:=y) ⟨by lia,by lia⟩ hy;refine ⟨-a,b,?_,hb,?_⟩
  · rcases ha with ha|ha
    · right;lia
    · left;lia
  · rw [Int.neg_mul] at e;rw [Int.neg_mul];lia
theorem pP (g:Sg) {lx ux ly uy x y:Int} (hx:lx≤x∧x≤ux) (hy:ly≤y∧y≤uy):∃ a b,(a=lx∨a=ux)∧(b=ly∨b=uy)∧g.op a b≤g.op x y:=by
  cases g with
  | plus=>exact ⟨lx,ly,.inl rfl,.inl rfl,by show lx+ly≤x+y;lia⟩
  | minus=>exact ⟨lx,uy,.inl rfl,.inr rfl,by show lx - uy≤x - y;lia⟩
  | times=>exact fK hx hy
theorem pQ (g:Sg) {lx ux ly uy x y:Int} (hx:lx≤x∧x≤ux) (hy:ly≤y∧y≤uy):∃ a b,(a=lx∨a=ux)∧(b=ly∨b=uy)∧g.op x y≤g.op a b:=by
  cases g with
  | plus=>exact ⟨ux,uy,.inr rfl,.inr rfl,by show x+y≤ux+uy;lia⟩
  | minus=>exact ⟨ux,ly,.inr rfl,.inl rfl,by show x - y≤ux - ly;lia⟩
  | times=>exact jf hx hy
theorem wB (a b c d:Int):HT.lexLt [a,b] [c,d]=(decide (a < c) || (decide (a=c) && decide (b < d))):=by
  show (if a=c then HT.lexLt [b] [d] else decide (a < c))=_;by_cases h:a=c
  · subst h;rw [if_pos rfl,vp];simp
  · rw [if_neg h,decide_eq_false h];simp
theorem iT (f:Nat→Int × Int):∀ n k,k≤n→(f (ay (fun i=>[(f i).1,(f i).2]) n)).1≤(f k).1
  | 0,k,h=>by
    obtain rfl:k=0:=by lia
    exact acf _
  | n+1,k,h=>by
    have ih:=iT f n;have e:ay (fun i=>[(f i).1,(f i).2]) (n+1)=if HT.lexLt [(f (n+1)).1,(f (n+1)).2] [(f (ay (fun i=>[(f i).1,(f i).2]) n)).1,(f (ay (fun i=>[(f i).1,(f i).2]) n)).2]=true then n+1 else ay (fun i=>[(f i).1,(f i).2]) n:=rfl
    rw [e,wB];generalize ay (fun i=>[(f i).1,(f i).2]) n=b at ih ⊢;by_cases c:(decide ((f (n+1)).1 < (f b).1) || (decide ((f (n+1)).1=(f b).1) && decide ((f (n+1)).2 < (f b).2)))=true
    · rw [if_pos c];simp only [Bool.or_eq_true,abz,decide_eq_true_eq] at c;by_cases hk:k=n+1
      · rw [hk];exact acf _
      · have:=ih k (by lia);lia
    · rw [if_neg c];simp only [Bool.or_eq_true,abz,decide_eq_true_eq,not_or] at c;by_cases hk:k=n+1
      · rw [hk];lia
      · exact ih k (by lia)
theorem fz {kf kf':Nat→List Int}:∀ n,(∀ i,i≤n→kf i=kf' i)→ay kf n=ay kf' n
  | 0,_=>rfl
  | n+1,h=>by
    have ih:=fz n fun i hi=>h i (by lia);unfold ay;rw [ih,h (n+1) (aah _),h (ay kf' n) (by have:=iS kf' n;lia)]
theorem jA (key:Int × Int→List Int) {ps:List (Int × Int)} {i:Nat} (h:i < ps.length):bT key ps i=key (ps.getD i (0,0)):=by
  unfold bT;rw [aad h,aay,aad h];rfl
theorem mI {ps:List (Int × Int)} (h:ps≠[]):∃ f a b,ge ps=[f,a,b]∧f∈ps∧a∈ps∧b∈ps∧∀ x∈ps,a.1≤x.1∧x.1≤b.1:=by
  have l:0 < ps.length:=ab0.mpr h;refine ⟨_,_,_,rfl,fC h _ (by simp [ge]),fC h _ (by simp [ge]),fC h _ (by simp [ge]),fun x hx=>?_⟩;obtain ⟨k,hk,e⟩:=abI hx;have ek:ps.getD k (0,0)=x:=by rw [aay,aad hk,e];rfl
  constructor
  · have e1:ay (bT gH ps) (ps.length - 1)=ay (fun i=>[(ps.getD i (0,0)).1,(ps.getD i (0,0)).2]) (ps.length - 1):=fz _ fun i hi=>jA gH (by lia);rw [e1,← ek];exact iT (fun i=>ps.getD i (0,0)) (ps.length - 1) k (by lia)
  · have e1:ay (bT qU ps) (ps.length - 1)=ay (fun i=>[(-(ps.getD i (0,0)).1,(ps.getD i (0,0)).2).1,(-(ps.getD i (0,0)).1,(ps.getD i (0,0)).2).2]) (ps.length - 1):=fz _ fun i hi=>jA qU (by lia);have:=iT (fun i=>(-(ps.getD i (0,0)).1,(ps.getD i (0,0)).2)) (ps.length - 1) k (by lia);rw [e1,← ek];have this:-(ps.getD (ay (fun i=>[(-(ps.getD i (0,0)).1,(ps.getD i (0,0)).2).1,(-(ps.getD i (0,0)).1,(ps.getD i (0,0)).2).2]) (ps.length - 1)) (0,0)).1≤-(ps.getD k (0,0)).1:=this;lia
def Ends (L:Int × Int→List (Int × Int)) (q:Int × Int) (lo hi:Int):Prop:=∃ f a b,L q=[f,a,b]∧a.1=lo∧b.1=hi∧lo≤f.1∧f.1≤hi∧lo≤hi
theorem Ends.mem {L:Int × Int→List (Int × Int)} {q:Int × Int} {lo hi:Int} (h:Ends L q lo hi):(∀ x∈L q,lo≤x.1∧x.1≤hi)∧(∃ x∈L q,x.1=lo)∧∃ x∈L q,x.1=hi:=by
  obtain ⟨f,a,b,e,ha,hb,h1,h2,h3⟩:=h;rw [e];refine ⟨fun x hx=>?_,⟨a,by simp,ha⟩,⟨b,by simp,hb⟩⟩;simp only [aai,abb,or_false] at hx;rcases hx with rfl|rfl|rfl
  · exact ⟨h1,h2⟩
  · exact ⟨by lia,by lia⟩
  · exact ⟨by lia,by lia⟩
theorem nW {ns:List Int} {gs:List Sg} {L:Int × Int→List (Int × Int)} {q:Int × Int} (h:kS ns gs [] L q) (hne:fnd ns gs L q≠[]):∃ lo hi,Ends L q lo hi∧(∀ x∈fnd ns gs L q,lo≤x.1∧x.1≤hi)∧(∃ x∈fnd ns gs L q,x.1=lo)∧∃ x∈fnd ns gs L q,x.1=hi:=by
  obtain ⟨f,a,b,e,hf,ha,hb,all⟩:=mI hne;unfold kS at h;rw [if_pos ⟨hne,by simp⟩,e] at h;refine ⟨a.1,b.1,⟨f,a,b,h,rfl,rfl,(all f hf).1,(all f hf).2,(all b hb).1⟩,all,⟨a,ha,rfl⟩,⟨b,hb,rfl⟩⟩
theorem kK {c L R:Int} {j:Jt}:∀ {xs:List Sg} {st:Int},j∈eM c L R xs st→j.1=c∧j.2.1∈xs
  | [],st,h=>by simp [eM] at h
  | g :: r,st,h=>by
    rcases aai.mp h with rfl|h
    · exact ⟨rfl,aav⟩
    · exact ⟨(kK h).1,aal _ (kK h).2⟩
theorem lX {c L R:Int} {g:Sg}:∀ {xs:List Sg} {st:Int},g∈xs→∃ j∈eM c L R xs st,j.1=c∧j.2.1=g
  | [],st,h=>by simp at h
  | x :: r,st,h=>by
    rcases aai.mp h with rfl|h
    · exact ⟨_,aav,rfl,rfl⟩
    · obtain ⟨j,hj,e⟩:=lX (c:=c) (L:=L) (R:=R) (st:=st+L * R) h;exact ⟨j,aal _ hj,e⟩
theorem og {gs:List Sg} {p:Int × Int} {j:Jt}:∀ {cs:List Int} {st:Int},j∈dO gs p cs st→j.1∈cs∧j.2.1∈gs
  | [],st,h=>by simp [dO] at h
  | c :: cs,st,h=>by
    rcases aau.mp h with h|h
    · have:=kK h;exact ⟨by rw [this.1];exact aav,this.2⟩
    · have:=og h;exact ⟨aal _ this.1,this.2⟩
theorem lY {gs:List Sg} {p:Int × Int} {c:Int} {g:Sg} (hg:g∈gs):∀ {cs:List Int} {st:Int},c∈cs→∃ j∈dO gs p cs st,j.1=c∧j.2.1=g
  | [],st,h=>by simp at h
  | x :: cs,st,h=>by
    rcases aai.mp h with rfl|h
    · obtain ⟨j,hj,e⟩:=lX (c:=c) (L:=Lw gs.length p c) (R:=Rw gs.length p c) (st:=st) hg;exact ⟨j,aaz _ hj,e⟩
    · obtain ⟨j,hj,e⟩:=lY hg (cs:=cs) (st:=st+(gs.length:Int) * (Lw gs.length p x * Rw gs.length p x)) h;exact ⟨j,aaa _ hj,e⟩
def two (p:Int × Int):List Int:=[p.1,p.2]
def cj (E:Int × Int→Int × Int) (gs:List Sg) (q:Int × Int):List Int:=(a8 q).flatMap fun c=>(two (E (q.1,c))).flatMap fun a=>(two (E (c+1,q.2))).flatMap fun b=>gs.map fun g=>g.op a b
theorem mem_corn {E:Int × Int→Int × Int} {gs:List Sg} {q:Int × Int} {v:Int}:v∈cj E gs q↔∃ c∈a8 q,∃ g∈gs,∃ a b,(a=(E (q.1,c)).1∨a=(E (q.1,c)).2)∧(b=(E (c+1,q.2)).1∨b=(E (c+1,q.2)).2)∧g.op a b=v:=by
  unfold cj two;simp only [List.mem_flatMap,List.mem_map,aai,abb,or_false];constructor
  · rintro ⟨c,hc,a,ha,b,hb,g,hg,e⟩;exact ⟨c,hc,g,hg,a,b,ha,hb,e⟩
  · rintro ⟨c,hc,g,hg,a,b,ha,hb,e⟩;exact ⟨c,hc,a,ha,b,hb,g,hg,e⟩
def gN (L:Int × Int→List (Int × Int)) (E:Int × Int→Int × Int) (q:Int × Int):Prop:=Ends L q (E q).1 (E q).2
theorem rg {ns:List Int} {gs:List Sg} {L:Int × Int→List (Int × Int)} {E:Int × Int→Int × Int} {q:Int × Int} (hq:q.1≠q.2) (h:∀ c∈a8 q,gN L E (q.1,c)∧gN L E (c+1,q.2)) :
    (∀ x∈fnd ns gs L q,(∃ v∈cj E gs q,v≤x.1)∧∃ v∈cj E gs q,x.1≤v)∧∀ v∈cj E gs q,∃ x∈fnd ns gs L q,x.1=v:=by
  unfold fnd;rw [if_neg hq];constructor
  · intro x hx;unfold fu at hx;obtain ⟨j,hj,hx⟩:=acp.mp hx;unfold jp2 jp1 at hx;obtain ⟨a,ha,hx⟩:=acp.mp hx;obtain ⟨b,hb,rfl⟩:=aaT.mp hx;obtain ⟨jc,jg⟩:=og hj;obtain ⟨h1,h2⟩:=h j.1 jc;have m1:=h1.mem.1 a ha;have m2:=h2.mem.1 b hb;obtain ⟨u,v,hu,hv,e⟩:=pP j.2.1 m1 m2;obtain ⟨u',v',hu',hv',e'⟩:=pQ j.2.1 m1 m2;exact ⟨⟨_,mem_corn.mpr ⟨j.1,jc,j.2.1,jg,u,v,hu,hv,rfl⟩,e⟩,⟨_,mem_corn.mpr ⟨j.1,jc,j.2.1,jg,u',v',hu',hv',rfl⟩,e'⟩⟩
  · intro v hv;obtain ⟨c,hc,g,hg,a,b,ha,hb,rfl⟩:=mem_corn.mp hv;obtain ⟨h1,h2⟩:=h c hc;obtain ⟨j,hj,rfl,rfl⟩:=lY (p:=q) (cs:=a8 q) (st:=0) hg hc;have x1:∃ x∈L (q.1,j.1),x.1=a:=by
      rcases ha with rfl|rfl
      · exact h1.mem.2.1
      · exact h1.mem.2.2
    have x2:∃ x∈L (j.1+1,q.2),x.1=b:=by
      rcases hb with rfl|rfl
      · exact h2.mem.2.1
      · exact h2.mem.2.2
    obtain ⟨x,hx,rfl⟩:=x1;obtain ⟨y,hy,rfl⟩:=x2;refine ⟨(j.2.1.op x.1 y.1,j.2.2.1+x.2 * j.2.2.2+y.2),?_,rfl⟩;unfold fu;refine List.mem_flatMap.mpr ⟨j,hj,?_⟩;unfold jp2 jp1;exact List.mem_flatMap.mpr ⟨x,hx,aaT.mpr ⟨y,hy,rfl⟩⟩
theorem pI {ns:List Int} {gs:List Sg} {L:Int × Int→List (Int × Int)} {E:Int × Int→Int × Int} {q:Int × Int} (hq:q.1 < q.2) (hg:gs≠[]) (pe:kS ns gs [] L q) (h:∀ c∈a8 q,gN L E (q.1,c)∧gN L E (c+1,q.2)) :
    ∃ lo hi,Ends L q lo hi∧lo∈cj E gs q∧hi∈cj E gs q∧∀ v∈cj E gs q,lo≤v∧v≤hi:=by
  obtain ⟨f1,f2⟩:=rg (ns:=ns) (gs:=gs) (Int.ne_of_lt hq) h;have hne:fnd ns gs L q≠[]:=fun z=>by
    obtain ⟨g,hg⟩:∃ g,g∈gs:=List.exists_mem_of_ne_nil _ hg;have hc:q.1∈a8 q:=by
      unfold a8;exact aaT.mpr ⟨0,abe.mpr (by lia),by simp⟩
    obtain ⟨x,hx,_⟩:=f2 _ (mem_corn.mpr ⟨q.1,hc,g,hg,_,_,.inl rfl,.inl rfl,rfl⟩);rw [z] at hx;simp at hx
  obtain ⟨lo,hi,en,all,⟨x,hx,ex⟩,⟨y,hy,ey⟩⟩:=nW pe hne;have bd:∀ v∈cj E gs q,lo≤v∧v≤hi:=fun v hv=>by
    obtain ⟨z,hz,rfl⟩:=f2 v hv;exact all z hz
  refine ⟨lo,hi,en,?_,?_,bd⟩
  · obtain ⟨v,hv,le⟩:=(f1 x hx).1;have : v=lo:=by have:=(bd v hv).1;lia
    rw [← this];exact hv
  · obtain ⟨v,hv,le⟩:=(f1 y hy).2;have : v=hi:=by have:=(bd v hv).2;lia
    rw [← this];exact hv
open PySem L2
def kB:List Int→Int
  | []=>0
  | [x]=>x
  | x :: r=>min x (kB r)
def kH:List Int→Int
  | []=>0
  | [x]=>x
  | x :: r=>max x (kH r)
theorem n0:∀ {l:List Int},l≠[]→kB l∈l∧∀ x∈l,kB l≤x
  | [],h=>absurd rfl h
  | [x],_=>⟨List.mem_singleton.mpr rfl,fun y hy=>by rw [aar.mp hy];exact acf _⟩
  | x :: y :: r,_=>by
    obtain ⟨h1,h2⟩:=n0 (l:=y :: r) (by simp);have e:kB (x :: y :: r)=min x (kB (y :: r)):=rfl;rw [e];refine ⟨?_,fun z hz=>?_⟩
    · by_cases c:x≤kB (y :: r)
      · rw [Int.min_eq_left c];exact aav
      · rw [Int.min_eq_right (by lia)];exact aal _ h1
    · rcases aai.mp hz with rfl|hz
      · exact Int.min_le_left _ _
      · exact Int.le_trans (Int.min_le_right _ _) (h2 z hz)
theorem n8:∀ {l:List Int},l≠[]→kH l∈l∧∀ x∈l,x≤kH l
  | [],h=>absurd rfl h
  | [x],_=>⟨List.mem_singleton.mpr rfl,fun y hy=>by rw [aar.mp hy];exact acf _⟩
  | x :: y :: r,_=>by
    obtain ⟨h1,h2⟩:=n8 (l:=y :: r) (by simp);have e:kH (x :: y :: r)=max x (kH (y :: r)):=rfl;rw [e];refine ⟨?_,fun z hz=>?_⟩
    · by_cases c:x≤kH (y :: r)
      · rw [Int.max_eq_right c];exact aal _ h1
      · rw [Int.max_eq_left (by lia)];exact aav
    · rcases aai.mp hz with rfl|hz
      · exact Int.le_max_left _ _
      · exact Int.le_trans (h2 z hz) (Int.le_max_right _ _)
theorem sA {l:List Int} {m:Int} (hm:m∈l) (h:∀ x∈l,m≤x):kB l=m:=by
  obtain ⟨h1,h2⟩:=n0 (List.ne_nil_of_mem hm);have:=h _ h1;have:=h2 _ hm;lia
theorem sE {l:List Int} {m:Int} (hm:m∈l) (h:∀ x∈l,x≤m):kH l=m:=by
  obtain ⟨h1,h2⟩:=n8 (List.ne_nil_of_mem hm);have:=h _ h1;have:=h2 _ hm;lia
def EnF (ns:List Int) (gs:List Sg):Nat→Int × Int→Int × Int
  | 0,q=>(ns.getD q.1.toNat 0,ns.getD q.1.toNat 0)
  | n+1,q=>if q.1=q.2 then (ns.getD q.1.toNat 0,ns.getD q.1.toNat 0) else (kB (cj (EnF ns gs n) gs q),kH (cj (EnF ns gs n) gs q))
def En (ns:List Int) (gs:List Sg) (q:Int × Int):Int × Int:=EnF ns gs (q.2 - q.1).toNat q
theorem gL {E E':Int × Int→Int × Int} {gs:List Sg} {q:Int × Int} (h:∀ c∈a8 q,E (q.1,c)=E' (q.1,c)∧E (c+1,q.2)=E' (c+1,q.2)):cj E gs q=cj E' gs q:=by
  unfold cj;rw [List.flatMap_def,List.flatMap_def];congr 1;refine List.map_congr_left fun c hc=>?_;rw [(h c hc).1,(h c hc).2]
theorem kM {q:Int × Int} {c:Int} (h:c∈a8 q):q.1≤c∧c < q.2:=by
  unfold a8 at h;obtain ⟨k,hk,rfl⟩:=aaT.mp h;have:=abe.mp hk;lia
theorem ml (ns:List Int) (gs:List Sg):∀ (n:Nat) (q:Int × Int),q.1≤q.2→(q.2 - q.1).toNat≤n→EnF ns gs n q=En ns gs q:=by
  intro n
  induction n using Nat.strongRecOn with
  | _ n ih =>
    intro q h1 h2;by_cases e:q.1=q.2
    · have e0:(q.2 - q.1).toNat=0:=by lia
      unfold En;rw [e0];cases n with
      | zero=>rfl
      | succ n=>unfold EnF;rw [if_pos e]
    · obtain ⟨m,hm⟩:∃ m,(q.2 - q.1).toNat=m+1:=⟨(q.2 - q.1).toNat - 1,by lia⟩
      obtain ⟨k,hk⟩:∃ k,n=k+1:=⟨n - 1,by lia⟩
      unfold En;rw [hm,hk];unfold EnF;rw [if_neg e,if_neg e];have : cj (EnF ns gs k) gs q=cj (EnF ns gs m) gs q:=gL fun c hc=>by
        have:=kM hc;rw [ih k (by lia) (q.1,c) (by simp only;lia) (by simp only;lia),ih k (by lia) (c+1,q.2) (by simp only;lia) (by simp only;lia)];by_cases hmk:m < n
        · rw [ih m hmk (q.1,c) (by simp only;lia) (by simp only;lia),ih m hmk (c+1,q.2) (by simp only;lia) (by simp only;lia)];exact ⟨rfl,rfl⟩
        · lia
      rw [this]
theorem uW (ns:List Int) (gs:List Sg) {q:Int × Int} (h:q.1=q.2):En ns gs q=(ns.getD q.1.toNat 0,ns.getD q.1.toNat 0):=by
  unfold En;have e0:(q.2 - q.1).toNat=0:=by lia
  rw [e0];rfl
theorem uX (ns:List Int) (gs:List Sg) {q:Int × Int} (h:q.1 < q.2):En ns gs q=(kB (cj (En ns gs) gs q),kH (cj (En ns gs) gs q)):=by
  obtain ⟨m,hm⟩:∃ m,(q.2 - q.1).toNat=m+1:=⟨(q.2 - q.1).toNat - 1,by lia⟩
  have : cj (EnF ns gs m) gs q=cj (En ns gs) gs q:=gL fun c hc=>by
    have:=kM hc;exact ⟨ml ns gs m _ (by simp only;lia) (by simp only;lia),ml ns gs m _ (by simp only;lia) (by simp only;lia)⟩
  show EnF ns gs (q.2 - q.1).toNat q=_;rw [hm];unfold EnF;rw [if_neg (Int.ne_of_lt h),this]
theorem sR {ns:List Int} {gs:List Sg} {L:Int × Int→List (Int × Int)} (hg:gs≠[]) {n:Nat} (pe:∀ q∈sfl n n,kS ns gs [] L q):∀ (m:Nat) (q:Int × Int),0≤q.1→q.1≤q.2→q.2 < n→(q.2 - q.1).toNat≤m→gN L (En ns gs) q:=by
  have mem:∀ q:Int × Int,0≤q.1→q.1≤q.2→q.2 < n→q∈sfl n n:=fun q h0 h1 h2=>by
    have:=nO n q.1.toNat q.2.toNat (by lia) (by lia)
    rwa [show ((q.1.toNat:Nat):Int)=q.1 by lia,show ((q.2.toNat:Nat):Int)=q.2 by lia] at this
  intro m
  induction m with
  | zero =>
    intro q h0 h1 h2 hm;have e:q.1=q.2:=by lia
    have hf:fnd ns gs L q=[(ns.getD q.1.toNat 0,0)]:=by unfold fnd;rw [if_pos e]
    obtain ⟨lo,hi,en,all,⟨x,hx,ex⟩,⟨y,hy,ey⟩⟩:=nW (pe q (mem q h0 h1 h2)) (by rw [hf];simp);rw [hf] at hx hy;rw [aar.mp hx] at ex;rw [aar.mp hy] at ey;unfold gN;rw [uW ns gs e];simp only at ex ey ⊢;rw [← ex,← ey] at en;exact en
  | succ m ih =>
    intro q h0 h1 h2 hm;by_cases e:(q.2 - q.1).toNat≤m
    · exact ih q h0 h1 h2 e
    · have hlt:q.1 < q.2:=by lia
      obtain ⟨lo,hi,en,l1,l2,all⟩:=pI hlt hg (pe q (mem q h0 h1 h2)) (E:=En ns gs) fun c hc=>by
        have:=kM hc;exact ⟨ih (q.1,c) h0 (by simp only;lia) (by simp only;lia) (by simp only;lia),ih (c+1,q.2) (by simp only;lia) (by simp only;lia) h2 (by simp only;lia)⟩
      unfold gN;rw [uX ns gs hlt];simp only;rw [sA l1 fun v hv=>(all v hv).1,sE l2 fun v hv=>(all v hv).2];exact en
def Rb (ns:List Int) (gs:List Sg) (H:Hp) (q:Int × Int) (kv:List Key × V):Prop:=kv.1=ky q∧∃ t,kv.2=.ref t∧H t=some (.tup [.int (En ns gs q).1,.int (En ns gs q).2])
def BdIn (ns:List Int) (gs:List Sg) (H:Hp) (qs:List (Int × Int)) (kvs:List (List Key × V)):Prop:=Paired (Rb ns gs H) qs kvs
theorem BdIn.mono {ns:List Int} {gs:List Sg} {H H':Hp} (t:Tups H H') {qs:List (Int × Int)} {kvs:List (List Key × V)} (h:BdIn ns gs H qs kvs):BdIn ns gs H' qs kvs:=by
  unfold BdIn at h ⊢
  induction h with
  | nil=>exact .nil
  | cons r _ ih=>obtain ⟨e,a,e2,e3⟩:=r;exact .cons ⟨e,a,e2,t _ _ e3⟩ ih
theorem BdIn.keys {ns:List Int} {gs:List Sg} {H:Hp} {qs:List (Int × Int)} {kvs:List (List Key × V)} (h:BdIn ns gs H qs kvs):kvs.map (·.1)=qs.map ky:=by
  unfold BdIn at h
  induction h with
  | nil=>rfl
  | cons r _ ih=>rw [aaF,aaF,ih,r.1]
theorem kW:∀ {kvs:List (List Key × V)} {k:List Key} {v:V},(kvs.map (·.1)).Nodup→(k,v)∈kvs→cx kvs k=some v
  | [],_,_,_,h=>nomatch h
  | p :: r,k,v,hn,h=>by
    rw [aaF,List.nodup_cons] at hn;rcases aai.mp h with e|h
    · subst e;unfold cx;rw [abw,decide_eq_true rfl];rfl
    · have ne:p.1≠k:=fun e=>hn.1 (aaT.mpr ⟨(k,v),h,e.symm⟩);have:=kW hn.2 h;unfold cx at this ⊢;rw [abw,decide_eq_false ne];exact this
theorem qM {qs:List (Int × Int)} (h:qs.Nodup):(qs.map ky).Nodup:=by
  induction h with
  | nil=>exact List.nodup_nil
  | @cons q r hq _ ih =>
    rw [aaF,List.nodup_cons];refine ⟨fun z=>?_,ih⟩;obtain ⟨q',hq',e⟩:=aaT.mp z;exact hq q' hq' (kJ e).symm
open PySem L2
mutual
def szD:PyData→Nat
  | .list ds=>szAll ds+1
  | .tuple ds=>szAll ds+1
  | .none=>1
  | .bool _=>1
  | .int _=>1
  | .str _=>1
  | .dict _=>1
def szAll:List PyData→Nat
  | []=>0
  | d :: ds=>szD d+szAll ds
end
mutual
def OkD:PyData→Prop
  | .none=>True
  | .bool _=>True
  | .int i=>i.natAbs < 10 ^ 13
  | .str x=>(reprText x).length≤20
  | .list ds=>OkAll ds
  | .tuple ds=>OkAll ds
  | .dict kvs=>kvs=[]
def OkAll:List PyData→Prop
  | []=>True
  | d :: ds=>OkD d∧OkAll ds
end
mutual
theorem kq : ∀ d:PyData,OkD d→d.showable=true
  | .none,h=>by simp [abg]
  | .bool _,h=>by simp [abg]
  | .int i,h=>by
    simp only [OkD] at h;have z:(10:Nat) ^ 13 < 2 ^ 60:=by decide
    have : i.natAbs.log2 < 60:=by
      by_cases c:i.natAbs=0
      · rw [c];decide
      · exact (Nat.log2_lt c).mpr (by lia)
    simp only [abg];exact decide_eq_true (by lia)
  | .str _,h=>by simp [abg]
  | .list ds,h=>by simp only [OkD] at h;simp only [abg];exact ok_showAll ds h
  | .tuple ds,h=>by simp only [OkD] at h;simp only [abg];exact ok_showAll ds h
  | .dict kvs,h=>by simp only [OkD] at h;subst h;simp [abg,PyData.showableKv]
theorem ok_showAll:∀ ds:List PyData,OkAll ds→ab6 ds=true
  | [],h=>by simp [ab6]
  | d :: ds,h=>by
    simp only [OkAll] at h;simp only [ab6,kq d h.1,ok_showAll ds h.2,Bool.and_self]
end
mutual
theorem mL:∀ d:PyData,OkD d→d.shown.length+5≤40 * szD d
  | .none,h=>by show 4+5≤40 * szD .none;simp [szD]
  | .bool b,h=>by cases b <;> (simp only [szD];decide)
  | .int i,h=>by
    simp only [OkD] at h;have e:=int_text_length_le10 (a:=i) (k:=13) (by decide) h;simp only [szD];show (abu (toString i)).length+5≤40;rw [ofString_length];lia
  | .str x,h=>by
    simp only [OkD] at h;simp only [szD,acn];lia
  | .list ds,h=>by
    simp only [OkD] at h;have a:=ok_lenAll ds h;have b:=listText_len_le (abH ds);have c:=PyData.shownAll_length ds;simp only [szD,acn];lia
  | .tuple ds,h=>by
    simp only [OkD] at h;have a:=ok_lenAll ds h;have b:=tupleText_len_le (abH ds);have c:=PyData.shownAll_length ds;simp only [szD,acn];lia
  | .dict kvs,h=>by
    simp only [OkD] at h;subst h;simp only [szD];show (acn (.dict [])).length+5≤40;decide +kernel
theorem ok_lenAll:∀ ds:List PyData,OkAll ds→((abH ds).map (·.length)).sum+5 * ds.length≤40 * szAll ds
  | [],h=>by simp [abH,szAll]
  | d :: ds,h=>by
    simp only [OkAll] at h;have a:=mL d h.1;have b:=ok_lenAll ds h.2;simp only [abH,szAll,aaF,List.sum_cons,aaD];lia
end
mutual
theorem nI:∀ d:PyData,1≤szD d
  | .none=>by simp [szD]
  | .bool _=>by simp [szD]
  | .int _=>by simp [szD]
  | .str _=>by simp [szD]
  | .list _=>by simp [szD]
  | .tuple _=>by simp [szD]
  | .dict _=>by simp [szD]
end
def wm:PyData→Nat
  | .list ds=>ds.length
  | _=>0
theorem md {H:Hp}:∀ {ds:List PyData} {xs:List V},DatAll H ds xs→ds.all bW=true→∃ ns:List Int,xs=ns.map V.int
  | [],xs,h,_=>by simp only [DatAll] at h;subst h;exact ⟨[],rfl⟩
  | d :: ds,xs,h,a=>by
    simp only [DatAll] at h;obtain ⟨v,r,rfl,h1,h2⟩:=h;simp only [List.all_cons,abz] at a;obtain ⟨ns,rfl⟩:=md h2 a.2;cases d with
    | int i =>
      have e:v=.int i:=by simpa only [Dat] using h1
      subst e;exact ⟨i :: ns,rfl⟩
    | _=>exact absurd a.1 (by simp [bW])
theorem kg {d:PyData} {H:Hp} {v:V} (h:bi d=true) (hd:Dat H d v):∃ (a:Addr) (ns:List Int),v=.ref a∧H a=some (.lst (ns.map V.int))∧1≤ns.length∧ns.length≤9∧ns.length=wm d:=by
  cases d with
  | list ds =>
    have h':(decide (1≤ds.length) && decide (ds.length≤9) && ds.all bW)=true:=h;simp only [abz,decide_eq_true_eq] at h';simp only [Dat] at hd;obtain ⟨a,xs,rfl,ha,hx⟩:=hd;obtain ⟨ns,rfl⟩:=md hx h'.2;have:=hx.len;rw [aak] at this;exact ⟨a,ns,rfl,ha,by lia,by lia,this.symm⟩
  | _=>exact absurd h (by simp [bi])
theorem ka {d:PyData} {H:Hp} {v:V} (h:bV d=true) (hd:Dat H d v):∃ gs:List Sg,v=.str (aq gs)∧cR gs∧1≤gs.length∧gs.length≤3:=by
  cases d with
  | str z =>
    have e:v=.str z:=by simpa only [Dat] using hd
    subst e;have h':inV (.str z) gt=true:=h;have all:∀ y∈gt,∃ gs:List Sg,y=.str (aq gs)∧cR gs∧1≤gs.length∧gs.length≤3:=by
      intro y hy;simp only [gt,aai,abb,or_false] at hy;rcases hy with rfl|rfl|rfl|rfl|rfl|rfl|rfl
      · exact ⟨[.plus],by decide +kernel,by unfold cR;decide +kernel,by decide,by decide⟩
      · exact ⟨[.minus],by decide +kernel,by unfold cR;decide +kernel,by decide,by decide⟩
      · exact ⟨[.times],by decide +kernel,by unfold cR;decide +kernel,by decide,by decide⟩
      · exact ⟨[.plus,.minus],by decide +kernel,by unfold cR;decide +kernel,by decide,by decide⟩
      · exact ⟨[.plus,.times],by decide +kernel,by unfold cR;decide +kernel,by decide,by decide⟩
      · exact ⟨[.minus,.times],by decide +kernel,by unfold cR;decide +kernel,by decide,by decide⟩
      · exact ⟨[.plus,.minus,.times],by decide +kernel,by unfold cR;decide +kernel,by decide,by decide⟩
    unfold inV at h';rw [List.any_eq_true] at h';obtain ⟨y,hy,e⟩:=h';obtain ⟨gs,rfl,g⟩:=all y hy;have e2:decide (aq gs=z)=true:=by simpa [eqV] using e
    rw [← of_decide_eq_true e2];exact ⟨gs,rfl,g⟩
  | _=>exact absurd h (by simp [bV])
structure Xc (K:aab) (mg:Str→Option Value) (aP aR aS:Addr):Prop where
  mPutError:mg "PutError" = some (.ref aP)
  mNoRow:mg "NoRow" = some (.ref aR)
  mNoSigns:mg "NoSigns" = some (.ref aS)
  eNoRow:EC K aR
  eNoSigns:EC K aS
  uNoRow:Und K aR aP
  uNoSigns:Und K aS aP
section
variable {P:Program} {w:World} {K:aab} {mg:Str→Option Value} {base:Heap} {f:Addr} {fd:FuncData}
def dW (aR:Addr):Sp:=fun vs H Q E=>∃ d v,vs=[v]∧Dat H d v∧(bi d=true→∀ H',Same H H'→Q .non H')∧(bi d=false→∀ H',Same H H'→E (.ref aR) none H')
abbrev fP:Stmt:=top 22
theorem lq:FnScope ["thing"] ["thing"] (ag fP):=⟨rfl,rfl,rfl,by decide +kernel,rfl,by decide +kernel,by decide +kernel⟩
theorem ku {aP aR aS:Addr} (F:Fun K "need_row" "need_row" fP f fd) (XC:Xc K mg aP aR aS) (C_is_row:Cal P w K mg base "is_row" 2 ["thing"] j0):FnOk P w K mg base (CX1 P w) 3 f fd ["thing"] (dW aR):=by
  refine Fun.ok1 F lq (fun vs H Q E h=>?_) (fun cdv A outer s H vs Q E hr h=>?_)
  · obtain ⟨d,v,rfl,_⟩:=h;rfl
  obtain ⟨d,v,rfl,hd,q1,q2⟩:=h;refine ⟨_,(@ai _ _ _ (@bH _ _ _ _ _ _ _ _ (@eo _ _ _ _ (@cr _ _ _ (@al _ _ _ _ _ _ _ _ _ _ _ C_is_row hr (by lia) rfl (@aa _ _ _ _ _ (pv 0) ad (by rfl)) (by decide) (by rfl) (by rfl)) (by intro _;rfl))) (@ai _ _ _ (@lC _ _ _ _ _ _ _ _ _ _ rz1 XC.eNoRow rfl rfl XC.mNoRow (by rfl) (by decide))) bn)),?_⟩;refine ⟨_,rfl,d,v,rfl,hd,fun H1 g1=>?_⟩;cases c:bi d with
  | true=>exact ⟨true,rfl,aU (q1 c H1 g1)⟩
  | false=>exact ⟨false,rfl,bC (q2 c H1 g1)⟩
def cT (aS:Addr):Sp:=fun vs H Q E=>∃ d v,vs=[v]∧Dat H d v∧(bV d=true→Q .non H)∧(bV d=false→E (.ref aS) none H)
abbrev dY:Stmt:=top 23
theorem iZ:FnScope ["thing"] ["thing"] (ag dY):=⟨rfl,rfl,rfl,by decide +kernel,rfl,by decide +kernel,by decide +kernel⟩
theorem ip {aP aR aS:Addr} (F:Fun K "need_signs" "need_signs" dY f fd) (XC:Xc K mg aP aR aS) (C_is_signs:Cal P w K mg base "is_signs" 1 ["thing"] gq):FnOk P w K mg base (CX1 P w) 2 f fd ["thing"] (cT aS):=by
  refine Fun.ok1 F iZ (fun vs H Q E h=>?_) (fun cdv A outer s H vs Q E hr h=>?_)
  · obtain ⟨d,v,rfl,_⟩:=h;rfl
  obtain ⟨d,v,rfl,hd,q1,q2⟩:=h;refine ⟨_,(@ai _ _ _ (@bH _ _ _ _ _ _ _ _ (@eo _ _ _ _ (@cr _ _ _ (@al _ _ _ _ _ _ _ _ _ _ _ C_is_signs hr (by lia) rfl (@aa _ _ _ _ _ (pv 0) ad (by rfl)) (by decide) (by rfl) (by rfl)) (by intro _;rfl))) (@ai _ _ _ (@lC _ _ _ _ _ _ _ _ _ _ rz1 XC.eNoSigns rfl rfl XC.mNoSigns (by rfl) (by decide))) bn)),?_⟩;refine ⟨_,rfl,d,v,rfl,hd,?_⟩;cases c:bV d with
  | true=>exact ⟨true,rfl,aU (q1 c)⟩
  | false=>exact ⟨false,rfl,bC (q2 c)⟩
def Rf (aR aS:Addr) (d e:PyData) (H:Hp) (E:XK):Prop:=(bi d=false→∀ H',Same H H'→E (.ref aR) none H')∧(bi d=true→bV e=false→∀ H',Same H H'→E (.ref aS) none H')
def Sm1 (H:Hp) (d:PyData) (v:V):Prop:=bi d=true→∀ (r:Addr) (ns:List Int),v=.ref r→H r=some (.lst (ns.map V.int))→Small ns
def jr (aR aS T:Addr):Sp:=fun vs H Q E=>∃ d v e u,vs=[v,u]∧Dat H d v∧Dat H e u∧Sm1 H d v∧LT T H∧Rf aR aS d e H E∧(bi d=true→bV e=true→∀ y H',But T H H'→LT T H'→Q y H')
abbrev ff:Stmt:=top 39
theorem fZ:FnScope ["row","signs","picks"] ["row","signs"] (ag ff):=⟨rfl,rfl,rfl,by decide +kernel,rfl,by decide +kernel,by decide +kernel⟩
theorem je {T aE aR aS:Addr} (F:Fun K "bounds_of" "bounds_of" ff f fd) (B:Bu K mg) (hE:∀ H,SqT K H aE []) (C_need_row:dS P w K mg base "need_row" 3 ["thing"] (dW aR)) (C_need_signs:dS P w K mg base "need_signs" 2 ["thing"] (cT aS))
    (C_picks_by_stretch:uY P w K mg base "picks_by_stretch" 5 ["row","signs","left_out"] (qk (K:=K) T) [.ref aE]):FnOk P w K mg base (CX1 P w) 6 f fd ["row","signs"] (jr aR aS T):=by
  refine Fun.ok1 F fZ (fun vs H Q E h=>?_) (fun cdv A outer s H vs Q E hr h=>?_)
  · obtain ⟨d,v,e,u,rfl,_⟩:=h;rfl
  obtain ⟨d,v,e,u,rfl,hd,he,hsm,hT,rf,q0⟩:=h;refine ⟨_,(@af _ _ _ _ _ (@br _ _ _ _ (@eF _ _ _ _ _ _ _ _ _ _ _ _ C_need_row im hr (by lia) rfl (@aa _ _ _ _ _ (pv 0) ad (by rfl)) (by decide) (by rfl) (by rfl)) (by rfl)) (@af _ _ _ _ _ (@br _ _ _ _ (@eF _ _ _ _ _ _ _ _ _ _ _ _ C_need_signs im hr (by lia) rfl (@aa _ _ _ _ _ (pv 1) ad (by rfl)) (by decide) (by rfl) (by rfl)) (by rfl)) (PSs.nox (af (aw (i:=2) (fZ).nd rfl (Or.inl rfl) (so C_picks_by_stretch hr (by lia) rfl (aa (pv 0) (aa (pv 1) ad)))) (ai (ar (nY (vk (ob:=.dT []) (Or.inr rfl) (u1 hr.units) (NY:=["stretch","first","least","greatest"]) (cap:=[none,none,none,none]) rfl (qC (pv 2)) rfl trivial trivial (fun _ _ _ _=>⟨(gf (n:=2) rfl rfl (au (ao (i:=0) (hf:=.inr rfl) (show aa2 (["stretch","first","least","greatest"]:List Str) by decide +kernel) rfl (Or.inl rfl)) (au (gf (n:=3) rfl rfl (au (ao (i:=1) (hf:=.inr rfl) (show aa2 (["stretch","first","least","greatest"]:List Str) by decide +kernel) rfl (Or.inl rfl)) (au (ao (i:=2) (hf:=.inr rfl) (show aa2 (["stretch","first","least","greatest"]:List Str) by decide +kernel) rfl (Or.inl rfl)) (au (ao (i:=3) (hf:=.inr rfl) (show aa2 (["stretch","first","least","greatest"]:List Str) by decide +kernel) rfl (Or.inl rfl)) bQ)))) bQ))),bw,(pv 0),(bc (aa (aK (gk rfl) (pv 2) ae (fun _ _=>rfl)) (aa (aK (gk rfl) (pv 3) ae (fun _ _=>rfl)) ad)))⟩))))))))),?_⟩;refine ⟨_,rfl,d,v,rfl,hd,fun c H1 s1=>?_,rf.1⟩;refine ⟨_,rfl,e,u,rfl,Dat.mono s1 e u he,fun c2=>?_,fun c2=>rf.2 c c2 H1 s1⟩;obtain ⟨r,ns,rfl,er,h1,h9,_⟩:=kg c hd;obtain ⟨gs,rfl,hs,g1,g3⟩:=ka c2 he;have sm:=hsm c r ns rfl er;have q:∀ (pb:Addr) (kvs:List (List Key × V)) (H':Hp),But T H H'→LT T H'→H pb=none→H' pb=some (.dT kvs)→BdIn ns gs H' (sfl ns.length ns.length) kvs→Q (.ref pb) H':=fun pb kvs H' b lt _ _ _=>q0 c c2 (.ref pb) H' b lt;have hT1:LT T H1:=by obtain ⟨tp,h⟩:=hT;exact ⟨tp,s1 _ _ h.tab,h.tri,fun pos' cv hc=>by obtain ⟨d,e1,e2⟩:=h.cds pos' cv hc;exact ⟨d,e1,s1 _ _ e2⟩⟩
  refine ⟨_,rfl,_,rfl,r,ns,gs,aE,[],[],rfl,s1 _ _ er,h1,h9,g1,g3,sm,.inr hE,.nil,hT1,fun pk kvs L H2 b2 hT2 nk ek hks hq=>?_⟩;have nd:(kvs.map (·.1)).Nodup:=by rw [hks];exact qM (gr ns.length h9)
  have gne:gs≠[]:=fun z=>by rw [z] at g1;simp at g1
  have ends:∀ q∈sfl ns.length ns.length,gN L (En ns gs) q:=fun q hqm=>by
    have hg:=eZ ns.length q hqm;exact sR gne (fun q hq'=>(hq q hq').2) _ q hg.1 hg.2.1 hg.2.2 (aah _)
  have lk:kvs.length=(sfl ns.length ns.length).length:=by have:=congrArg List.length hks;rwa [aak,aak] at this
  have l81:=ke ns.length ns.length;have l81':ns.length * ns.length≤9 * 9:=abN h9 h9;obtain ⟨tp2,T2⟩:=hT2;have nkT:pk≠T:=fun e=>by rw [e,T2.tab] at ek;cases ek
  refine ⟨_,rfl,pk,rfl,.inl ⟨kvs,ek,fun o=>?_⟩⟩;have S3:∀ b ob,b≠pk→H2 b=some ob→upd H2 pk (.frz o (.dT kvs)) b=some ob:=fun b ob hb e=>by rw [aj hb];exact e
  have e3:upd H2 pk (.frz o (.dT kvs)) pk=some (.frz o (.dT kvs)):=ac;have N3:∀ p,upd H2 pk (.frz o (.dT kvs)) p=none→p≠pk∧H2 p=none:=fun p hp=>by
    have : p≠pk:=fun e=>by rw [e,ac] at hp;cases hp
    rw [aj this] at hp;exact ⟨this,hp⟩
  generalize upd H2 pk (.frz o (.dT kvs))=H3 at S3 e3 N3 ⊢;refine vL Trn.items (fun p i H'=>Same H3 H'∧∃ kv2,H' p=some (.dT kv2)∧BdIn ns gs H' ((sfl ns.length ns.length).take i) kv2) (fun p hp=>⟨Same.new hp _,[],ac,.nil⟩) (fun p i H' hi z=>z.1 _ _ e3) (fun p i x H4 H' hp hi it z Nx nx=>?_) (fun p H4 hp z=>?_)
  · obtain ⟨S4,kv2,e4,hb⟩:=z;obtain ⟨pp,k,y,npp,rfl,rfl,kv,b,hkv,rfl,rfl,ekb⟩:=it;have hi':i < (sfl ns.length ns.length).length:=by lia
    obtain ⟨p1,hp1⟩:∃ p1,(sfl ns.length ns.length)[i]?=some p1:=⟨_,aad hi'⟩
    have ekv:kv.1=ky p1:=by
      have:=congrArg (·[i]?) hks;simp only [aaU,hkv,hp1,ab5] at this;exact aaM this
    have hpm:=aaP hp1;obtain ⟨⟨t,xs,vt,et,hx⟩,_⟩:=hq p1 hpm;have ev:cx kvs kv.1=some kv.2:=kW nd (aaP hkv);rw [ekv,vt] at ev;have ev:V.ref t=kv.2:=aaM ev;obtain ⟨fv,av,bv,eL,ea,eb,_⟩:=ends p1 hpm;rw [eL] at hx;cases hx with
    | cons hf hx =>
    cases hx with
    | cons ha hx =>
    cases hx with
    | cons hb' hx =>
    cases hx;obtain ⟨a1,rfl,ea1⟩:=ha;obtain ⟨b1,rfl,eb1⟩:=hb';obtain ⟨f1,rfl,ef1⟩:=hf;have st:=Same.new npp (.tup [.ref b,kv.2]);have up:∀ c o',c≠pk→H2 c=some o'→upd H4 pp (.tup [.ref b,kv.2]) c=some o':=fun c o' hc e=>st _ _ (S4 _ _ (S3 c o' hc e));have tk:∀ {c:Addr} {xs:List V},H2 c=some (.tup xs)→c≠pk:=fun {c xs} e z=>by rw [z,ek] at e;cases e
    have et':=up _ _ (tk et) et;have ea':=up _ _ (tk ea1) ea1;have eb':=up _ _ (tk eb1) eb1;have npp4:p≠pp:=ap e4 npp;have e4':=st _ _ e4;refine ⟨pp,_,rfl,SqT.of ac,rfl,_,_,rfl,?_⟩;refine ⟨_,_,rfl,t,_,ev.symm,SqT.of et',rfl,_,_,rfl,_,_,rfl,_,_,rfl,rfl,rfl,?_⟩;refine ⟨_,rfl,_,rfl,a1,_,_,_,rfl,rfl,SqT.of ea',rfl,_,rfl,b1,_,_,_,rfl,rfl,SqT.of eb',rfl,(by show 2≤sizeLine;decide),fun u hu=>?_⟩;have su:=Same.new hu (.tup [.int av.1,.int bv.1]);have nup:p≠u:=ap e4' hu;have ekb':=su _ _ (st _ _ ekb);have lk2:=aa9 hb;rw [aaE] at lk2;refine ⟨_,DPut.t (su _ _ e4') ekb' (aJ (by lia)),nx _ ⟨?_,_,ac,?_⟩⟩
    · intro c o' hc;rw [aj (fun e=>by rw [e,hp] at hc;cases hc)];exact su _ _ (st _ _ (S4 _ _ hc))
    · have kk:=hb.keys;have pnew:ky p1∉kv2.map (·.1):=fun z=>by
        rw [kk] at z;obtain ⟨q',hq',e⟩:=aaT.mp z;have e:=kJ e;subst e;obtain ⟨k,hk⟩:=acm.mp hq';have hk1:k < i:=by
          have:=(aaj.mp hk).1;rw [aaE] at this;lia
        rw [abG hk1] at hk;obtain ⟨h1',e1'⟩:=aaj.mp hk;obtain ⟨h2',e2'⟩:=aaj.mp hp1;exact abD.mp (gr ns.length h9) k i h1' h2' hk1 (by rw [e1',e2'])
      rw [ekv,lA pnew,aa8,hp1];have TT:Tups H4 (upd (upd (upd H4 pp (.tup [.ref b,kv.2])) u (.tup [.int av.1,.int bv.1])) p (.dT (kv2++[(ky p1,.ref u)]))):=fun c xs hc=>by
        rw [aj (fun e=>by rw [e,e4] at hc;cases hc)];exact su _ _ (st _ _ hc)
      refine Paired.app (BdIn.mono TT hb) (.cons ⟨rfl,u,rfl,?_⟩ .nil);rw [aj nup.symm,ac,ea,eb]
  · obtain ⟨S4,kv2,e4,hb⟩:=z;obtain ⟨np1,np2⟩:=N3 p hp;have ek4:=S4 _ _ e3;have nf:kT H2 pk:=fun o' v' e=>by rw [ek] at e;cases e
    refine ⟨pk,o,.dT kvs,nf,ek4,?_⟩;have np0:p≠T:=fun e=>by rw [e,T2.tab] at np2;cases np2
    have keep:∀ c o',c≠pk→H2 c=some o'→upd H4 pk (.dT kvs) c=some o':=fun c o' hc e=>by rw [aj hc];exact S4 _ _ (S3 c o' hc e)
    have nkH:H pk=none:=s1.free nk;refine q p kv2 _ (fun c o' hc e=>?_) ⟨tp2,keep _ _ nkT.symm T2.tab,T2.tri,fun pos' cv hc=>?_⟩ ?_ ?_ ?_
    · exact keep _ _ (ap e nkH) (b2 _ _ hc (s1 _ _ e))
    · obtain ⟨d,e1,e2⟩:=T2.cds pos' cv hc;exact ⟨d,e1,keep _ _ (fun e=>by rw [e,ek] at e2;cases e2) e2⟩
    · cases eH:H p with
      | none=>rfl
      | some o'=>rw [b2 _ _ np0 (s1 _ _ eH)] at np2;cases np2
    · rw [aj np1];exact e4
    · have hb:BdIn ns gs H4 (sfl ns.length ns.length) kv2:=by rw [lk,abq] at hb;exact hb
      refine BdIn.mono (fun c xs hc=>?_) hb;rw [aj (fun e=>by rw [e,ek4] at hc;cases hc)];exact hc
abbrev da:Stmt:=top 45
theorem gO:FnScope ["row","signs"] ["row","signs"] (ag da):=⟨rfl,rfl,rfl,by decide +kernel,rfl,by decide +kernel,by decide +kernel⟩
theorem gB {T aR aS:Addr} (F:Fun K "bounds_paper" "bounds_paper" da f fd) (C_bounds_of:dS P w K mg base "bounds_of" 6 ["row","signs"] (jr aR aS T)):FnOk P w K mg base (CX1 P w) 7 f fd ["row","signs"] (jr aR aS T):=by
  refine Fun.ok1 F gO (fun vs H Q E h=>?_) (fun cdv A outer s H vs Q E hr h=>?_)
  · obtain ⟨d,v,e,u,rfl,_⟩:=h;rfl
  obtain ⟨d,v,e,u,rfl,hd,he,hsm,hT,rf,q0⟩:=h;refine ⟨_,(@ai _ _ _ (@ar _ _ _ _ (@eF _ _ _ _ _ _ _ _ _ _ _ _ C_bounds_of im hr (by lia) rfl (@aa _ _ _ _ _ (pv 0) (@aa _ _ _ _ _ (pv 1) ad (by rfl)) (by rfl)) (by decide) (by rfl) (by rfl)))),?_⟩;exact ⟨_,rfl,_,rfl,d,v,e,u,rfl,hd,he,hsm,hT,rf,q0⟩
end
open PySem L2
def sgD:PyData→Bool
  | .str z=>vz z
  | _=>false
mutual
def bh:PyData→Option Nat
  | .int _=>some 1
  | .tuple ds=>cntT ds
  | .none=>none
  | .bool _=>none
  | .str _=>none
  | .list _=>none
  | .dict _=>none
def cntT:List PyData→Option Nat
  | []=>none
  | [_]=>none
  | [_,_]=>none
  | [s,l,r]=>if sgD s then (match bh l,bh r with|some a,some b=>some (a+b)|_,_=>none) else none
  | _ :: _ :: _ :: _ :: _=>none
end
def cO (d:PyData):Bool:=match bh d with
  | some n=>decide (n≤9)
  | none=>false
def tot:List PyData→Option Nat
  | []=>some 0
  | d :: ds=>match bh d,tot ds with|some a,some b=>some (a+b)|_,_=>none
def szL (ds:List PyData):Nat:=(ds.map szD).sum
theorem dH:∀ (ds:List PyData) (d:PyData),tot (ds++[d])=(match tot ds,bh d with|some a,some b=>some (a+b)|_,_=>none)
  | [],d=>by
    show (match bh d,some 0 with|some a,some b=>some (a+b)|_,_=>none)=_;cases bh d <;> simp [tot]
  | e :: ds,d=>by
    show (match bh e,tot (ds++[d]) with|some a,some b=>some (a+b)|_,_=>none)=(match (match bh e,tot ds with|some a,some b=>some (a+b)|_,_=>none),bh d with|some a,some b=>some (a+b)|_,_=>none)
    rw [dH ds d];cases bh e <;> cases tot ds <;> cases bh d <;> simp [Nat.add_assoc]
theorem mf:∀ (d:PyData) (n:Nat),bh d=some n→1≤n
  | .int _,n,h=>by simp only [bh] at h;injection h with h;lia
  | .tuple ds,n,h=>by
    simp only [bh] at h
    match ds,h with
    | [],h=>simp [cntT] at h
    | [_],h=>simp [cntT] at h
    | [_,_],h=>simp [cntT] at h
    | [s,l,r],h =>
      simp only [cntT] at h;split at h
      · cases e1:bh l with
        | none=>rw [e1] at h;cases h
        | some a =>
          cases e2:bh r with
          | none=>rw [e1,e2] at h;cases h
          | some b =>
            rw [e1,e2] at h;have:=mf l a e1;injection h with h;lia
      · cases h
    | _ :: _ :: _ :: _ :: _,h=>simp [cntT] at h
  | .none,n,h=>by simp [bh] at h
  | .bool _,n,h=>by simp [bh] at h
  | .str _,n,h=>by simp [bh] at h
  | .list _,n,h=>by simp [bh] at h
  | .dict _,n,h=>by simp [bh] at h
theorem nG:∀ (ds:List PyData) (t:Nat),tot ds=some t→ds.length≤t
  | [],t,h=>aaR _
  | d :: ds,t,h=>by
    have h':(match bh d,tot ds with|some a,some b=>some (a+b)|_,_=>none)=some t:=h;cases e1:bh d with
    | none=>rw [e1] at h';cases h'
    | some a =>
      cases e2:tot ds with
      | none=>rw [e1,e2] at h';cases h'
      | some b =>
        rw [e1,e2] at h';have:=mf d a e1;have:=nG ds b e2;injection h' with h'
        rw [aaD];lia
theorem g8 (ds:List PyData) (d:PyData):szL (ds++[d])=szL ds+szD d:=by simp [szL]
def Left (n:Nat) (ds:List PyData) (d0:PyData):Prop:=bh d0=(tot ds).map (·+n)
theorem Left.bad {n:Nat} {ds:List PyData} {d d0:PyData} (h:Left n (ds++[d]) d0) (e:bh d=none):cO d0=false:=by
  unfold Left at h;rw [dH,e] at h;have h2:bh d0=none:=by rw [h];cases tot ds <;> rfl
  unfold cO;rw [h2]
theorem Left.num {n:Nat} {ds:List PyData} {i:Int} {d0:PyData} (h:Left n (ds++[.int i]) d0):Left (n+1) ds d0:=by
  unfold Left at h ⊢;rw [h,dH];have e:bh (.int i)=some 1:=by simp only [bh]
  rw [e];cases tot ds with
  | none=>rfl
  | some a=>show some (a+1+n)=some (a+(n+1));congr 1;lia
theorem Left.node {n:Nat} {ds:List PyData} {s l r d0:PyData} (h:Left n (ds++[.tuple [s,l,r]]) d0) (hs:sgD s=true):Left n (ds++[l]++[r]) d0:=by
  unfold Left at h ⊢;have e:bh (.tuple [s,l,r])=(match bh l,bh r with|some a,some b=>some (a+b)|_,_=>none):=by
    simp only [bh,cntT];rw [if_pos hs] <;> (cases bh l <;> cases bh r <;> rfl)
  rw [h,dH,dH,dH,e];cases tot ds <;> cases bh l <;> cases bh r <;> simp [Nat.add_assoc]
theorem Left.full {n:Nat} {ds:List PyData} {d0:PyData} (h:Left n ds d0) (h2:9 < n+ds.length):cO d0=false:=by
  unfold Left at h;unfold cO;rw [h];cases e:tot ds with
  | none=>rfl
  | some t =>
    have:=nG ds t e;show decide (t+n≤9)=false;exact decide_eq_false (by lia)
theorem Left.done {n:Nat} {d0:PyData} (h:Left n [] d0):cO d0=decide (n≤9):=by
  unfold Left at h;unfold cO;rw [h];show decide (0+n≤9)=decide (n≤9);rw [Nat.zero_add]
section
variable {P:Program} {w:World} {K:aab} {mg:Str→Option Value} {base:Heap} {f:Addr} {fd:FuncData}
def jW:Sp:=fun vs H Q _=>∃ d v,vs=[v]∧Dat H d v∧Q (.bl (sgD d)) H
theorem lN {tk:Tok} {aS:Addr} (F:Fun K "is_sign" "is_sign" fB f fd) (B:Bu K mg) (B':Co K mg tk aS):FnOk P w K mg base CX0 1 f fd ["thing"] jW:=by
  refine F.ok ii (fun vs H Q E h=>?_) (fun cdv A outer s H vs Q E hr h=>?_)
  · obtain ⟨d,x,rfl,_⟩:=h;rfl
  obtain ⟨d,v,rfl,hd,q⟩:=h;refine ⟨_,(@ai _ _ _ (@ar _ _ _ _ (@cu _ _ _ _ _ _ _ (@ak _ _ _ _ _ _ _ _ _ (@bq _ ("str")) rfl B.iisinstance aaq (@aa _ _ _ _ _ (pv 0) (@aa _ _ _ _ _ (@cE _ _ (.ty "str") _ _ rfl B.istr aco rfl (by decide) (by decide)) ad (by rfl)) (by rfl)) (by decide) (by decide) (by rfl) (by rfl)) (@eE _ _ _ _ _ (@bS _ _ _ _ _ _ _ _ gz (pv 0) (@bt _ _ (.ref aS) _ _ rfl B'.gSIGNS rfl (by decide)) (by with_unfolding_all rfl)))))),?_⟩;cases d with
  | str z =>
    simp only [Dat] at hd;subst hd;exact ⟨_,rfl,_,_,true,rfl,.str z,rfl,true,rfl,bC ⟨_,rfl,aS,_,rfl,.inr (B'.sSIGNS H),rfl,rfl,q⟩⟩
  | none=>exact ⟨_,rfl,_,_,false,rfl,hd.ty,rfl,false,rfl,aU q⟩
  | bool b=>exact ⟨_,rfl,_,_,false,rfl,hd.ty,rfl,false,rfl,aU q⟩
  | int i=>exact ⟨_,rfl,_,_,false,rfl,hd.ty,rfl,false,rfl,aU q⟩
  | list ds=>exact ⟨_,rfl,_,_,false,rfl,hd.ty,rfl,false,rfl,aU q⟩
  | tuple ds=>exact ⟨_,rfl,_,_,false,rfl,hd.ty,rfl,false,rfl,aU q⟩
  | dict ds=>exact ⟨_,rfl,_,_,false,rfl,hd.ty,rfl,false,rfl,aU q⟩
def hW:Sp:=fun vs H Q _=>∃ d v,vs=[v]∧Dat H d v∧∀ H',Same H H'→Q (.bl (cO d)) H'
theorem wL {H:Hp} {ds:List PyData} {xs:List V} (h:DatAll H ds xs) (h3:xs.length=3):∃ s l r x y z,ds=[s,l,r]∧xs=[x,y,z]∧Dat H s x∧Dat H l y∧Dat H r z:=by
  have hl:=h.len;obtain ⟨x,y,z,rfl⟩:=sG h3;obtain ⟨s,l,r,rfl⟩:=sG (hl.trans h3);simp only [DatAll] at h;obtain ⟨_,_,e1,h1,_,_,e2,h2,_,_,e3,h3,_⟩:=h;injection e1 with e1 t1;subst t1
  injection e2 with e2 t2;subst t2
  injection e3 with e3 t3
  subst e1 e2 e3;exact ⟨s,l,r,x,y,z,rfl,rfl,h1,h2,h3⟩
theorem oA {ds:List PyData} (h:ds.length≠3):bh (.tuple ds)=none:=by
  simp only [bh]
  match ds,h with
  | [],_=>simp [cntT]
  | [_],_=>simp [cntT]
  | [_,_],_=>simp [cntT]
  | [_,_,_],h=>exact absurd rfl h
  | _ :: _ :: _ :: _ :: _,_=>simp [cntT]
theorem uO {s l r:PyData} (h:sgD s=false):bh (.tuple [s,l,r])=none:=by
  simp only [bh,cntT,h];rfl
theorem mM {tk:Tok} {aS:Addr} (F:Fun K "is_way" "is_way" ij f fd) (B:Bu K mg) (B':Co K mg tk aS) (C_is_whole:Cal P w K mg base "is_whole" 1 ["thing"] (dh K)) (C_is_sign:Cal P w K mg base "is_sign" 1 ["thing"] jW) :
    FnOk P w K mg base CX0 2 f fd ["thing"] hW:=by
  refine F.ok dI (fun vs H Q E h=>?_) (fun cdv A outer s H vs Q E hr h=>?_)
  · obtain ⟨x,v,rfl,_⟩:=h;rfl
  obtain ⟨d0,v,rfl,hd0,q⟩:=h;refine ⟨_,(@af _ _ _ _ _ (@aw _ _ (1) _ _ _ _ (dI).nd rfl (Or.inl rfl) (@az _ _ _ _ (@aa _ _ _ _ _ (pv 0) ad (by rfl))) (by rfl) (by first|exact .inl rfl|exact .inr rfl|assumption)) (@af _ _ _ _ _ (@aw _ _ (2) _ _ _ _ (dI).nd rfl (Or.inl rfl) ae (by rfl) (by first|exact .inl rfl|exact .inr rfl|assumption)) (@af _ _ _ _ _ (@qv _ _ _ _ _ _ abn (@PW.pt _ _ _ (@km _ _ _ _ _ _ _ (@lB _ _ _ (pv 1) (fun _=>rfl)) (@ki _ _ _ _ (@bj _ _ _ _ _ _ _ _ lH (@am _ _ _ _ _ _ _ _ bB (pv 2) (@ak _ _ _ _ _ _ _ _ _ aI rfl B.ilen aaY (@aa _ _ _ _ _ (pv 1) ad (by rfl)) (by decide) (by decide) (by rfl) (by rfl))) (@bt _ _ (.int 9) _ _ rfl B'.gMOST_NUMBERS ⟨_,rfl⟩ (by decide)) (a4 _))))) (@af _ _ _ _ _ (@aw _ _ (3) _ _ _ _ (dI).nd rfl (Or.inl rfl) (@ui _ _ _ _ _ _ _ _ _ aaI PySem.F.slot_list_pop PySem.F.type_list_pop uA (pv 1) (by rfl) (by rfl)) (by rfl) (by first|exact .inl rfl|exact .inr rfl|assumption)) (@ai _ _ _ (@bH _ _ _ _ _ _ _ _ (@cr _ _ _ (@al _ _ _ _ _ _ _ _ _ _ _ C_is_whole hr (by lia) rfl (@aa _ _ _ _ _ (pv 3) ad (by rfl)) (by decide) (by rfl) (by rfl)) (by intro _;rfl)) (@ai _ _ _ (@qx _ _ (2) _ _ _ _ _ _ (dI).nd rfl (Or.inl rfl) ae qW (by first|exact .inl rfl|exact .inr rfl|assumption))) (@ai _ _ _ (@bH _ _ _ _ _ _ _ _ (@PW.pt _ _ _ (@km _ _ _ _ _ _ _ (@cr _ _ _ (@ak _ _ _ _ _ _ _ _ _ (@bq _ ("tuple")) rfl B.iisinstance aaq (@aa _ _ _ _ _ (pv 3) (@aa _ _ _ _ _ (@cE _ _ (.ty "tuple") _ _ rfl B.ituple ab7 rfl (by decide) (by decide)) ad (by rfl)) (by rfl)) (by decide) (by decide) (by rfl) (by rfl)) (by intro _;rfl)) (@km _ _ _ _ _ _ _ (@bj _ _ _ _ _ _ _ _ eW (@ak _ _ _ _ _ _ _ _ _ aI rfl B.ilen aaY (@aa _ _ _ _ _ (pv 3) ad (by rfl)) (by decide) (by decide) (by rfl) (by rfl)) ae (a4 _)) (@ki _ _ _ _ (@cr _ _ _ (@al _ _ _ _ _ _ _ _ _ _ _ C_is_sign hr (by lia) rfl (@aa _ _ _ _ _ (@aK _ _ _ _ _ _ _ cN (pv 3) ae (fun _ _=>rfl)) ad (by rfl)) (by decide) (by rfl) (by rfl)) (by intro _;rfl)))))) (@af _ _ _ _ _ (@br _ _ _ _ (@fJ _ _ _ _ _ _ _ _ _ _ _ _ aaI aaV aaW cg (pv 1) (@aa _ _ _ _ _ (@aK _ _ _ _ _ _ _ cN (pv 3) ae (fun _ _=>rfl)) ad (by rfl)) (by rfl) (by rfl) (by rfl) (by rfl) (by rfl)) (by rfl)) (@ai _ _ _ (@br _ _ _ _ (@fJ _ _ _ _ _ _ _ _ _ _ _ _ aaI aaV aaW cg (pv 1) (@aa _ _ _ _ _ (@aK _ _ _ _ _ _ _ cN (pv 3) ae (fun _ _=>rfl)) ad (by rfl)) (by rfl) (by rfl) (by rfl) (by rfl) (by rfl)) (by rfl)))) (@ai _ _ _ (@ar _ _ _ _ eV)))))))) (@ai _ _ _ (@ar _ _ _ _ (si (pv 1))))))),?_⟩;refine ⟨_,rfl,(by show 1≤sizeLine;decide),fun p hp=>?_⟩;refine ⟨fun m σ H'=>∃ (n:Nat) (ds:List PyData) (vs:List V) (part:Option V),σ=[some v,some (.ref p),some (.int n),part]∧H' p=some (.lst vs)∧DatAll H ds vs∧Same H H'∧n≤9∧vs.length≤100∧Left n ds d0∧m=szL ds,?_,?_⟩
  · refine ⟨_,0,[d0],[v],_,rfl,ac,DatAll.one hd0,Same.new hp _,by lia,by simp,?_,rfl⟩;unfold Left;have e:tot [d0]=(match bh d0,some 0 with|some a,some b=>some (a+b)|_,_=>none):=rfl;rw [e];cases bh d0 <;> simp
  rintro m σ H' ⟨n,ds,vs,part,rfl,hH,hall,hS,hn,hvl,hL,rfl⟩;have hlen:=hall.len;by_cases ne:vs=[]
  · subst ne;have e:ds=[]:=abJ.mp hlen;subst e;refine ⟨_,rfl,false,.inl ⟨[],SqL.of hH,rfl⟩,aU (aU ?_)⟩;have z:=q H' hS;rw [hL.done,decide_eq_true hn] at z;exact ⟨_,rfl,false,.inl ⟨[],SqL.of hH,rfl⟩,z⟩
  refine ⟨_,rfl,true,.inl ⟨_,SqL.of hH,by simpa using ne⟩,bC ⟨_,rfl,_,rfl,p,_,rfl,.inl (SqL.of hH),_,_,rfl,rfl,_,_,rfl,rfl,decide ((n:Int)+(vs.length:Nat)≤9),rfl,?_⟩⟩;by_cases c9:(n:Int)+(vs.length:Nat)≤9
  · refine jG c9 ⟨fun σ' H'=>∃ m',m' < szL ds∧_,fun _ _ h=>h,?_⟩;obtain ⟨ds',d,vs',v',rfl,rfl,hall',hd⟩:=hall.last ne;refine ⟨_,rfl,.inl ⟨rfl,_,SqL.of hH⟩,p,_,v',rfl,rfl,hH,sI _ _,?_⟩;rw [uZ];have hp0:H p=none:=hp;have hS2:Same H (upd H' p (.lst vs')):=hS.upd hp0;rw [g8];have zp:=nI d;have hd2:=Dat.mono hS2 d v' hd;rw [aan,abm] at c9;have bad:bh d=none→Q (.bl false) (upd H' p (.lst vs')):=fun e=>by
      have z:=q _ hS2;rw [hL.bad e] at z;exact z
    cases d with
    | int i =>
      simp only [Dat] at hd2;subst hd2;refine ⟨_,rfl,_,"int",rfl,.int i,true,rfl,bC ⟨_,rfl,_,_,rfl,rfl,?_⟩⟩;exact ⟨szL ds',by simp only [szD];lia,n+1,ds',vs',_,rfl,ac,hall',hS2,by lia,by lia,hL.num,rfl⟩
    | tuple xs =>
      have ty:=hd2.ty (K:=K);simp only [Dat] at hd2 hd;obtain ⟨a,us,rfl,ha,hxs⟩:=hd;have ha2:upd H' p (.lst vs') a=some (.tup us):=hS2 _ _ ha;refine ⟨_,rfl,_,"tuple",rfl,ty,false,rfl,aU ?_⟩;refine ⟨_,rfl,_,_,true,rfl,ty,rfl,true,rfl,bC ⟨_,rfl,a,_,rfl,.inr (SqT.of ha2),rfl,decide (V.int (us.length:Nat)=V.int 3),rfl,?_⟩⟩;have lx:=hxs.len;by_cases c3:us.length=3
      · obtain ⟨s,l,r,x,y,z,rfl,rfl,h1,h2,h3⟩:=wL hxs c3;refine jG rfl ?_;refine ⟨_,rfl,a,_,_,_,rfl,rfl,SqT.of ha2,rfl,s,x,rfl,Dat.mono hS2 s x h1,sgD s,rfl,?_⟩;cases hs:sgD s with
        | true =>
          refine bC ?_;refine ⟨_,rfl,.inl ⟨rfl,_,SqL.of ac⟩,_,rfl,a,_,_,_,rfl,rfl,SqT.of ha2,rfl,p,_,_,rfl,rfl,ac,aJ (by lia),?_⟩;have k1:Same H (upd (upd H' p (.lst vs')) p (.lst (vs'++[y]))):=hS2.upd hp0;refine ⟨_,rfl,.inl ⟨rfl,_,SqL.of ac⟩,_,rfl,a,_,_,_,rfl,rfl,SqT.of (k1 _ _ ha),rfl,p,_,_,rfl,rfl,ac,aJ (by rw [aan,abm];lia),?_⟩;refine ⟨szL (ds'++[l]++[r]),?_,n,ds'++[l]++[r],vs'++[y]++[z],_,rfl,ac,(hall'.app (DatAll.one h2)).app (DatAll.one h3),k1.upd hp0,hn,by rw [aan,aan];simp;lia,hL.node hs,rfl⟩;rw [g8,g8];simp only [szD,szAll];have:=nI s;lia
        | false=>exact aU (bad (uO hs))
      · refine jH (fun e=>c3 (by injection e with e;lia)) (bad (oA (by lia)))
    | none=>exact ⟨_,rfl,_,_,rfl,hd2.ty,false,rfl,aU ⟨_,rfl,_,_,false,rfl,hd2.ty,rfl,false,rfl,aU (bad (by simp only [bh]))⟩⟩
    | bool b=>exact ⟨_,rfl,_,_,rfl,hd2.ty,false,rfl,aU ⟨_,rfl,_,_,false,rfl,hd2.ty,rfl,false,rfl,aU (bad (by simp only [bh]))⟩⟩
    | str b=>exact ⟨_,rfl,_,_,rfl,hd2.ty,false,rfl,aU ⟨_,rfl,_,_,false,rfl,hd2.ty,rfl,false,rfl,aU (bad (by simp only [bh]))⟩⟩
    | list b=>exact ⟨_,rfl,_,_,rfl,hd2.ty,false,rfl,aU ⟨_,rfl,_,_,false,rfl,hd2.ty,rfl,false,rfl,aU (bad (by simp only [bh]))⟩⟩
    | dict b=>exact ⟨_,rfl,_,_,rfl,hd2.ty,false,rfl,aU ⟨_,rfl,_,_,false,rfl,hd2.ty,rfl,false,rfl,aU (bad (by simp only [bh]))⟩⟩
  · refine jH c9 ?_;have z:=q H' hS;rw [hL.full (by lia)] at z;exact ⟨_,rfl,true,.inl ⟨_,SqL.of hH,by simpa using ne⟩,z⟩
def vG (z:Str) (y:Str):Bool:=!(Builtin.Str.occurrences z y 0 z.length 1).isEmpty
def ql:Sp:=fun vs H Q _=>∃ (wy:Wy) (v:V) (z:Str),vs=[v,.str z]∧WyIn H wy v∧wy.size≤20∧∀ H',Same H H'→Q (.bl (wy.sgs.all fun g=>vG z g.str)) H'
abbrev cq:Stmt:=top 31
theorem fM:FnScope ["way","signs"] ["way","signs"] (ag cq):=⟨rfl,rfl,rfl,by decide +kernel,rfl,by decide +kernel,by decide +kernel⟩
theorem kA (F:Fun K "has_signs_among" "has_signs_among" cq f fd) (B:Bu K mg) (C_join_signs:Cal P w K mg base "join_signs" 21 ["way"] (nK 20)):FnOk P w K mg base CX0 22 f fd ["way","signs"] ql:=by
  refine F.ok fM (fun vs H Q E h=>?_) (fun cdv A outer s H vs Q E hr h=>?_)
  · obtain ⟨wy,v,z,rfl,_⟩:=h;rfl
  obtain ⟨wy,v,z,rfl,hw,h20,q⟩:=h;refine ⟨_,(@ai _ _ _ (@ar _ _ _ _ (@ak _ _ _ _ _ _ _ _ _ (@fw _ rfl) rfl B.iall abC (@aa _ _ _ _ _ (@ju _ _ _ _ _ _ _ _ (["sign","signs"]) ([none,some 1]) _ _ _ _ rfl (@qB _ _ _ _ (@al _ _ _ _ _ _ _ _ _ _ _ C_join_signs hr (by lia) rfl (@aa _ _ _ _ _ (pv 0) ad (by rfl)) (by decide) (by rfl) (by rfl))) rfl ⟨rfl,trivial⟩ ⟨⟨rfl,Or.inl rfl,Or.inl rfl⟩,trivial⟩ (fun _ _ _ _=>⟨(@ao _ _ (0) _ (show aa2 (["sign","signs"]:List Str) by decide +kernel) rfl (Or.inl rfl) (.inr rfl)),bw,(@bS _ _ _ _ _ _ _ _ oO (pv 0) (pv 1) (by with_unfolding_all rfl))⟩) (by rfl) (by rfl) (by rfl) (by rfl) (by intro _;rfl)) ad (by rfl)) (by decide) (by decide) (by rfl) (by rfl)))),?_⟩;have dl:=wy.deep_le;have sl:=wy.sgs_len;refine ⟨_,rfl,wy,v,rfl,hw,h20,by lia,fun H1 g1=>⟨_,rfl,ia _,?_⟩⟩;refine uD (fun i ys H'=>H'=H1∧ys=((wy.sgs.take i).map fun g=>vG z g.str).map V.bl) ⟨rfl,rfl⟩ ?_ ?_ ?_
  · rintro i ys H' hi ⟨rfl,rfl⟩;rw [aak,aak,aaE];exact aJ (by lia)
  · rintro i c ys H' hc ⟨rfl,rfl⟩ nx;obtain ⟨g,hg,rfl⟩:=sW hc;refine ⟨_,rfl,_,rfl,_,_,rfl,rfl,nx ⟨rfl,?_⟩⟩;rw [aa8,hg,aaL,aaL,← eY];rfl
  · rintro ys H' ⟨rfl,rfl⟩ p np;rw [kc,abq];refine ⟨p,_,rfl,SqL.of ac,?_⟩;rw [List.all_map];exact q _ (g1.trans (Same.new np _))
end
def Wy.wv:Wy→Int
  | .num i=>i
  | .node g l r=>g.op l.wv r.wv
def Wy.bd:Wy→Prop
  | .num i=>i.natAbs≤10 ^ (30 * 1)
  | .node g l r=>l.bd∧r.bd∧(g.op l.wv r.wv).natAbs≤10 ^ (30 * (l.size+r.size))
theorem Wy.wv_bd:∀ {w:Wy},w.bd→w.wv.natAbs≤10 ^ (30 * w.size)
  | .num _,h=>h
  | .node _ _ _,h=>h.2.2
theorem Wy.wv_lt (w:Wy) (h:w.bd) (hs:w.size≤9):w.wv.natAbs < 2 ^ 4000:=abQ (Wy.wv_bd h) (gx hs)
section
variable {P:Program} {w:World} {K:aab} {mg:Str→Option Value} {base:Heap} {f:Addr} {fd:FuncData}
def hZ (n:Nat):Sp:=fun vs H Q _=>∃ (w:Wy) (v:V),vs=[v]∧WyIn H w v∧w.size≤n∧n≤9∧w.bd∧Q (.int w.wv) H
abbrev d9:Stmt:=top 37
theorem cD:FnScope ["way","sign","left","right"] ["way"] (ag d9):=⟨rfl,rfl,rfl,by decide +kernel,rfl,by decide +kernel,by decide +kernel⟩
theorem jd (F:Fun K "find_worth" "find_worth" d9 f fd) (bF:Binds K fd ["way"] []) (mF:mg "find_worth" = some (.ref f)) (C_is_whole:Cal P w K mg base "is_whole" 1 ["thing"] (dh K)) (C_put_sign:Cal P w K mg base "put_sign" 1 ["left","sign","right"] fA) :
    ∀ n,FnOk P w K mg base CX0 (n+1) f fd ["way"] (hZ n):=by
  intro n
  induction n with
  | zero =>
    refine ⟨fun vs H Q E h=>?_,fun A outer s H args us vs Q E _ _ _ _ h=>?_⟩
    · obtain ⟨x,v,rfl,_⟩:=h;rfl
    · obtain ⟨wy,v,_,_,hd,_⟩:=h;have:=wy.size_pos;lia
  | succ n ih =>
    have C_find_worth:Cal P w K mg base "find_worth" (n+1) ["way"] (hZ n):=⟨f,fd,ih,bF,F.kp,mF⟩
    refine F.ok cD (fun vs H Q E h=>?_) (fun cdv A outer s H vs Q E hr h=>?_)
    · obtain ⟨x,v,rfl,_⟩:=h;rfl
    obtain ⟨wy,v,rfl,hw,hn,h9,hB,q⟩:=h;refine ⟨_,(@af _ _ _ _ _ (@bH _ _ _ _ _ _ _ _ (@cr _ _ _ (@al _ _ _ _ _ _ _ _ _ _ _ C_is_whole hr (by lia) rfl (@aa _ _ _ _ _ (pv 0) ad (by rfl)) (by decide) (by rfl) (by rfl)) (by intro _;rfl)) (@ai _ _ _ (@ar _ _ _ _ (pv 0))) bn) (@af _ _ _ _ _ (@eu _ _ _ _ _ _ (pv 0) (@eD _ _ _ _ _ _ rfl (@au _ _ _ _ _ (@ao _ _ (1) _ (cD).nd rfl (Or.inl rfl) (.inl rfl)) (@au _ _ _ _ _ (@ao _ _ (2) _ (cD).nd rfl (Or.inl rfl) (.inl rfl)) (@au _ _ _ _ _ (@ao _ _ (3) _ (cD).nd rfl (Or.inl rfl) (.inl rfl)) bQ (by rfl)) (by rfl)) (by rfl)) (by rfl) (by rfl)) (by rfl) (by rfl) (by rfl)) (@ai _ _ _ (@ar _ _ _ _ (@al _ _ _ _ _ _ _ _ _ _ _ C_put_sign hr (by lia) rfl (@aa _ _ _ _ _ (@al _ _ _ _ _ _ _ _ _ _ _ C_find_worth hr (by lia) rfl (@aa _ _ _ _ _ (pv 2) ad (by rfl)) (by decide) (by rfl) (by rfl)) (@aa _ _ _ _ _ (pv 1) (@aa _ _ _ _ _ (@al _ _ _ _ _ _ _ _ _ _ _ C_find_worth hr (by lia) rfl (@aa _ _ _ _ _ (pv 3) ad (by rfl)) (by decide) (by rfl) (by rfl)) ad (by rfl)) (by rfl)) (by rfl)) (by decide) (by rfl) (by rfl)))))),?_⟩;cases wy with
    | num i =>
      cases hw;exact ⟨_,rfl,_,"int",rfl,.int i,true,rfl,bC ⟨_,rfl,q⟩⟩
    | node g l r =>
      obtain ⟨a,vl,vr,rfl,ha,hl,hr'⟩:=hw;refine ⟨_,rfl,_,"tuple",rfl,.tup ha,false,rfl,aU ?_⟩;have z:l.size+r.size≤n+1:=hn;have zl:=l.size_pos;have zr:=r.size_pos;refine ⟨_,rfl,a,_,rfl,SqT.of ha,rfl,_,_,rfl,_,_,rfl,_,_,rfl,rfl,?_⟩;refine ⟨_,rfl,l,vl,rfl,hl,by lia,by lia,hB.1,?_⟩;refine ⟨_,rfl,_,rfl,r,vr,rfl,hr',by lia,by lia,hB.2.1,?_⟩;exact ⟨_,g,_,rfl,l.wv_lt hB.1 (by lia),r.wv_lt hB.2.1 (by lia),q⟩
theorem pX {X:Cx}:cz X (.builtin "len") (fun xs H Q=>(∃ a kvs,xs=[V.ref a]∧Rd H a (.dT kvs)∧Q (.int kvs.length) H)∨∃ a kvs,xs=[V.ref a]∧H a=some (.dK kvs)∧Q (.int kvs.length) H) :=
  fun pins s σ H xs us Q I r h=>h.elim (pY pins s σ H xs us Q I r) (pZ pins s σ H xs us Q I r)
def sy:PyData→Bool
  | .dict _=>false
  | _=>true
def Pp (H:Hp) (t:V):Prop:=(∃ d,Dat H d t∧sy d=true)∨(∃ a,t=.ref a∧H a=some (.dK []))∨∃ (a b:Addr) (p:Int × Int),t=.ref a∧H a=some (.dT [(ky (0,0),.ref b)])∧H b=some (.tup [.int p.1,.int p.2])
theorem Pp.mono {H H':Hp} {t:V} (g:Same H H') (h:Pp H t):Pp H' t:=by
  rcases h with ⟨d,a,b⟩|⟨a,e,b⟩|⟨a,b,p,e,e1,e2⟩
  · exact .inl ⟨d,Dat.mono g d t a,b⟩
  · exact .inr (.inl ⟨a,e,g _ _ b⟩)
  · exact .inr (.inr ⟨a,b,p,e,g _ _ e1,g _ _ e2⟩)
theorem qp:∀ n,n≤9→n≠1→(sfl n n).length≠1:=by decide +kernel
theorem rY:∀ n,n≤9→1≤n→(sfl n n).length≠0:=by decide +kernel
def mC:Sp:=fun vs H Q _=>∃ (t:V) (n:Nat),vs=[t,.int n]∧1≤n∧n≤9∧Pp H t∧∀ b H',Same H H'→(b=true→n=1∧∃ (a b:Addr) (p:Int × Int),t=.ref a∧H a=some (.dT [(ky (0,0),.ref b)])∧H b=some (.tup [.int p.1,.int p.2]))→Q (.bl b) H'
abbrev bU:Stmt:=top 25
theorem cF:FnScope ["thing","many","stretches"] ["thing","many"] (ag bU):=⟨rfl,rfl,rfl,by decide +kernel,rfl,by decide +kernel,by decide +kernel⟩
theorem lO (F:Fun K "has_all_stretches" "has_all_stretches" bU f fd) (B:Bu K mg) (C_shorter_first:Cal P w K mg base "shorter_first" 1 ["many"] qi):FnOk P w K mg base CX0 2 f fd ["thing","many"] mC:=by
  refine F.ok cF (fun vs H Q E h=>?_) (fun cdv A outer s H vs Q E hr h=>?_)
  · obtain ⟨t,n,rfl,_⟩:=h;rfl
  obtain ⟨t,n,rfl,h1,h9,pp,q⟩:=h;refine ⟨_,(@af _ _ _ _ _ (@aw _ _ (2) _ _ _ _ (cF).nd rfl (Or.inl rfl) (@al _ _ _ _ _ _ _ _ _ _ _ C_shorter_first hr (by lia) rfl (@aa _ _ _ _ _ (pv 1) ad (by rfl)) (by decide) (by rfl) (by rfl)) (by rfl) (by first|exact .inl rfl|exact .inr rfl|assumption)) (@af _ _ _ _ _ (@bH _ _ _ _ _ _ _ _ (@PW.pt _ _ _ (@nQ _ _ _ _ _ _ _ (@eo _ _ _ _ (@cr _ _ _ (@ak _ _ _ _ _ _ _ _ _ (@bq _ ("dict")) rfl B.iisinstance aaq (@aa _ _ _ _ _ (pv 0) (@aa _ _ _ _ _ (@cE _ _ (.ty "dict") _ _ rfl B.idict PyProof.Rows.boot_dict rfl (by decide) (by decide)) ad (by rfl)) (by rfl)) (by decide) (by decide) (by rfl) (by rfl)) (by intro _;rfl))) (@kh _ _ _ _ (@bj _ _ _ _ _ _ _ _ qH (@ak _ _ _ _ _ _ _ _ _ pX rfl B.ilen aaY (@aa _ _ _ _ _ (pv 0) ad (by rfl)) (by decide) (by decide) (by rfl) (by rfl)) (@ak _ _ _ _ _ _ _ _ _ aI rfl B.ilen aaY (@aa _ _ _ _ _ (pv 2) ad (by rfl)) (by decide) (by decide) (by rfl) (by rfl)) (a4 _))))) (@ai _ _ _ (@ar _ _ _ _ eV)) bn) (@ai _ _ _ (@ar _ _ _ _ (@ak _ _ _ _ _ _ _ _ _ (@fw _ rfl) rfl B.iall abC (@aa _ _ _ _ _ (@ju _ _ _ _ _ _ _ _ (["stretch","thing"]) ([none,some 0]) _ _ _ _ rfl (@eA _ _ _ _ (pv 2)) rfl ⟨rfl,trivial⟩ ⟨⟨rfl,Or.inl rfl,Or.inl rfl⟩,trivial⟩ (fun _ _ _ _=>⟨(@ao _ _ (0) _ (show aa2 (["stretch","thing"]:List Str) by decide +kernel) rfl (Or.inl rfl) (.inr rfl)),bw,(@ug _ _ _ _ _ _ (u1 hr.units) (pv 0) (pv 1) (by with_unfolding_all rfl))⟩) (by rfl) (by rfl) (by rfl) (by rfl) (by intro _;rfl)) ad (by rfl)) (by decide) (by decide) (by rfl) (by rfl)))))),?_⟩;refine ⟨_,rfl,n,rfl,h9,fun p us H1 s1 np ep hp=>?_⟩;have lp:=hp.length;have qF:∀ H',Same H1 H'→Q (.bl false) H':=fun H' s'=>q false H' (s1.trans s') (fun z=>nomatch z);rcases pp.mono s1 with ⟨d,hd,nd⟩|⟨a,rfl,ea⟩|⟨a,b,pq,rfl,ea,eb⟩
  · have hty:=hd.ty (K:=K);cases d with
    | dict _=>cases nd
    | none=>exact ⟨_,rfl,_,_,false,rfl,hty,rfl,false,rfl,bC (qF _ (Same.refl _))⟩
    | bool _=>exact ⟨_,rfl,_,_,false,rfl,hty,rfl,false,rfl,bC (qF _ (Same.refl _))⟩
    | int _=>exact ⟨_,rfl,_,_,false,rfl,hty,rfl,false,rfl,bC (qF _ (Same.refl _))⟩
    | str _=>exact ⟨_,rfl,_,_,false,rfl,hty,rfl,false,rfl,bC (qF _ (Same.refl _))⟩
    | list _=>exact ⟨_,rfl,_,_,false,rfl,hty,rfl,false,rfl,bC (qF _ (Same.refl _))⟩
    | tuple _=>exact ⟨_,rfl,_,_,false,rfl,hty,rfl,false,rfl,bC (qF _ (Same.refl _))⟩
  · refine ⟨_,rfl,_,_,true,rfl,.dK ea,rfl,true,rfl,aU ⟨_,rfl,.inr ⟨a,[],rfl,ea,_,rfl,p,us,rfl,.inl (SqL.of ep),rfl,_,rfl,?_⟩⟩⟩;have ne:=rY n h9 h1;have e0:(!decide (V.int (([]:List (Key × V)).length:Nat)=V.int (us.length:Nat)))=true:=by
      rw [decide_eq_false (fun z=>by injection z with z;simp at z;lia)];rfl
    rw [e0];exact bC (qF _ (Same.refl _))
  · refine ⟨_,rfl,_,_,true,rfl,.dT ea,rfl,true,rfl,aU ⟨_,rfl,.inl ⟨a,_,rfl,.inl ea,_,rfl,p,us,rfl,.inl (SqL.of ep),rfl,_,rfl,?_⟩⟩⟩;by_cases c:n=1
    · subst c;have l1:(sfl 1 1).length=1:=by decide +kernel
      have e0:(!decide (V.int (([(ky (0,0),V.ref b)]:List (List Key × V)).length:Nat)=V.int (us.length:Nat)))=false:=by
        rw [decide_eq_true (by rw [← lp,l1];rfl)];rfl
      rw [e0];refine aU ⟨_,rfl,p,rfl,⟨_,SqL.of ep⟩,?_⟩;refine n_ (Trn.list (xs:=us)) (fun i ys H'=>H'=H1∧∃ bs:List Bool,ys=bs.map V.bl∧bs.length=i) ⟨rfl,[],rfl,rfl⟩ (fun i ys H' hi z=>⟨by rw [z.1];exact SqL.of ep,by obtain ⟨_,bs,rfl,e⟩:=z;rw [aak];exact aJ (by lia)⟩) (fun i x ys H0 H' hi hx z Nx nx=>?_) (fun ys H' z p5 n5=>?_)
      · obtain ⟨rfl,bs,rfl,e⟩:=z;obtain ⟨rfl,hx⟩:=hx;obtain ⟨q1,hq1,hpx⟩:=bX hp hx;obtain ⟨b',rfl,eb'⟩:=PairIn.key hpx;refine ⟨_,rfl,_,rfl,a,_,rfl,DGet.t (k:=ky q1) ea eb',nx _ _ ⟨rfl,bs++[(cx [(ky (0,0),V.ref b)] (ky q1)).isSome],by rw [aaL];rfl,by rw [aan];simp [e]⟩⟩
      · obtain ⟨rfl,bs,rfl,e⟩:=z;have s5:=Same.new n5 (.lst (bs.map V.bl));refine ⟨p5,bs,rfl,SqL.of ac,q _ _ (s1.trans s5) (fun _=>⟨rfl,?_⟩)⟩;rcases pp with ⟨d,hd,nd⟩|⟨a',e',ea'⟩|⟨a',b',p',e',ea',eb'⟩
        · have hd':=Dat.mono s1 d _ hd;cases d with
          | dict _=>cases nd
          | none=>simp only [Dat] at hd;cases hd
          | bool _=>simp only [Dat] at hd;cases hd
          | int _=>simp only [Dat] at hd;cases hd
          | str _=>simp only [Dat] at hd;cases hd
          | list _=>simp only [Dat] at hd';obtain ⟨_,_,e1,e2,_⟩:=hd';cases e1;rw [ea] at e2;cases e2
          | tuple _=>simp only [Dat] at hd';obtain ⟨_,_,e1,e2,_⟩:=hd';cases e1;rw [ea] at e2;cases e2
        · cases e';rw [s1 _ _ ea'] at ea;cases ea
        · exact ⟨a',b',p',e',ea',eb'⟩
    · have ne:=qp n h9 c;have e0:(!decide (V.int (([(ky (0,0),V.ref b)]:List (List Key × V)).length:Nat)=V.int (us.length:Nat)))=true:=by
        rw [decide_eq_false (fun z=>by injection z with z;simp at z;lia)];rfl
      rw [e0];exact bC (qF _ (Same.refl _))
end
open PySem L2
def rX:Sp:=fun _ _ _ _=>False
theorem rm {K:aab} {H:Hp} {a b:Addr} {ns ms:List Int} {Q:VK} (ha:SqL K H a (ns.map V.int)) (hb:SqL K H b (ms.map V.int)) (q:∀ k,Q (.bl k) H):tX K false (.ref a) (.ref b) H Q:=by
  refine ⟨0,a,b,_,_,by decide,rfl,rfl,ha,hb,?_⟩;by_cases c:(ns.map V.int).length=(ms.map V.int).length
  · refine .inr ⟨fun j=>eqV (.int (ns.getD j 0)) (.int (ms.getD j 0)),c,fun j x y hx hy=>?_,q _⟩;rw [aaU] at hx hy;obtain ⟨i,hi,rfl⟩:=aby.mp hx;obtain ⟨i',hi',rfl⟩:=aby.mp hy;have e1:ns.getD j 0=i:=by rw [aay,hi];rfl
    have e2:ms.getD j 0=i':=by rw [aay,hi'];rfl
    show EqR K H 0 (.int i) (.int i') (eqV (.int (ns.getD j 0)) (.int (ms.getD j 0)));rw [e1,e2];exact EqR.flat rfl rfl
  · exact .inl ⟨c,q _⟩
section
variable {P:Program} {w:World} {K:aab} {mg:Str→Option Value} {base:Heap} {f:Addr} {fd:FuncData}
theorem vJ {n:Nat} {ps:List Str}:FnOk P w K mg base CX0 n f fd ps rX:=⟨fun _ _ _ _ h=>h.elim,fun _ _ _ _ _ _ _ _ _ _ _ _ _ h=>h.elim⟩
abbrev gG:Stmt:=top 49
theorem mK (F:Fun K "join_ends" "join_ends" gG f fd):FnOk P w K mg base CX0 2 f fd ["paper","signs","stretch"] rX:=by exact vJ
def jV:Sp:=fun vs H Q _=>∃ (r a b:Addr) (n:Int) (z:Str) (p:Int × Int) (v:V),vs=[.ref r,.str z,.ref a,v]∧H r=some (.lst [.int n])∧PairIn H (0,0) v∧H a=some (.dT [(ky (0,0),.ref b)])∧H b=some (.tup [.int p.1,.int p.2])∧∀ k H',Same H H'→Q (.bl k) H'
abbrev fc:Stmt:=top 48
theorem bP:FnScope ["row","signs","paper","stretch","low","high","first","last","worths"] ["row","signs","paper","stretch"] (ag fc):=⟨rfl,rfl,rfl,by decide +kernel,rfl,by decide +kernel,by decide +kernel⟩
theorem jb (F:Fun K "is_within" "is_within" fc f fd) (B:Bu K mg) (C_join_ends:Cal P w K mg base "join_ends" 2 ["paper","signs","stretch"] rX):FnOk P w K mg base CX0 3 f fd ["row","signs","paper","stretch"] jV:=by
  refine F.ok bP (fun vs H Q E h=>?_) (fun cdv A outer s H vs Q E hr h=>?_)
  · obtain ⟨r,a,b,n,z,p,v,rfl,_⟩:=h;rfl
  obtain ⟨r,a,b,n,z,p,v,rfl,er,hv,ea,eb,q⟩:=h;refine ⟨_,(@af _ _ _ _ _ (@eu _ _ _ _ _ _ (@g4 _ _ _ _ _ _ (u1 hr.units) (pv 2) (pv 3) (fun _ _=>rfl)) (@eD _ _ _ _ _ _ rfl (@au _ _ _ _ _ (@ao _ _ (4) _ (bP).nd rfl (Or.inl rfl) (.inl rfl)) (@au _ _ _ _ _ (@ao _ _ (5) _ (bP).nd rfl (Or.inl rfl) (.inl rfl)) bQ (by rfl)) (by rfl)) (by rfl) (by rfl)) (by rfl) (by rfl) (by rfl)) (@af _ _ _ _ _ (@eu _ _ _ _ _ _ (pv 3) (@eD _ _ _ _ _ _ rfl (@au _ _ _ _ _ (@ao _ _ (6) _ (bP).nd rfl (Or.inl rfl) (.inl rfl)) (@au _ _ _ _ _ (@ao _ _ (7) _ (bP).nd rfl (Or.inl rfl) (.inl rfl)) bQ (by rfl)) (by rfl)) (by rfl) (by rfl)) (by rfl) (by rfl) (by rfl)) (@gY _ _ _ _ _ (@aw _ _ (8) _ _ _ _ (bP).nd rfl (Or.inl rfl) (@il _ _ _ _ _ _ _ _ (@bj _ _ _ _ _ _ _ _ eW (pv 6) (pv 7) (a4 _)) (@az _ _ _ _ (@aa _ _ _ _ _ (@aK _ _ _ _ _ _ _ aQ (pv 0) (pv 6) (fun _ _=>rfl)) ad (by rfl))) (@al _ _ _ _ _ _ _ _ _ _ _ C_join_ends hr (by lia) rfl (@aa _ _ _ _ _ (pv 2) (@aa _ _ _ _ _ (pv 1) (@aa _ _ _ _ _ (pv 3) ad (by rfl)) (by rfl)) (by rfl)) (by decide) (by rfl) (by rfl))) (by rfl) (by first|exact .inl rfl|exact .inr rfl|assumption)) (@ai _ _ _ (@ar _ _ _ _ (@cu _ _ _ _ _ _ _ (@bS _ _ _ _ _ _ _ _ lH (pv 4) (@ak _ _ _ _ _ _ _ _ _ (@pV _ rfl) rfl B.imin abU (@aa _ _ _ _ _ (pv 8) ad (by rfl)) (by decide) (by decide) (by rfl) (by rfl)) (a4 _)) (@eE _ _ _ _ _ (@bS _ _ _ _ _ _ _ _ lH (@ak _ _ _ _ _ _ _ _ _ (@pW _ rfl) rfl B.imax PyProof.Rows.boot_max (@aa _ _ _ _ _ (pv 8) ad (by rfl)) (by decide) (by decide) (by rfl) (by rfl)) (pv 5) (a4 _))))))))),?_⟩;obtain ⟨k,rfl,ek⟩:=PairIn.key hv;have ek2:H k=some (.tup [.int 0,.int 0]):=ek;refine ⟨_,rfl,_,rfl,a,.ref b,rfl,DGet.t (k:=ky (0,0)) ea ek,b,_,rfl,SqT.of eb,rfl,_,_,rfl,_,_,rfl,rfl,?_⟩;refine ⟨_,rfl,k,_,rfl,SqT.of ek2,rfl,_,_,rfl,_,_,rfl,rfl,?_⟩;refine ⟨fun σ H'=>∃ p0,σ=[some (.ref r),some (.str z),some (.ref a),some (.ref k),some (.int p.1),some (.int p.2),some (.int 0),some (.int 0),some (.ref p0)]∧Same H H'∧H' p0=some (.lst ([n].map V.int)),?_,?_⟩
  · refine ⟨_,rfl,_,rfl,rfl,_,rfl,jG rfl ⟨_,rfl,_,rfl,r,_,_,_,rfl,rfl,SqL.of er,dn (j:=0) rfl,(by show 1≤sizeLine;decide),fun p0 np=>⟨p0,rfl,Same.new np _,ac⟩⟩⟩
  · rintro σ H' ⟨p0,rfl,S,ep⟩;refine ⟨_,rfl,_,rfl,p0,[n],rfl,SqL.of ep,by simp,fun m hm hmin=>⟨_,_,rfl,rfl,_,rfl,?_⟩⟩;refine iJ (fun _=>?_) (fun _=>q _ _ S);exact ⟨_,rfl,p0,[n],rfl,SqL.of ep,by simp,fun M hM hmax=>⟨_,rfl,_,_,rfl,rfl,q _ _ S⟩⟩
def Sd (H:Hp) (y:V):Prop:=y=.non∨∃ (b:Addr) (p:Int × Int),y=.ref b∧H b=some (.tup [.int p.1,.int p.2])
def g_ (aR aS:Addr):Sp:=fun vs H Q E=>∃ d v e u t,vs=[v,u,t]∧Dat H d v∧Dat H e u∧Pp H t∧Rf aR aS d e H E∧(bi d=true→bV e=true→∀ y H',Same H H'→Sd H' y→Q y H')
abbrev d_:Stmt:=top 44
theorem i6:FnScope ["row","signs","thing"] ["row","signs","thing"] (ag d_):=⟨rfl,rfl,rfl,by decide +kernel,rfl,by decide +kernel,by decide +kernel⟩
theorem ir {aR aS:Addr} (F:Fun K "bounds_say" "bounds_say" d_ f fd) (B:Bu K mg) (C_need_row:dS P w K mg base "need_row" 3 ["thing"] (dW aR)) (C_need_signs:dS P w K mg base "need_signs" 2 ["thing"] (cT aS)) (C_has_all_stretches:Cal P w K mg base "has_all_stretches" 2 ["thing","many"] mC)
    (C_is_pair:Cal P w K mg base "is_pair" 2 ["thing"] hX) (C_is_within:Cal P w K mg base "is_within" 3 ["row","signs","paper","stretch"] jV) (C_shorter_first:Cal P w K mg base "shorter_first" 1 ["many"] qi):FnOk P w K mg base (CX1 P w) 4 f fd ["row","signs","thing"] (g_ aR aS):=by
  refine Fun.ok1 F i6 (fun vs H Q E h=>?_) (fun cdv A outer s H vs Q E hr h=>?_)
  · obtain ⟨d,v,e,u,t,rfl,_⟩:=h;rfl
  obtain ⟨d,v,e,u,t,rfl,hd,he,pp,rf,q0⟩:=h;refine ⟨_,(@af _ _ _ _ _ (@br _ _ _ _ (@eF _ _ _ _ _ _ _ _ _ _ _ _ C_need_row im hr (by lia) rfl (@aa _ _ _ _ _ (pv 0) ad (by rfl)) (by decide) (by rfl) (by rfl)) (by rfl)) (@af _ _ _ _ _ (@br _ _ _ _ (@eF _ _ _ _ _ _ _ _ _ _ _ _ C_need_signs im hr (by lia) rfl (@aa _ _ _ _ _ (pv 1) ad (by rfl)) (by decide) (by rfl) (by rfl)) (by rfl)) (PSs.nox (af (bH (PW.pt (nQ (eo (cr (al C_has_all_stretches hr (by lia) rfl (aa (pv 2) (aa (ak aI rfl B.ilen aaY (aa (pv 0) ad)) ad))))) (kh (eo (cr (ak (fw rfl) rfl B.iall abC (aa (nY (ju (NY:=["ends"]) (cap:=[none]) rfl (sh (pv 2)) rfl trivial trivial (fun _ _ _ _=>⟨(ao (i:=0) (hf:=.inr rfl) (show aa2 (["ends"]:List Str) by decide +kernel) rfl (Or.inl rfl)),bw,(al C_is_pair hr (by lia) rfl (aa (pv 0) ad))⟩))) ad))))))) (ai (ar dc)) bn) (af (bH (eo (cr (ak (fw rfl) rfl B.iall abC (aa (ju (NY:=["stretch","row","signs","thing"]) (cap:=[none,some 0,some 1,some 2]) rfl (eA (al C_shorter_first hr (by lia) rfl (aa (ak aI rfl B.ilen aaY (aa (pv 0) ad)) ad))) rfl ⟨rfl,⟨rfl,⟨rfl,trivial⟩⟩⟩ ⟨⟨rfl,Or.inl rfl,Or.inl rfl⟩,⟨⟨rfl,Or.inl rfl,Or.inl rfl⟩,⟨⟨rfl,Or.inl rfl,Or.inl rfl⟩,trivial⟩⟩⟩ (fun _ _ _ _=>⟨(ao (i:=0) (hf:=.inr rfl) (show aa2 (["stretch","row","signs","thing"]:List Str) by decide +kernel) rfl (Or.inl rfl)),bw,(al C_is_within hr (by lia) rfl (aa (pv 1) (aa (pv 2) (aa (pv 3) (aa (pv 0) ad)))))⟩)) ad)))) (ai (ar dc)) bn) (ai (ar (g4 (u1 hr.units) (pv 2) (bc (aa ae (aa (am fm (ak aI rfl B.ilen aaY (aa (pv 0) ad)) ae) ad))) (fun _ _=>rfl))))))))),?_⟩;refine ⟨_,rfl,d,v,rfl,hd,fun c H1 s1=>?_,rf.1⟩;refine ⟨_,rfl,e,u,rfl,Dat.mono s1 e u he,fun c2=>?_,fun c2=>rf.2 c c2 H1 s1⟩;obtain ⟨r,ns,rfl,er,n1,n9,_⟩:=kg c hd;obtain ⟨gs,rfl,hs,g1,g3⟩:=ka c2 he;have q:=q0 c c2;have hl:(ns.map V.int).length=ns.length:=aak _;refine ⟨_,rfl,_,rfl,r,_,rfl,.inl (SqL.of (s1 _ _ er)),?_⟩;rw [hl];refine ⟨t,ns.length,rfl,n1,n9,pp.mono s1,fun k H2 s2 hk=>⟨k,rfl,?_⟩⟩;have S2:=s1.trans s2;cases k with
  | false=>exact bC (q .non H2 S2 (.inl rfl))
  | true =>
  obtain ⟨ln,a,b,p,rfl,ea,eb⟩:=hk rfl;obtain ⟨n,rfl⟩:=List.length_eq_one_iff.mp ln;have ea2:=s2 _ _ ea;have eb2:=s2 _ _ eb;refine aU ?_;refine ⟨_,rfl,a,rfl,.inl ⟨_,ea2,fun o=>?_⟩⟩;have nab:b≠a:=fun z=>by rw [z,ea2] at eb2;cases eb2
  have S3:∀ c ob,c≠a→H2 c=some ob→upd H2 a (.frz o (.dT [(ky (0,0),.ref b)])) c=some ob:=fun c ob hc e=>by rw [aj hc];exact e
  have e3:upd H2 a (.frz o (.dT [(ky (0,0),.ref b)])) a=some (.frz o (.dT [(ky (0,0),.ref b)])):=ac;generalize upd H2 a (.frz o (.dT [(ky (0,0),.ref b)]))=H3 at S3 e3 ⊢;refine n_ Trn.vals (fun i ys H'=>H'=H3∧ys=(aaw i true).map V.bl) ⟨rfl,rfl⟩ (fun i ys H' hi z=>⟨by rw [z.1];exact e3,by rw [z.2,aak,acl];exact aJ (by have : i≤1:=hi;lia)⟩) (fun i x ys H0 H' hi hx z Nx nx=>?_) (fun ys H' z p5 n5=>?_)
  · obtain ⟨rfl,rfl⟩:=z;obtain ⟨rfl,kv,hkv,rfl⟩:=hx;have i0:i=0:=by have : i < 1:=hi;lia
    subst i0;have ekv:kv=(ky (0,0),V.ref b):=by simpa using hkv.symm
    rw [ekv];have eb3:=S3 b _ nab eb2;refine ⟨_,rfl,p,_,rfl,⟨b,rfl,eb3⟩,nx _ _ ⟨rfl,?_⟩⟩;rfl
  obtain ⟨rfl,rfl⟩:=z;have nf:kT H2 a:=fun o' v' e=>by rw [ea2] at e;cases e
  have s5:=Same.new n5 (.lst ((aaw 1 true).map V.bl));have e5:upd H' p5 (.lst ((aaw 1 true).map V.bl)) p5=_:=ac;have e6:=s5 _ _ e3;have show1:(aaw ([(ky (0,0),V.ref b)]:List (List Key × V)).length true).map V.bl=(aaw 1 true).map V.bl:=rfl;rw [show1];generalize upd H' p5 (.lst ((aaw 1 true).map V.bl))=H5 at s5 e5 e6 ⊢;have npd:p5≠a:=fun e=>by rw [e,e6] at e5;cases e5
  have S6:Same H2 (upd H5 a (.dT [(ky (0,0),.ref b)])):=fun c ob hc=>by
    by_cases h:c=a
    · subst h;rw [ac];rw [ea2] at hc;exact hc
    · rw [aj h];exact s5 _ _ (S3 c ob h hc)
  have e7:upd H5 a (.dT [(ky (0,0),.ref b)]) p5=_:=(aj npd).trans e5;refine ⟨a,o,.dT [(ky (0,0),.ref b)],nf,e6,p5,[true],rfl,SqL.of e7,true,rfl,aU ?_⟩;have SA:=S2.trans S6;have eaA:upd H5 a (.dT [(ky (0,0),.ref b)]) a=some (.dT [(ky (0,0),.ref b)]):=ac;have ebA:=S6 _ _ eb2;generalize upd H5 a (.dT [(ky (0,0),.ref b)])=HA at SA eaA ebA ⊢;have erA:=SA _ _ er;refine ⟨_,rfl,r,_,rfl,.inl (SqL.of erA),?_⟩;refine ⟨1,rfl,by decide,fun pS us HB sB npS epS hpS=>⟨pS,rfl,⟨_,SqL.of epS⟩,?_⟩⟩;have lS:=hpS.length;have l1:(sfl 1 1).length=1:=by decide +kernel
  refine n_ (Trn.list (xs:=us)) (fun i ys H'=>Same HB H'∧∃ bs:List Bool,ys=bs.map V.bl∧bs.length=i) ⟨Same.refl _,[],rfl,rfl⟩ (fun i ys H' hi z=>⟨SqL.of (z.1 _ _ epS),by obtain ⟨_,bs,rfl,e⟩:=z;rw [aak];exact aJ (by lia)⟩) (fun i x ys H0 H' hi hx z Nx nx=>?_) (fun ys H' z p6 n6=>?_)
  · obtain ⟨S,bs,rfl,e⟩:=z;obtain ⟨rfl,hx⟩:=hx;obtain ⟨q1,hq1,hpx⟩:=bX (PairsIn.mono (Tups.of S) hpS) hx;have e01:q1=(0,0):=by
      have hm:=eZ 1 q1 (aaP hq1);obtain ⟨x1,x2⟩:=q1;simp only at hm;have : x1=0:=by lia
      have : x2=0:=by lia
      subst_vars;rfl
    subst e01;refine ⟨_,rfl,_,rfl,_,rfl,_,rfl,r,a,b,n,aq gs,p,x,rfl,S _ _ (sB _ _ erA),hpx,S _ _ (sB _ _ eaA),S _ _ (sB _ _ ebA),fun k H2 s2=>nx _ _ ⟨S.trans s2,bs++[k],by rw [aaL];rfl,by rw [aan];simp [e]⟩⟩
  obtain ⟨S,bs,rfl,e⟩:=z;have s6:=Same.new n6 (.lst (bs.map V.bl));refine ⟨p6,bs,rfl,SqL.of ac,?_⟩;have SZ:=(SA.trans sB).trans (S.trans s6);have eaZ:=s6 _ _ (S _ _ (sB _ _ eaA));have ebZ:=s6 _ _ (S _ _ (sB _ _ ebA));have erZ:=SZ _ _ er;generalize upd H' p6 (.lst (bs.map V.bl))=HZ at SZ eaZ ebZ erZ ⊢;refine ⟨_,rfl,?_⟩;refine iJ (fun _=>q .non HZ SZ (.inl rfl)) (fun _=>?_);refine ⟨_,rfl,_,rfl,r,_,rfl,.inl (SqL.of erZ),_,_,rfl,rfl,(by show 2≤sizeLine;decide),fun kk nk=>?_⟩;have sk:=Same.new nk (.tup [.int 0,.int 0]);refine ⟨a,.ref b,rfl,DGet.t (k:=ky (0,0)) (sk _ _ eaZ) ac,?_⟩;exact q (.ref b) _ (SZ.trans sk) (.inr ⟨b,p,rfl,sk _ _ ebZ⟩)
def Wq (H:Hp) (x:V):Prop:=∃ d,Dat H d x∧(cO d=true→∃ w:Wy,WyIn H w x∧w.size≤9∧w.bd)
theorem Wq.mono {H H':Hp} {x:V} (g:Same H H') (h:Wq H x):Wq H' x:=by
  obtain ⟨d,a,b⟩:=h;exact ⟨d,Dat.mono g d x a,fun z=>by obtain ⟨w,c,e⟩:=b z;exact ⟨w,c.mono (Tups.of g),e⟩⟩
def nN:Sp:=fun vs H Q _=>∃ (r:Addr) (ns:List Int) (z:Str) (x:V),vs=[.ref r,.str z,x]∧H r=some (.lst (ns.map V.int))∧Wq H x∧∀ k H',Same H H'→(k=true→∃ w:Wy,WyIn H' w x∧w.size≤9∧w.bd)→Q (.bl k) H'
abbrev dz:Stmt:=top 50
theorem ig:FnScope ["row","signs","thing"] ["row","signs","thing"] (ag dz):=⟨rfl,rfl,rfl,by decide +kernel,rfl,by decide +kernel,by decide +kernel⟩
theorem iq (F:Fun K "is_way_with" "is_way_with" dz f fd) (C_is_way:Cal P w K mg base "is_way" 2 ["thing"] hW) (C_list_numbers:Cal P w K mg base "list_numbers" 21 ["way"] (jX 20)) (C_has_signs_among:Cal P w K mg base "has_signs_among" 22 ["way","signs"] ql):FnOk P w K mg base CX0 23 f fd ["row","signs","thing"] nN:=by
  refine F.ok ig (fun vs H Q E h=>?_) (fun cdv A outer s H vs Q E hr h=>?_)
  · obtain ⟨r,ns,z,x,rfl,_⟩:=h;rfl
  obtain ⟨r,ns,z,x,rfl,er,⟨d,hd,hw⟩,q⟩:=h;refine ⟨_,(@ai _ _ _ (@ar _ _ _ _ (@cu _ _ _ _ _ _ _ (@al _ _ _ _ _ _ _ _ _ _ _ C_is_way hr (by lia) rfl (@aa _ _ _ _ _ (pv 2) ad (by rfl)) (by decide) (by rfl) (by rfl)) (@cu _ _ _ _ _ _ _ (@bS _ _ _ _ _ _ _ _ (@ut _ hr.units) (@al _ _ _ _ _ _ _ _ _ _ _ C_list_numbers hr (by lia) rfl (@aa _ _ _ _ _ (pv 2) ad (by rfl)) (by decide) (by rfl) (by rfl)) (pv 0) (a4 _)) (@eE _ _ _ _ _ (@al _ _ _ _ _ _ _ _ _ _ _ C_has_signs_among hr (by lia) rfl (@aa _ _ _ _ _ (pv 2) (@aa _ _ _ _ _ (pv 1) ad (by rfl)) (by rfl)) (by decide) (by rfl) (by rfl))))))),?_⟩;refine ⟨_,rfl,d,x,rfl,hd,fun H1 s1=>?_⟩;cases c:cO d with
  | false=>exact ⟨false,rfl,aU (q false H1 s1 (fun z=>nomatch z))⟩
  | true =>
  obtain ⟨w0,hx,sz,bd⟩:=hw c;refine ⟨true,rfl,bC ?_⟩;have dl:=w0.deep_le;refine ⟨_,rfl,w0,x,rfl,hx.mono (Tups.of s1),by lia,by lia,fun p2 H2 s2 np2 ep2=>?_⟩;have S2:=s1.trans s2;refine ⟨_,rfl,rm (SqL.of ep2) (SqL.of (S2 _ _ er)) (fun k=>⟨k,rfl,iJ (fun _=>?_) (fun hk=>?_)⟩)⟩
  · refine ⟨_,rfl,_,rfl,w0,x,z,rfl,hx.mono (Tups.of S2),by lia,fun H3 s3=>?_⟩;exact q _ H3 (S2.trans s3) (fun _=>⟨w0,hx.mono (Tups.of (S2.trans s3)),sz,bd⟩)
  · exact q false H2 S2 (fun z=>nomatch z)
def jq (aR aS:Addr):Sp:=fun vs H Q E=>∃ d v e u x t,vs=[v,u,x,t]∧Dat H d v∧Dat H e u∧Wq H x∧Pp H t∧Rf aR aS d e H E∧(bi d=true→bV e=true→∀ y H',Same H H'→Q y H')
abbrev cA:Stmt:=top 46
theorem di:FnScope ["row","signs","way","thing","said"] ["row","signs","way","thing"] (ag cA):=⟨rfl,rfl,rfl,by decide +kernel,rfl,by decide +kernel,by decide +kernel⟩
theorem fU {aR aS:Addr} (F:Fun K "greatest_shown" "greatest_shown" cA f fd) (C_bounds_say:dS P w K mg base "bounds_say" 4 ["row","signs","thing"] (g_ aR aS)) (C_is_way_with:Cal P w K mg base "is_way_with" 23 ["row","signs","thing"] nN) (C_find_worth:Cal P w K mg base "find_worth" 10 ["way"] (hZ 9)):FnOk P w K mg base (CX1 P w) 24 f fd ["row","signs","way","thing"] (jq aR aS):=by
  refine Fun.ok1 F di (fun vs H Q E h=>?_) (fun cdv A outer s H vs Q E hr h=>?_)
  · obtain ⟨d,v,e,u,x,t,rfl,_⟩:=h;rfl
  obtain ⟨d,v,e,u,x,t,rfl,hd,he,hw,pp,rf,q0⟩:=h;refine ⟨_,(@af _ _ _ _ _ (@aw _ _ (4) _ _ _ _ (di).nd rfl (Or.inl rfl) (@eF _ _ _ _ _ _ _ _ _ _ _ _ C_bounds_say im hr (by lia) rfl (@aa _ _ _ _ _ (pv 0) (@aa _ _ _ _ _ (pv 1) (@aa _ _ _ _ _ (pv 3) ad (by rfl)) (by rfl)) (by rfl)) (by decide) (by rfl) (by rfl)) (by rfl) (by first|exact .inl rfl|exact .inr rfl|assumption)) (PSs.nox (ai (ar (cu (bS nZ (pv 4) dc (a4 _)) (cu (al C_is_way_with hr (by lia) rfl (aa (pv 0) (aa (pv 1) (aa (pv 2) ad)))) (eE (bS eW (al C_find_worth hr (by lia) rfl (aa (pv 2) ad)) (aK cN (pv 4) ae (fun _ _=>rfl)) (a4 _))))))))),?_⟩;refine ⟨_,rfl,_,rfl,_,rfl,d,v,e,u,t,rfl,hd,he,pp,rf,fun c c2 y H1 s1 sd=>?_⟩;have q:=q0 c c2;obtain ⟨r,ns,rfl,er,n1,n9,_⟩:=kg c hd;obtain ⟨gs,rfl,hs,g1,g3⟩:=ka c2 he;rcases sd with rfl|⟨b,p,rfl,eb⟩
  · exact ⟨_,rfl,rfl,false,rfl,aU (q _ H1 s1)⟩
  refine ⟨_,rfl,rfl,true,rfl,bC ?_⟩;refine ⟨_,rfl,_,rfl,_,rfl,r,ns,aq gs,x,rfl,s1 _ _ er,hw.mono s1,fun k H2 s2 hk=>⟨k,rfl,iJ (fun z=>?_) (fun _=>q _ H2 (s1.trans s2))⟩⟩;obtain ⟨w0,hx,sz,bd⟩:=hk z;refine ⟨_,rfl,w0,x,rfl,hx,sz,by decide,bd,_,rfl,b,_,1,_,rfl,rfl,SqT.of (s2 _ _ eb),rfl,rfl,q _ H2 (s1.trans s2)⟩
abbrev dy:Stmt:=top 47
theorem e_:FnScope ["row","signs","way","thing","said"] ["row","signs","way","thing"] (ag dy):=⟨rfl,rfl,rfl,by decide +kernel,rfl,by decide +kernel,by decide +kernel⟩
theorem gR {aR aS:Addr} (F:Fun K "least_shown" "least_shown" dy f fd) (C_bounds_say:dS P w K mg base "bounds_say" 4 ["row","signs","thing"] (g_ aR aS)) (C_is_way_with:Cal P w K mg base "is_way_with" 23 ["row","signs","thing"] nN) (C_find_worth:Cal P w K mg base "find_worth" 10 ["way"] (hZ 9)):FnOk P w K mg base (CX1 P w) 24 f fd ["row","signs","way","thing"] (jq aR aS):=by
  refine Fun.ok1 F e_ (fun vs H Q E h=>?_) (fun cdv A outer s H vs Q E hr h=>?_)
  · obtain ⟨d,v,e,u,x,t,rfl,_⟩:=h;rfl
  obtain ⟨d,v,e,u,x,t,rfl,hd,he,hw,pp,rf,q0⟩:=h;refine ⟨_,(@af _ _ _ _ _ (@aw _ _ (4) _ _ _ _ (e_).nd rfl (Or.inl rfl) (@eF _ _ _ _ _ _ _ _ _ _ _ _ C_bounds_say im hr (by lia) rfl (@aa _ _ _ _ _ (pv 0) (@aa _ _ _ _ _ (pv 1) (@aa _ _ _ _ _ (pv 3) ad (by rfl)) (by rfl)) (by rfl)) (by decide) (by rfl) (by rfl)) (by rfl) (by first|exact .inl rfl|exact .inr rfl|assumption)) (PSs.nox (ai (ar (cu (bS nZ (pv 4) dc (a4 _)) (cu (al C_is_way_with hr (by lia) rfl (aa (pv 0) (aa (pv 1) (aa (pv 2) ad)))) (eE (bS eW (al C_find_worth hr (by lia) rfl (aa (pv 2) ad)) (aK cN (pv 4) ae (fun _ _=>rfl)) (a4 _))))))))),?_⟩;refine ⟨_,rfl,_,rfl,_,rfl,d,v,e,u,t,rfl,hd,he,pp,rf,fun c c2 y H1 s1 sd=>?_⟩;have q:=q0 c c2;obtain ⟨r,ns,rfl,er,n1,n9,_⟩:=kg c hd;obtain ⟨gs,rfl,hs,g1,g3⟩:=ka c2 he;rcases sd with rfl|⟨b,p,rfl,eb⟩
  · exact ⟨_,rfl,rfl,false,rfl,aU (q _ H1 s1)⟩
  refine ⟨_,rfl,rfl,true,rfl,bC ?_⟩;refine ⟨_,rfl,_,rfl,_,rfl,r,ns,aq gs,x,rfl,s1 _ _ er,hw.mono s1,fun k H2 s2 hk=>⟨k,rfl,iJ (fun z=>?_) (fun _=>q _ H2 (s1.trans s2))⟩⟩;obtain ⟨w0,hx,sz,bd⟩:=hk z;refine ⟨_,rfl,w0,x,rfl,hx,sz,by decide,bd,_,rfl,b,_,0,_,rfl,rfl,SqT.of (s2 _ _ eb),rfl,rfl,q _ H2 (s1.trans s2)⟩
end
open PySem L2
structure Xk (mg:Str→Option Value) (aR aS aW aN aL aF aO aA aH aT aM:Addr):Prop where
  mNoRow:mg "NoRow" = some (.ref aR)
  mNoSigns:mg "NoSigns" = some (.ref aS)
  mNoWay:mg "NoWay" = some (.ref aW)
  mNoNumber:mg "NoNumber" = some (.ref aN)
  mNoPlace:mg "NoPlace" = some (.ref aL)
  mNoFit:mg "NoFit" = some (.ref aF)
  mNoForm:mg "NoForm" = some (.ref aO)
  mNoAsk:mg "NoAsk" = some (.ref aA)
  mNoHolds:mg "NoHolds" = some (.ref aH)
  mNoText:mg "NoText" = some (.ref aT)
  mTooMany:mg "TooMany" = some (.ref aM)
  iValueError:mg "ValueError" = none
structure Kf (K:aab) (aR aS aW aN aL aF aO aA aH aT aM:Addr) (t:Value) (j:Nat):Prop where
  k0:aaG K t (.ref aR)=some (decide (j=0))
  k1:aaG K t (.ref aS)=some (decide (j=1))
  k2:aaG K t (.ref aN)=some (decide (j=2))
  k3:aaG K t (.ref aM)=some false
  k4:abE K t [.ref aW,.ref aL,.ref aF]=some false
  k5:abE K t [.ref aO,.ref aH]=some false
  k6:abE K t [.ref aT,.ref aA]=some false
structure Kx (K:aab) (C:Addr):Prop where
  ex:ExC K C
  kv:aaG K (.ref C) (.type "ValueError")=some true
def oo:List V:=[.str "row",.str "signs",.str "number",.str "many",.str "a",.str "b",.str "c"]
def pG (j:Nat):List Bool:=[decide (j=0),decide (j=1),decide (j=2),false,false,false,false]
theorem rh {j:Nat} (h:j < 3):(pG j).countP id=1:=by
  match j,h with
  | 0,_=>rfl
  | 1,_=>rfl
  | 2,_=>rfl
theorem vK {j:Nat} (h:j < 3):(pG j)[j]?=some true∧∀ m,m < j→(pG j)[m]?=some false:=by
  match j,h with
  | 0,_=>exact ⟨rfl,fun m hm=>absurd hm (by lia)⟩
  | 1,_=>exact ⟨rfl,by decide⟩
  | 2,_=>exact ⟨rfl,by decide⟩
theorem qa {a b:Addr} {us:List Value} (r:Vals [.ref a,.ref b] us):us=[.ref a,.ref b]:=by
  cases r with
  | cons p r=>cases r with
    | cons p' r=>cases r;cases p;cases p';rfl
theorem tG {a b c:Addr} {us:List Value} (r:Vals [.ref a,.ref b,.ref c] us):us=[.ref a,.ref b,.ref c]:=by
  cases r with
  | cons p r=>cases r with
    | cons p' r=>cases r with
      | cons p'' r=>cases r;cases p;cases p';cases p'';rfl
def j5 (K:aab) (aR aS aW aN aL aF aO aA aH aT aM:Addr):Sp:=fun vs H Q _=>∃ (x:V) (t:Value) (j:Nat) (nm:Str),vs=[x]∧CauT K H x t∧Kf K aR aS aW aN aL aF aO aA aH aT aM t j∧((x=.non∧nm = "told")∨(x≠.non∧j < 3∧aaG K t (.type "ValueError")=some true∧oo[j]?=some (.str nm)))∧∀ H',Same H H'→Q (.str nm) H'
section
variable {P:Program} {w:World} {K:aab} {mg:Str→Option Value} {base:Heap} {f:Addr} {fd:FuncData}
abbrev eh:Stmt:=top 61
theorem du:FnScope ["caught","kinds"] ["caught"] (ag eh):=⟨rfl,rfl,rfl,by decide +kernel,rfl,by decide +kernel,by decide +kernel⟩
theorem qJ {aR aS aW aN aL aF aO aA aH aT aM:Addr} (F:Fun K "_law_flags" "_law_flags" eh f fd) (B:Bu K mg) (XK:Xk mg aR aS aW aN aL aF aO aA aH aT aM):FnOk P w K mg base CX0 1 f fd ["caught"] (j5 K aR aS aW aN aL aF aO aA aH aT aM):=by
  refine F.ok du (fun vs H Q E h=>?_) (fun cdv A outer s H vs Q E hr h=>?_)
  · obtain ⟨x,t,j,nm,rfl,_⟩:=h;rfl
  obtain ⟨x,t,j,nm,rfl,hx,kf,cs,q⟩:=h;refine ⟨_,(@af _ _ _ _ _ (@aw _ _ (1) _ _ _ _ (du).nd rfl (Or.inl rfl) (@az _ _ _ _ (@aa _ _ _ _ _ (@ak _ _ _ _ _ _ _ _ _ cw rfl B.iisinstance aaq (@aa _ _ _ _ _ (pv 0) (@aa _ _ _ _ _ (@bt _ _ (.ref aR) _ _ rfl XK.mNoRow rfl (by decide)) ad (by rfl)) (by rfl)) (by decide) (by decide) (by rfl) (by rfl)) (@aa _ _ _ _ _ (@ak _ _ _ _ _ _ _ _ _ cw rfl B.iisinstance aaq (@aa _ _ _ _ _ (pv 0) (@aa _ _ _ _ _ (@bt _ _ (.ref aS) _ _ rfl XK.mNoSigns rfl (by decide)) ad (by rfl)) (by rfl)) (by decide) (by decide) (by rfl) (by rfl)) ad (by rfl)) (by rfl))) (by rfl) (by first|exact .inl rfl|exact .inr rfl|assumption)) (@af _ _ _ _ _ (@aw _ _ (1) _ _ _ _ (du).nd rfl (Or.inl rfl) (@am _ _ _ _ _ _ _ _ ft (pv 1) (@az _ _ _ _ (@aa _ _ _ _ _ (@ak _ _ _ _ _ _ _ _ _ cw rfl B.iisinstance aaq (@aa _ _ _ _ _ (pv 0) (@aa _ _ _ _ _ (@bt _ _ (.ref aN) _ _ rfl XK.mNoNumber rfl (by decide)) ad (by rfl)) (by rfl)) (by decide) (by decide) (by rfl) (by rfl)) (@aa _ _ _ _ _ (@ak _ _ _ _ _ _ _ _ _ cw rfl B.iisinstance aaq (@aa _ _ _ _ _ (pv 0) (@aa _ _ _ _ _ (@bt _ _ (.ref aM) _ _ rfl XK.mTooMany rfl (by decide)) ad (by rfl)) (by rfl)) (by decide) (by decide) (by rfl) (by rfl)) ad (by rfl)) (by rfl)))) (by rfl) (by first|exact .inl rfl|exact .inr rfl|assumption)) (@af _ _ _ _ _ (@br _ _ _ _ (@fJ _ _ _ _ _ _ _ _ _ _ _ _ aaI aaV aaW cg (pv 1) (@aa _ _ _ _ _ (@ak _ _ _ _ _ _ _ _ _ dE rfl B.iisinstance aaq (@aa _ _ _ _ _ (pv 0) (@aa _ _ _ _ _ (@bc _ _ _ _ _ (@aa _ _ _ _ _ (@bt _ _ (.ref aW) _ _ rfl XK.mNoWay rfl (by decide)) (@aa _ _ _ _ _ (@bt _ _ (.ref aL) _ _ rfl XK.mNoPlace rfl (by decide)) (@aa _ _ _ _ _ (@bt _ _ (.ref aF) _ _ rfl XK.mNoFit rfl (by decide)) ad (by rfl)) (by rfl)) (by rfl))) ad (by rfl)) (by rfl)) (by decide) (by decide) (by rfl) (by rfl)) ad (by rfl)) (by rfl) (by rfl) (by rfl) (by rfl) (by rfl)) (by rfl)) (@af _ _ _ _ _ (@br _ _ _ _ (@fJ _ _ _ _ _ _ _ _ _ _ _ _ aaI aaV aaW cg (pv 1) (@aa _ _ _ _ _ (@ak _ _ _ _ _ _ _ _ _ dE rfl B.iisinstance aaq (@aa _ _ _ _ _ (pv 0) (@aa _ _ _ _ _ (@bc _ _ _ _ _ (@aa _ _ _ _ _ (@bt _ _ (.ref aO) _ _ rfl XK.mNoForm rfl (by decide)) (@aa _ _ _ _ _ (@bt _ _ (.ref aH) _ _ rfl XK.mNoHolds rfl (by decide)) ad (by rfl)) (by rfl))) ad (by rfl)) (by rfl)) (by decide) (by decide) (by rfl) (by rfl)) ad (by rfl)) (by rfl) (by rfl) (by rfl) (by rfl) (by rfl)) (by rfl)) (@af _ _ _ _ _ (@br _ _ _ _ (@fJ _ _ _ _ _ _ _ _ _ _ _ _ aaI aaV aaW cg (pv 1) (@aa _ _ _ _ _ (@ak _ _ _ _ _ _ _ _ _ dE rfl B.iisinstance aaq (@aa _ _ _ _ _ (pv 0) (@aa _ _ _ _ _ (@bc _ _ _ _ _ (@aa _ _ _ _ _ (@bt _ _ (.ref aT) _ _ rfl XK.mNoText rfl (by decide)) (@aa _ _ _ _ _ (@bt _ _ (.ref aA) _ _ rfl XK.mNoAsk rfl (by decide)) ad (by rfl)) (by rfl))) ad (by rfl)) (by rfl)) (by decide) (by decide) (by rfl) (by rfl)) ad (by rfl)) (by rfl) (by rfl) (by rfl) (by rfl) (by rfl)) (by rfl)) (@af _ _ _ _ _ (@bH _ _ _ _ _ _ _ _ (@bj _ _ _ _ _ _ _ _ uq (pv 0) dc (a4 _)) (@ai _ _ _ (@ar _ _ _ _ ax)) bn) (@af _ _ _ _ _ (@bH _ _ _ _ _ _ _ _ (@PW.pt _ _ _ (@nQ _ _ _ _ _ _ _ (@bj _ _ _ _ _ _ _ _ qH (@fJ _ _ _ _ _ _ _ _ _ _ _ _ aaI PySem.F.slot_list_count PySem.F.type_list_count (@oX _ hr.units) (pv 1) (@aa _ _ _ _ _ eV ad (by rfl)) (by rfl) (by rfl) (by rfl) (by rfl) (by rfl)) ae (a4 _)) (@kh _ _ _ _ (@eo _ _ _ _ (@cr _ _ _ (@ak _ _ _ _ _ _ _ _ _ cw rfl B.iisinstance aaq (@aa _ _ _ _ _ (pv 0) (@aa _ _ _ _ _ (@cE _ _ (.ty "ValueError") _ _ rfl XK.iValueError (by decide +kernel) rfl (by decide) (by decide)) ad (by rfl)) (by rfl)) (by decide) (by decide) (by rfl) (by rfl)) (by intro _;rfl)))))) (@ai _ _ _ (@ar _ _ _ _ ax)) bn) (@ai _ _ _ (@ar _ _ _ _ (@aK _ _ _ _ _ _ _ aQ (@az _ _ _ _ (@aa _ _ _ _ _ ax (@aa _ _ _ _ _ ax (@aa _ _ _ _ _ ax (@aa _ _ _ _ _ ax (@aa _ _ _ _ _ ax (@aa _ _ _ _ _ ax (@aa _ _ _ _ _ ax ad (by rfl)) (by rfl)) (by rfl)) (by rfl)) (by rfl)) (by rfl)) (by rfl))) (@fJ _ _ _ _ _ _ _ _ _ _ _ _ aaI PySem.F.slot_list_index PySem.F.type_list_index (@oW _ hr.units) (pv 1) (@aa _ _ _ _ _ eV ad (by rfl)) (by rfl) (by rfl) (by rfl) (by rfl) (by rfl)) (fun _ _=>rfl))))))))))),?_⟩;refine ⟨_,rfl,x,_,t,_,_,rfl,hx,fun _ z=>z,kf.k0,_,rfl,x,_,t,_,_,rfl,hx,fun _ z=>z,kf.k1,(by show 2≤sizeLine;decide),fun pk nk=>?_⟩;have g1:=Same.new nk (.lst [.bl (decide (j=0)),.bl (decide (j=1))]);have ek1:upd H pk (.lst [.bl (decide (j=0)),.bl (decide (j=1))]) pk=_:=ac;generalize upd H pk (.lst [.bl (decide (j=0)),.bl (decide (j=1))])=H1 at g1 ek1 ⊢;have hx1:=hx.mono g1;refine ⟨_,rfl,_,rfl,x,_,t,_,_,rfl,hx1,fun _ z=>z,kf.k2,_,rfl,x,_,t,_,_,rfl,hx1,fun _ z=>z,kf.k3,(by show 2≤sizeLine;decide),fun pl nl=>?_⟩;have g2:=Same.new nl (.lst [.bl (decide (j=2)),.bl false]);have ek2:upd H1 pl (.lst [.bl (decide (j=2)),.bl false]) pl=_:=ac;have ek1':=g2 _ _ ek1;generalize upd H1 pl (.lst [.bl (decide (j=2)),.bl false])=H2 at g2 ek2 ek1' ⊢;refine ⟨pk,pl,_,_,rfl,rfl,ek1',ek2,(by show 4≤sizeLine;decide),fun pm nm'=>?_⟩;have g3:=Same.new nm' (.lst ([.bl (decide (j=0)),.bl (decide (j=1))]++[.bl (decide (j=2)),.bl false]));have ek:upd H2 pm (.lst ([.bl (decide (j=0)),.bl (decide (j=1))]++[.bl (decide (j=2)),.bl false])) pm=some (.lst [.bl (decide (j=0)),.bl (decide (j=1)),.bl (decide (j=2)),.bl false]):=ac;have G2:=g1.trans g2;have nm0:H pm=none:=G2.free nm';have G3:=G2.trans g3;generalize upd H2 pm (.lst ([.bl (decide (j=0)),.bl (decide (j=1))]++[.bl (decide (j=2)),.bl false]))=H3 at g3 ek G3 ⊢;refine ⟨_,rfl,.inl ⟨rfl,_,SqL.of ek⟩,_,rfl,(by show 3≤sizeLine;decide),fun p1 n1=>⟨x,p1,_,t,_,false,rfl,(hx.mono G3).mono (Same.new n1 _),ac,fun _ r=>tG r,kf.k4,pm,_,_,rfl,rfl,(Same.new n1 _) _ _ ek,(by show 4 < sizeLine;decide),?_⟩⟩;have G4:=(G3.trans (Same.new n1 (.tup [.ref aW,.ref aL,.ref aF]))).upd (o:=.lst ([.bl (decide (j=0)),.bl (decide (j=1)),.bl (decide (j=2)),.bl false]++[.bl false])) nm0;have ek4:upd (upd H3 p1 (.tup [.ref aW,.ref aL,.ref aF])) pm (.lst ([.bl (decide (j=0)),.bl (decide (j=1)),.bl (decide (j=2)),.bl false]++[.bl false])) pm=some (.lst [.bl (decide (j=0)),.bl (decide (j=1)),.bl (decide (j=2)),.bl false,.bl false]):=ac;generalize upd (upd H3 p1 (.tup [.ref aW,.ref aL,.ref aF])) pm (.lst ([.bl (decide (j=0)),.bl (decide (j=1)),.bl (decide (j=2)),.bl false]++[.bl false]))=H4 at G4 ek4 ⊢;refine ⟨_,rfl,.inl ⟨rfl,_,SqL.of ek4⟩,_,rfl,(by show 2≤sizeLine;decide),fun p2 n2=>⟨x,p2,_,t,_,false,rfl,(hx.mono G4).mono (Same.new n2 _),ac,fun _ r=>qa r,kf.k5,pm,_,_,rfl,rfl,(Same.new n2 _) _ _ ek4,(by show 5 < sizeLine;decide),?_⟩⟩;have G5:=(G4.trans (Same.new n2 (.tup [.ref aO,.ref aH]))).upd (o:=.lst ([.bl (decide (j=0)),.bl (decide (j=1)),.bl (decide (j=2)),.bl false,.bl false]++[.bl false])) nm0;have ek5:upd (upd H4 p2 (.tup [.ref aO,.ref aH])) pm (.lst ([.bl (decide (j=0)),.bl (decide (j=1)),.bl (decide (j=2)),.bl false,.bl false]++[.bl false])) pm=some (.lst [.bl (decide (j=0)),.bl (decide (j=1)),.bl (decide (j=2)),.bl false,.bl false,.bl false]):=ac;generalize upd (upd H4 p2 (.tup [.ref aO,.ref aH])) pm (.lst ([.bl (decide (j=0)),.bl (decide (j=1)),.bl (decide (j=2)),.bl false,.bl false]++[.bl false]))=H5 at G5 ek5 ⊢;refine ⟨_,rfl,.inl ⟨rfl,_,SqL.of ek5⟩,_,rfl,(by show 2≤sizeLine;decide),fun p3 n3=>⟨x,p3,_,t,_,false,rfl,(hx.mono G5).mono (Same.new n3 _),ac,fun _ r=>qa r,kf.k6,pm,_,_,rfl,rfl,(Same.new n3 _) _ _ ek5,(by show 6 < sizeLine;decide),?_⟩⟩;have G6:=(G5.trans (Same.new n3 (.tup [.ref aT,.ref aA]))).upd (o:=.lst ([.bl (decide (j=0)),.bl (decide (j=1)),.bl (decide (j=2)),.bl false,.bl false,.bl false]++[.bl false])) nm0;have ek6:upd (upd H5 p3 (.tup [.ref aT,.ref aA])) pm (.lst ([.bl (decide (j=0)),.bl (decide (j=1)),.bl (decide (j=2)),.bl false,.bl false,.bl false]++[.bl false])) pm=some (.lst ((pG j).map V.bl)):=ac;generalize upd (upd H5 p3 (.tup [.ref aT,.ref aA])) pm (.lst ([.bl (decide (j=0)),.bl (decide (j=1)),.bl (decide (j=2)),.bl false,.bl false,.bl false]++[.bl false]))=H6 at G6 ek6 ⊢;have hx6:=hx.mono G6;rcases cs with ⟨rfl,rfl⟩|⟨hne,j3,kv,hn⟩
  · exact ⟨_,rfl,rfl,_,rfl,jG rfl (q _ G6)⟩
  refine ⟨_,rfl,rfl,_,rfl,jH hne ?_⟩;refine ⟨_,rfl,.inl ⟨rfl,_,SqL.of ek6⟩,pm,pG j,rfl,rfl,SqL.of ek6,?_⟩;rw [rh j3];refine ⟨rfl,_,rfl,vy rfl ?_⟩;refine ⟨_,rfl,x,_,t,_,_,rfl,hx6,fun _ z=>z,kv,true,rfl,aU ?_⟩;refine ⟨(by show 7≤sizeLine;decide),fun pn nn=>?_⟩;have g7:=Same.new nn (.lst oo);obtain ⟨k1,k2⟩:=vK j3;refine ⟨_,rfl,.inl ⟨rfl,_,SqL.of (g7 _ _ ek6)⟩,pm,pG j,j,rfl,rfl,SqL.of (g7 _ _ ek6),k1,k2,(by show 7≤1000;decide),?_⟩;exact ⟨pn,_,_,_,rfl,rfl,SqL.of ac,dn hn,q _ (G6.trans g7)⟩
end
open PySem L2
theorem neF {b:Bool} (h:b=true):¬ b=false:=fun z=>by rw [h] at z;cases z
theorem LT.keep {T:Addr} {H H':Hp} (h:LT T H) (s:Same H H'):LT T H':=by
  obtain ⟨tp,h⟩:=h;exact ⟨tp,s _ _ h.tab,h.tri,fun pos' cv hc=>by obtain ⟨d,e1,e2⟩:=h.cds pos' cv hc;exact ⟨d,e1,s _ _ e2⟩⟩
def b_ (d e:PyData):Str:=if bi d=false then "row" else if bV e=false then "signs" else "told"
theorem dG {d e:PyData} (c:bi d=false):b_ d e = "row":=by unfold b_;rw [if_pos c]
theorem cX {d e:PyData} (c:bi d=true) (c2:bV e=false):b_ d e = "signs":=by unfold b_;rw [if_neg (neF c),if_pos c2]
theorem dF {d e:PyData} (c:bi d=true) (c2:bV e=true):b_ d e = "told":=by unfold b_;rw [if_neg (neF c),if_neg (neF c2)]
def my (T:Addr):Sp:=fun vs H Q _=>∃ k d v e u x t,vs=[.int k,v,u,x,t]∧0≤k∧k≤3∧Dat H d v∧Dat H e u∧Sm1 H d v∧Wq H x∧Pp H t∧LT T H∧∀ H',But T H H'→LT T H'→Q (.str (b_ d e)) H'
section
variable {P:Program} {w:World} {K:aab} {mg:Str→Option Value} {base:Heap} {f:Addr} {fd:FuncData}
abbrev fg:Stmt:=top 62
theorem cV:FnScope ["at","row","signs","way","thing","caught","e"] ["at","row","signs","way","thing"] (ag fg):=⟨rfl,rfl,rfl,by decide +kernel,rfl,by decide +kernel,by decide +kernel⟩
theorem ss {T aP aR aS aW aN aL aF aO aA aH aT aM:Addr} (F:Fun K "_law_word" "_law_word" fg f fd) (XC:Xc K mg aP aR aS) (E0:Kf K aR aS aW aN aL aF aO aA aH aT aM (.ref aR) 0) (E1:Kf K aR aS aW aN aL aF aO aA aH aT aM (.ref aS) 1) (E7:Kf K aR aS aW aN aL aF aO aA aH aT aM (.type "NoneType") 7) (X0:Kx K aR) (X1:Kx K aS)
    (C_bounds_say:dS P w K mg base "bounds_say" 4 ["row","signs","thing"] (g_ aR aS)) (C_bounds_paper:dS P w K mg base "bounds_paper" 7 ["row","signs"] (jr aR aS T)) (C_greatest_shown:dS P w K mg base "greatest_shown" 24 ["row","signs","way","thing"] (jq aR aS)) (C_least_shown:dS P w K mg base "least_shown" 24 ["row","signs","way","thing"] (jq aR aS)) (C__law_flags:Cal P w K mg base "_law_flags" 1 ["caught"] (j5 K aR aS aW aN aL aF aO aA aH aT aM)):FnOk P w K mg base CX0 25 f fd ["at","row","signs","way","thing"] (my T):=by
  refine F.ok cV (fun vs H Q E h=>?_) (fun cdv A outer s H vs Q E hr h=>?_)
  · obtain ⟨k,d,v,e,u,x,t,rfl,_⟩:=h;rfl
  obtain ⟨k,d,v,e,u,x,t,rfl,k0,k3,hd,he,hsm,hw,pp,hT,q⟩:=h;refine ⟨_,(@af _ _ _ _ _ (@aw _ _ (5) _ _ _ _ (cV).nd rfl (Or.inl rfl) dc (by rfl) (by first|exact .inl rfl|exact .inr rfl|assumption)) (@af _ _ _ _ _ (@tY _ _ _ _ (6) _ _ _ _ _ _ _ _ rfl rfl rfl rfl XC.mPutError (cV).nd rfl rfl (fun _ _=>(ai (bH (bj eW (pv 0) ae (a4 _)) (ai (br (g6 C_bounds_say rfl hr (by lia) rfl (aa (pv 1) (aa (pv 2) (aa (pv 4) ad)))))) (ai (bH (bj eW (pv 0) ae (a4 _)) (ai (br (g6 C_bounds_paper rfl hr (by lia) rfl (aa (pv 1) (aa (pv 2) ad))))) (ai (bH (bj eW (pv 0) ae (a4 _)) (ai (br (g6 C_greatest_shown rfl hr (by lia) rfl (aa (pv 1) (aa (pv 2) (aa (pv 3) (aa (pv 4) ad))))))) (ai (br (g6 C_least_shown rfl hr (by lia) rfl (aa (pv 1) (aa (pv 2) (aa (pv 3) (aa (pv 4) ad)))))))))))))) (fun _=>(ai (aw (i:=5) (cV).nd rfl (Or.inl rfl) (pv 6)))) (by decide)) (@ai _ _ _ (@ar _ _ _ _ (@al _ _ _ _ _ _ _ _ _ _ _ C__law_flags hr (by lia) rfl (@aa _ _ _ _ _ (pv 5) ad (by rfl)) (by decide) (by rfl) (by rfl)))))),?_⟩;have qs:∀ H',Same H H'→Q (.str (b_ d e)) H':=fun H' s'=>q H' (But.of s') (hT.keep s');have cases4:k=0∨k=1∨k=2∨k=3:=by lia
  rcases cases4 with rfl|rfl|rfl|rfl
  · refine ⟨_,rfl,rfl,true,rfl,bC ?_⟩;refine ⟨_,rfl,_,rfl,_,rfl,d,v,e,u,t,rfl,hd,he,pp,⟨fun c H1 g1 C hC=>?_,fun c c2 H1 g1 C hC=>?_⟩,fun c c2 y H1 g1 _=>?_⟩
    · cases hC;refine ⟨XC.uNoRow,fun ea ne=>?_⟩;exact ⟨_,rfl,_,rfl,.ref ea,.ref aR,0,"row",rfl,.inr ⟨ea,aR,rfl,ac,X0.ex,rfl⟩,E0,.inr ⟨fun z=>(nomatch z),by decide,X0.kv,rfl⟩,fun H2 g2=>by rw [← (show b_ d e=("row":Str) from dG c)];exact qs H2 ((g1.trans (Same.new ne _)).trans g2)⟩
    · cases hC;refine ⟨XC.uNoSigns,fun ea ne=>?_⟩;exact ⟨_,rfl,_,rfl,.ref ea,.ref aS,1,"signs",rfl,.inr ⟨ea,aS,rfl,ac,X1.ex,rfl⟩,E1,.inr ⟨fun z=>(nomatch z),by decide,X1.kv,rfl⟩,fun H2 g2=>by rw [← (show b_ d e=("signs":Str) from cX c c2)];exact qs H2 ((g1.trans (Same.new ne _)).trans g2)⟩
    · exact ⟨_,rfl,.non,.type "NoneType",7,"told",rfl,.inl ⟨rfl,rfl⟩,E7,.inl ⟨rfl,rfl⟩,fun H2 g2=>by rw [← (show b_ d e=("told":Str) from dF c c2)];exact qs H2 (g1.trans g2)⟩
  · refine ⟨_,rfl,rfl,false,rfl,aU ⟨_,rfl,rfl,true,rfl,bC ?_⟩⟩;refine ⟨_,rfl,_,rfl,d,v,e,u,rfl,hd,he,hsm,hT,⟨fun c H1 g1 C hC=>?_,fun c c2 H1 g1 C hC=>?_⟩,fun c c2 y H1 g1 l1=>?_⟩
    · cases hC;refine ⟨XC.uNoRow,fun ea ne=>?_⟩;exact ⟨_,rfl,_,rfl,.ref ea,.ref aR,0,"row",rfl,.inr ⟨ea,aR,rfl,ac,X0.ex,rfl⟩,E0,.inr ⟨fun z=>(nomatch z),by decide,X0.kv,rfl⟩,fun H2 g2=>by rw [← (show b_ d e=("row":Str) from dG c)];exact qs H2 ((g1.trans (Same.new ne _)).trans g2)⟩
    · cases hC;refine ⟨XC.uNoSigns,fun ea ne=>?_⟩;exact ⟨_,rfl,_,rfl,.ref ea,.ref aS,1,"signs",rfl,.inr ⟨ea,aS,rfl,ac,X1.ex,rfl⟩,E1,.inr ⟨fun z=>(nomatch z),by decide,X1.kv,rfl⟩,fun H2 g2=>by rw [← (show b_ d e=("signs":Str) from cX c c2)];exact qs H2 ((g1.trans (Same.new ne _)).trans g2)⟩
    · exact ⟨_,rfl,.non,.type "NoneType",7,"told",rfl,.inl ⟨rfl,rfl⟩,E7,.inl ⟨rfl,rfl⟩,fun H2 g2=>by rw [← (show b_ d e=("told":Str) from dF c c2)];exact q H2 (g1.trans (But.of g2)) (l1.keep g2)⟩
  · refine ⟨_,rfl,rfl,false,rfl,aU ⟨_,rfl,rfl,false,rfl,aU ⟨_,rfl,rfl,true,rfl,bC ?_⟩⟩⟩;refine ⟨_,rfl,_,rfl,_,rfl,_,rfl,d,v,e,u,x,t,rfl,hd,he,hw,pp,⟨fun c H1 g1 C hC=>?_,fun c c2 H1 g1 C hC=>?_⟩,fun c c2 y H1 g1=>?_⟩
    · cases hC;refine ⟨XC.uNoRow,fun ea ne=>?_⟩;exact ⟨_,rfl,_,rfl,.ref ea,.ref aR,0,"row",rfl,.inr ⟨ea,aR,rfl,ac,X0.ex,rfl⟩,E0,.inr ⟨fun z=>(nomatch z),by decide,X0.kv,rfl⟩,fun H2 g2=>by rw [← (show b_ d e=("row":Str) from dG c)];exact qs H2 ((g1.trans (Same.new ne _)).trans g2)⟩
    · cases hC;refine ⟨XC.uNoSigns,fun ea ne=>?_⟩;exact ⟨_,rfl,_,rfl,.ref ea,.ref aS,1,"signs",rfl,.inr ⟨ea,aS,rfl,ac,X1.ex,rfl⟩,E1,.inr ⟨fun z=>(nomatch z),by decide,X1.kv,rfl⟩,fun H2 g2=>by rw [← (show b_ d e=("signs":Str) from cX c c2)];exact qs H2 ((g1.trans (Same.new ne _)).trans g2)⟩
    · exact ⟨_,rfl,.non,.type "NoneType",7,"told",rfl,.inl ⟨rfl,rfl⟩,E7,.inl ⟨rfl,rfl⟩,fun H2 g2=>by rw [← (show b_ d e=("told":Str) from dF c c2)];exact qs H2 (g1.trans g2)⟩
  · refine ⟨_,rfl,rfl,false,rfl,aU ⟨_,rfl,rfl,false,rfl,aU ⟨_,rfl,rfl,false,rfl,aU ?_⟩⟩⟩;refine ⟨_,rfl,_,rfl,_,rfl,_,rfl,d,v,e,u,x,t,rfl,hd,he,hw,pp,⟨fun c H1 g1 C hC=>?_,fun c c2 H1 g1 C hC=>?_⟩,fun c c2 y H1 g1=>?_⟩
    · cases hC;refine ⟨XC.uNoRow,fun ea ne=>?_⟩;exact ⟨_,rfl,_,rfl,.ref ea,.ref aR,0,"row",rfl,.inr ⟨ea,aR,rfl,ac,X0.ex,rfl⟩,E0,.inr ⟨fun z=>(nomatch z),by decide,X0.kv,rfl⟩,fun H2 g2=>by rw [← (show b_ d e=("row":Str) from dG c)];exact qs H2 ((g1.trans (Same.new ne _)).trans g2)⟩
    · cases hC;refine ⟨XC.uNoSigns,fun ea ne=>?_⟩;exact ⟨_,rfl,_,rfl,.ref ea,.ref aS,1,"signs",rfl,.inr ⟨ea,aS,rfl,ac,X1.ex,rfl⟩,E1,.inr ⟨fun z=>(nomatch z),by decide,X1.kv,rfl⟩,fun H2 g2=>by rw [← (show b_ d e=("signs":Str) from cX c c2)];exact qs H2 ((g1.trans (Same.new ne _)).trans g2)⟩
    · exact ⟨_,rfl,.non,.type "NoneType",7,"told",rfl,.inl ⟨rfl,rfl⟩,E7,.inl ⟨rfl,rfl⟩,fun H2 g2=>by rw [← (show b_ d e=("told":Str) from dF c c2)];exact qs H2 (g1.trans g2)⟩
end
open PySem L2
def PrD (d:PyData):Prop:=d.showable=true∧d.depth≤50∧d.shown.length≤100000
theorem fj {d:PyData} (h:OkD d) (hs:szD d≤900) (hd:d.depth≤50):PrD d:=by
  have:=mL d h;exact ⟨kq d h,hd,by lia⟩
theorem mH {i:Int} (h:i.natAbs < 10 ^ 40):PrD (.int i):=by
  refine ⟨?_,by simp [aaA],?_⟩
  · have z:(10:Nat) ^ 40 < 2 ^ 140:=by decide
    have : i.natAbs.log2 < 140:=by
      by_cases c:i.natAbs=0
      · rw [c];decide
      · exact (Nat.log2_lt c).mpr (by lia)
    simp only [abg];exact decide_eq_true (by lia)
  · have e:=int_text_length_le10 (a:=i) (k:=40) (by decide) h;show (abu (toString i)).length≤100000;rw [ofString_length];lia
theorem qA {xs:List V} {r:Int} (h0:0≤r) (h1:r < xs.length):∃ u,atI xs r=some u∧u∈xs:=by
  obtain ⟨j,rfl⟩:∃ j:Nat,r=(j:Int):=⟨r.toNat,by lia⟩
  have hj:j < xs.length:=by lia
  exact ⟨xs[j],dn (aad hj),abp hj⟩
theorem bf {H:Hp}:∀ ns:List Int,DatAll H (ns.map PyData.int) (ns.map V.int)
  | []=>by simp only [abB,DatAll]
  | i :: ns=>by
    simp only [aaF,DatAll];exact ⟨_,_,rfl,by simp only [Dat],bf ns⟩
theorem bz:∀ {ns:List Int},Small ns→OkAll (ns.map PyData.int)
  | [],_=>by simp only [abB,OkAll]
  | i :: ns,h=>by
    simp only [aaF,OkAll,OkD];have:=h i aav;have z:(10:Nat) ^ 13=10000000000000:=by decide
    exact ⟨by lia,bz fun j hj=>h j (aal _ hj)⟩
theorem cb:∀ ns:List Int,szAll (ns.map PyData.int)=ns.length
  | []=>rfl
  | i :: ns=>by simp only [aaF,szAll,szD,cb ns,aaD];lia
theorem ci:∀ ns:List Int,aaB (ns.map PyData.int)=0
  | []=>rfl
  | i :: ns=>by simp only [aaF,aaB,aaA,ci ns];rfl
theorem mR:∀ {a b:List PyData},OkAll a→OkAll b→OkAll (a++b)
  | [],_,_,h=>h
  | x :: a,b,h,k=>by
    simp only [abL,OkAll] at h ⊢;exact ⟨h.1,mR h.2 k⟩
theorem mv:∀ a b:List PyData,szAll (a++b)=szAll a+szAll b
  | [],b=>by simp [szAll]
  | x :: a,b=>by simp only [abL,szAll,mv a b];lia
theorem nu:∀ a b:List PyData,aaB (a++b)=max (aaB a) (aaB b)
  | [],b=>by simp [aaB]
  | x :: a,b=>by simp only [abL,aaB,nu a b];lia
theorem Small.take {ns:List Int} (h:Small ns) (k:Nat):Small (ns.take k):=fun i hi=>h i (List.mem_of_mem_take hi)
theorem Small.drop {ns:List Int} (h:Small ns) (k:Nat):Small (ns.drop k):=fun i hi=>h i (List.mem_of_mem_drop hi)
def Gq (p:PyData→Bool) (H:Hp) (u:V):Prop:=∃ d,Dat H d u∧PrD d∧p d=true
theorem Gq.mono {p:PyData→Bool} {H H':Hp} {u:V} (g:Same H H') (h:Gq p H u):Gq p H' u:=by obtain ⟨d,a,b⟩:=h;exact ⟨d,Dat.mono g d u a,b⟩
section
variable {p:PyData→Bool} {H:Hp}
theorem jJ {d:PyData} {u:V} (hd:Dat H d u) (ok:OkD d) (hs:szD d≤900) (hp:d.depth≤50) (h:p d=true):Gq p H u:=⟨d,hd,fj ok hs hp,h⟩
theorem qZ (h:p .none=true):Gq p H .non:=jJ (d:=.none) (by simp only [Dat]) (by simp only [OkD]) (by simp [szD]) (by simp [aaA]) h
theorem tm (b:Bool) (h:p (.bool b)=true):Gq p H (.bl b):=jJ (d:=.bool b) (by simp only [Dat]) (by simp only [OkD]) (by simp [szD]) (by simp [aaA]) h
theorem q_ (i:Int) (hi:i.natAbs < 10 ^ 40) (h:p (.int i)=true):Gq p H (.int i):=⟨.int i,by simp only [Dat],mH hi,h⟩
theorem cQ (x:Str) (hx:(reprText x).length≤20) (h:p (.str x)=true):Gq p H (.str x):=jJ (d:=.str x) (by simp only [Dat]) (by simp only [OkD];exact hx) (by simp [szD]) (by simp [aaA]) h
theorem eU {a:Addr} {xs:List V} {ds:List PyData} (e:H a=some (.lst xs)) (hd:DatAll H ds xs) (ok:OkAll ds) (sz:szAll ds≤800) (dp:aaB ds≤40) (h:p (.list ds)=true):Gq p H (.ref a) :=
  jJ (d:=.list ds) (by simp only [Dat];exact ⟨a,xs,rfl,e,hd⟩) (by simp only [OkD];exact ok) (by simp only [szD];lia) (by simp only [aaA];lia) h
theorem nh {a:Addr} {xs:List V} {ds:List PyData} (e:H a=some (.tup xs)) (hd:DatAll H ds xs) (ok:OkAll ds) (sz:szAll ds≤800) (dp:aaB ds≤40) (h:p (.tuple ds)=true):Gq p H (.ref a) :=
  jJ (d:=.tuple ds) (by simp only [Dat];exact ⟨a,xs,rfl,e,hd⟩) (by simp only [OkD];exact ok) (by simp only [szD];lia) (by simp only [aaA];lia) h
theorem oj {a:Addr} (e:H a=some (.dK [])) (h:p (.dict [])=true):Gq p H (.ref a):=jJ (d:=.dict []) (by simp only [Dat,DatKv];exact ⟨a,_,rfl,e,rfl⟩) (by simp only [OkD]) (by simp [szD]) (by simp [aaA,acj]) h
theorem tw (k:Int):DatAll H [.int k] [.int k]:=by simp only [DatAll,Dat];exact ⟨_,_,rfl,rfl,rfl⟩
theorem vM (k:Str):DatAll H [.str k] [.str k]:=by simp only [DatAll,Dat];exact ⟨_,_,rfl,rfl,rfl⟩
theorem rF:DatAll H [] []:=by simp only [DatAll]
end
def sq (d:PyData):Bool:=!bV d
def um (d:PyData):Bool:=!bi d
def bA (w z:Addr) (H:Hp):Hp:=off z (off w H)
theorem aY {w z b:Addr} {H:Hp} (h:b≠w) (h2:b≠z):bA w z H b=H b:=(qK h2).trans (qK h)
theorem dM {w z:Addr} {H H':Hp} (b:But w H H'):Same (bA w z H) (bA w z H'):=fun c o h=>by
  unfold bA off at h ⊢;by_cases c1:c=z
  · rw [if_pos c1] at h;cases h
  · rw [if_neg c1] at h ⊢;by_cases c2:c=w
    · rw [if_pos c2] at h;cases h
    · rw [if_neg c2] at h ⊢;exact b c o c2 h
theorem cy {H H':Hp} {z p:Addr} {oz:HO} (e:H z=some oz) (s:Same H H') (n:H' p=none):p≠z:=abt (ap (s _ _ e) n)
open PySem L2
theorem pN (xs:List V) (c:Nat) (h:c≤xs.length):dR xs none (some (c:Int))=xs.take c:=by
  have e0:HT.sIx xs.length 0 none=0:=by simp [HT.sIx]
  have e1:HT.sIx xs.length xs.length (some (c:Int))=c:=by
    simp only [HT.sIx];split <;> lia
  unfold dR;rw [e0,e1,List.drop_zero];rfl
theorem pO (xs:List V) (c:Nat) (h:c≤xs.length):dR xs (some (c:Int)) none=xs.drop c:=by
  have e0:HT.sIx xs.length xs.length none=xs.length:=by simp [HT.sIx]
  have e1:HT.sIx xs.length 0 (some (c:Int))=c:=by
    simp only [HT.sIx];split <;> lia
  unfold dR;rw [e0,e1,abx (by rw [abA];exact aah _)]
theorem vj {α:Type} {xs:List α} {r:Int} (h0:0≤r) (h1:r < (xs.length:Nat)):∃ u,atI xs r=some u∧u∈xs:=by
  obtain ⟨j,rfl⟩:∃ j:Nat,r=(j:Int):=⟨r.toNat,by lia⟩
  have hj:j < xs.length:=by lia
  exact ⟨xs[j],dn (aad hj),abp hj⟩
def sgAll:Str:=(" !\"#$&'(),./0123456789:;<=>?@ABCDEFGHIJKLMNOPQRSTUVWXYZ":Str)++("[\\]^_`abcdefghijklmnopqrstuvwxyz{|}~\n\t":Str)
theorem h_:sgAll.cps.toList.length=93∧sgAll.length=93:=by decide +kernel
theorem qo:∀ c∈sgAll.cps.toList,(sq (.str (("+":Str)++⟨#[c]⟩))=true∧(reprText (("+":Str)++⟨#[c]⟩)).length≤20)∧(sq (.str ⟨#[c]⟩)=true∧(reprText ⟨#[c]⟩).length≤20)∧(sq (.str ((⟨#[c]⟩:Str)++("*":Str)))=true∧(reprText ((⟨#[c]⟩:Str)++("*":Str))).length≤20):=by decide +kernel
theorem r_ {A B:List PyData} {d:PyData} (h:bW d=false):um (.list (A++[d]++B))=true:=by
  show (!(decide (1≤(A++[d]++B).length) && decide ((A++[d]++B).length≤9) && (A++[d]++B).all bW))=true;have : (A++[d]++B).all bW=false:=by
    rw [List.all_append,List.all_append];simp [h]
  rw [this];simp
def GsB (H:Hp) (u:V):Prop:=∃ d,Dat H d u∧OkD d∧szD d≤10∧d.depth≤3∧bW d=false
section
variable {P:Program} {w:World} {K:aab} {mg:Str→Option Value} {base:Heap} {f:Addr} {fd:FuncData}
def gp:Sp:=fun vs H Q _=>∃ wl z oz,vs=[.ref wl]∧Pot H wl∧H z=some oz∧z≠wl∧∀ u H',But wl H H'→Pot H' wl→Gq sq (bA wl z H') u→Q u H'
abbrev cK:Stmt:=top 59
theorem bu:FnScope ["pot","signs","any_sign","odd"] ["pot"] (ag cK):=⟨rfl,rfl,rfl,by decide +kernel,rfl,by decide +kernel,by decide +kernel⟩
theorem lK (F:Fun K "_law_no_signs" "_law_no_signs" cK f fd) (B:Bu K mg) (C__law_take:Cal P w K mg base "_law_take" 2 ["pot","many"] eX):FnOk P w K mg base CX0 3 f fd ["pot"] gp:=by
  refine F.ok bu (fun vs H Q E h=>?_) (fun cdv A outer s H vs Q E hr h=>?_)
  · obtain ⟨wl,z,oz,rfl,_⟩:=h;rfl
  obtain ⟨wl,z,oz,rfl,hw,ez,nz,q⟩:=h;refine ⟨_,(@af _ _ _ _ _ (@aw _ _ (1) _ _ _ _ (bu).nd rfl (Or.inl rfl) ax (by rfl) (by first|exact .inl rfl|exact .inr rfl|assumption)) (@af _ _ _ _ _ (@aw _ _ (1) _ _ _ _ (bu).nd rfl (Or.inl rfl) (@am _ _ _ _ _ _ _ _ de (pv 1) ax) (by rfl) (by first|exact .inl rfl|exact .inr rfl|assumption)) (@af _ _ _ _ _ (@aw _ _ (2) _ _ _ _ (bu).nd rfl (Or.inl rfl) (@aK _ _ _ _ _ _ _ uK (pv 1) (@al _ _ _ _ _ _ _ _ _ _ _ C__law_take hr (by lia) rfl (@aa _ _ _ _ _ (pv 0) (@aa _ _ _ _ _ (@ak _ _ _ _ _ _ _ _ _ gm rfl B.ilen aaY (@aa _ _ _ _ _ (pv 1) ad (by rfl)) (by decide) (by decide) (by rfl) (by rfl)) ad (by rfl)) (by rfl)) (by decide) (by rfl) (by rfl)) (fun _ _=>rfl)) (by rfl) (by first|exact .inl rfl|exact .inr rfl|assumption)) (@af _ _ _ _ _ (@aw _ _ (3) _ _ _ _ (bu).nd rfl (Or.inl rfl) (@az _ _ _ _ (@aa _ _ _ _ _ dc (@aa _ _ _ _ _ ae (@aa _ _ _ _ _ eV (@aa _ _ _ _ _ ax (@aa _ _ _ _ _ ax (@aa _ _ _ _ _ ax (@aa _ _ _ _ _ ax (@aa _ _ _ _ _ ax (@aa _ _ _ _ _ ax (@aa _ _ _ _ _ ax (@aa _ _ _ _ _ (@az _ _ _ _ (@aa _ _ _ _ _ ax ad (by rfl))) (@aa _ _ _ _ _ (@bc _ _ _ _ _ (@aa _ _ _ _ _ ax (@aa _ _ _ _ _ ax ad (by rfl)) (by rfl))) (@aa _ _ _ _ _ fk (@aa _ _ _ _ _ (@az _ _ _ _ ad) (@aa _ _ _ _ _ ax ad (by rfl)) (by rfl)) (by rfl)) (by rfl)) (by rfl)) (by rfl)) (by rfl)) (by rfl)) (by rfl)) (by rfl)) (by rfl)) (by rfl)) (by rfl)) (by rfl)) (by rfl))) (by rfl) (by first|exact .inl rfl|exact .inr rfl|assumption)) (@ai _ _ _ (@ar _ _ _ _ (@aK _ _ _ _ _ _ _ aQ (@am _ _ _ _ _ _ _ _ ft (pv 3) (@az _ _ _ _ (@aa _ _ _ _ _ (@am _ _ _ _ _ _ _ _ de ax (pv 2)) (@aa _ _ _ _ _ (pv 2) (@aa _ _ _ _ _ (@am _ _ _ _ _ _ _ _ de (pv 2) ax) ad (by rfl)) (by rfl)) (by rfl)))) (@al _ _ _ _ _ _ _ _ _ _ _ C__law_take hr (by lia) rfl (@aa _ _ _ _ _ (pv 0) (@aa _ _ _ _ _ ae ad (by rfl)) (by rfl)) (by decide) (by rfl) (by rfl)) (fun _ _=>rfl)))))))),?_⟩;have l93:sgAll.length≤sizeLine:=by rw [h_.2];decide
  refine ⟨_,rfl,_,_,rfl,rfl,(by decide +kernel),_,rfl,_,rfl,_,rfl,_,rfl,l93,wl,((sgAll.length:Nat):Int),rfl,by rw [h_.2];decide,by rw [h_.2];decide,hw,fun r1 H1 a1 b1 g1 hw1=>?_⟩;obtain ⟨c,hc,cm⟩:=vj (xs:=sgAll.cps.toList) a1 (by rw [h_.1];rw [h_.2] at b1;exact b1);obtain ⟨⟨c1,c2⟩,⟨c3,c4⟩,c5,c6⟩:=qo c cm;refine ⟨_,_,c,rfl,rfl,l93,hc,?_⟩;refine ⟨(by show 1≤sizeLine;decide),fun p1 n1=>⟨(by show 2≤sizeLine;decide),fun p2 n2=>fun p3 n3=>⟨(by show 0≤sizeLine;decide),fun p4 n4=>⟨(by show 15≤sizeLine;decide),fun p5 n5=>?_⟩⟩⟩⟩;have k1:=Same.new n1 (.lst [.str "+"]);have k2:=Same.new n2 (.tup [.str "+",.str "-"]);have k3:=Same.new n3 (.dK []);have k4:=Same.new n4 (.lst []);have k5:=Same.new n5 (.lst [.non,.int 5,.bl true,.str "",.str "-+",.str "*+",.str "*-+",.str "++",.str "+-*+",.str "+-+",.ref p1,.ref p2,.ref p3,.ref p4,.str "+ *"]);have K1:=k1;have K2:=K1.trans k2;have K3:=K2.trans k3;have K4:=K3.trans k4;have K5:=K4.trans k5;have ez1:=g1 _ _ nz ez;have w1:=hw1.ne n1;have z1:=cy ez1 (Same.refl _) n1;have w2:=(hw1.keep K1).ne n2;have z2:=cy ez1 K1 n2;have w3:=(hw1.keep K2).ne n3;have z3:=cy ez1 K2 n3;have w4:=(hw1.keep K3).ne n4;have z4:=cy ez1 K3 n4;have w5:=(hw1.keep K4).ne n5;have z5:=cy ez1 K4 n5;have e1:=k5 _ _ (k4 _ _ (k3 _ _ (k2 _ _ (ac (a:=p1)))));have e2:=k5 _ _ (k4 _ _ (k3 _ _ (ac (a:=p2))));have e3:=k5 _ _ (k4 _ _ (ac (a:=p3)));have e4:=k5 _ _ (ac (a:=p4));refine ⟨_,rfl,_,rfl,_,_,rfl,rfl,(by show 2≤sizeLine;decide),_,rfl,_,rfl,_,_,rfl,rfl,(by show 2≤sizeLine;decide),(by show 3≤sizeLine;decide),fun p6 n6=>⟨p5,p6,_,_,rfl,rfl,(Same.new n6 _) _ _ ac,ac,(by show 18≤sizeLine;decide),fun p7 n7=>?_⟩⟩;have k6:=Same.new n6 (.lst [.str (("+":Str)++⟨#[c]⟩),.str ⟨#[c]⟩,.str ((⟨#[c]⟩:Str)++("*":Str))]);have K6:=K5.trans k6;have k7:=Same.new n7 (.lst ([.non,.int 5,.bl true,.str "",.str "-+",.str "*+",.str "*-+",.str "++",.str "+-*+",.str "+-+",.ref p1,.ref p2,.ref p3,.ref p4,.str "+ *"]++[.str (("+":Str)++⟨#[c]⟩),.str ⟨#[c]⟩,.str ((⟨#[c]⟩:Str)++("*":Str))]));have K7:=K6.trans k7;have w7:=(hw1.keep K6).ne n7;have z7:=cy ez1 K6 n7;refine ⟨_,rfl,wl,18,rfl,by decide,by decide,hw1.keep K7,fun r3 H4 a3 b3 g3 hw4=>?_⟩;have f1:=(aY w1 z1).trans (g3 _ _ w1 (k7 _ _ (k6 _ _ e1)));have f2:=(aY w2 z2).trans (g3 _ _ w2 (k7 _ _ (k6 _ _ e2)));have f3:=(aY w3 z3).trans (g3 _ _ w3 (k7 _ _ (k6 _ _ e3)));have f4:=(aY w4 z4).trans (g3 _ _ w4 (k7 _ _ (k6 _ _ e4)));obtain ⟨u,hat,hm⟩:=qA (xs:=[.non,.int 5,.bl true,.str "",.str "-+",.str "*+",.str "*-+",.str "++",.str "+-*+",.str "+-+",.ref p1,.ref p2,.ref p3,.ref p4,.str "+ *"]++[.str (("+":Str)++⟨#[c]⟩),.str ⟨#[c]⟩,.str ((⟨#[c]⟩:Str)++("*":Str))]) a3 (by show r3 < 18;lia);refine ⟨p7,_,_,_,rfl,rfl,SqL.of (g3 _ _ w7 ac),hat,q u H4 (g1.trans ((But.of K7).trans g3)) hw4 ?_⟩;simp only [abL,List.nil_append,aai,abb,or_false] at hm;rcases hm with rfl|rfl|rfl|rfl|rfl|rfl|rfl|rfl|rfl|rfl|rfl|rfl|rfl|rfl|rfl|rfl|rfl|rfl
  · exact qZ rfl
  · exact q_ _ (by decide) rfl
  · exact tm _ rfl
  · exact cQ _ (by decide +kernel) (by decide +kernel)
  · exact cQ _ (by decide +kernel) (by decide +kernel)
  · exact cQ _ (by decide +kernel) (by decide +kernel)
  · exact cQ _ (by decide +kernel) (by decide +kernel)
  · exact cQ _ (by decide +kernel) (by decide +kernel)
  · exact cQ _ (by decide +kernel) (by decide +kernel)
  · exact cQ _ (by decide +kernel) (by decide +kernel)
  · exact eU f1 (vM "+") (by simp only [OkD,OkAll];decide +kernel) (by simp [szD,szAll]) (by simp [aaA,aaB]) rfl
  · exact nh (ds:=[.str "+",.str "-"]) f2 (by simp only [DatAll,Dat];exact ⟨_,_,rfl,rfl,_,_,rfl,rfl,rfl⟩) (by simp only [OkD,OkAll];decide +kernel) (by simp [szD,szAll]) (by simp [aaA,aaB]) rfl
  · exact oj f3 rfl
  · exact eU f4 rF (by simp only [OkAll]) (by simp [szAll]) (by simp [aaB]) rfl
  · exact cQ _ (by decide +kernel) (by decide +kernel)
  · exact cQ _ c2 c1
  · exact cQ _ c4 c3
  · exact cQ _ c6 c5
def jY:Sp:=fun vs H Q _=>∃ wl z oz r ns,vs=[.ref wl,.ref r]∧Pot H wl∧H z=some oz∧z≠wl∧H r=some (.lst (ns.map V.int))∧r≠wl∧r≠z∧ns.length≤9∧Small ns∧∀ u H',But wl H H'→Pot H' wl→Gq um (bA wl z H') u→Q u H'
abbrev dC:Stmt:=top 58
theorem ck:FnScope ["pot","row","at","bad","odd"] ["pot","row"] (ag dC):=⟨rfl,rfl,rfl,by decide +kernel,rfl,by decide +kernel,by decide +kernel⟩
theorem oQ (F:Fun K "_law_no_row" "_law_no_row" dC f fd) (B:Bu K mg) (C__law_take:Cal P w K mg base "_law_take" 2 ["pot","many"] eX):FnOk P w K mg base CX0 3 f fd ["pot","row"] jY:=by
  refine F.ok ck (fun vs H Q E h=>?_) (fun cdv A outer s H vs Q E hr h=>?_)
  · obtain ⟨wl,z,oz,r,ns,rfl,_⟩:=h;rfl
  obtain ⟨wl,z,oz,r,ns,rfl,hw,ez,nz,er,nr,nrz,n9,sm,q⟩:=h;refine ⟨_,(@af _ _ _ _ _ (@aw _ _ (2) _ _ _ _ (ck).nd rfl (Or.inl rfl) (@al _ _ _ _ _ _ _ _ _ _ _ C__law_take hr (by lia) rfl (@aa _ _ _ _ _ (pv 0) (@aa _ _ _ _ _ (@am _ _ _ _ _ _ _ _ bB (@ak _ _ _ _ _ _ _ _ _ aI rfl B.ilen aaY (@aa _ _ _ _ _ (pv 1) ad (by rfl)) (by decide) (by decide) (by rfl) (by rfl)) ae) ad (by rfl)) (by rfl)) (by decide) (by rfl) (by rfl)) (by rfl) (by first|exact .inl rfl|exact .inr rfl|assumption)) (@af _ _ _ _ _ (@aw _ _ (3) _ _ _ _ (ck).nd rfl (Or.inl rfl) (@aK _ _ _ _ _ _ _ aQ (@az _ _ _ _ (@aa _ _ _ _ _ dc (@aa _ _ _ _ _ eV (@aa _ _ _ _ _ eV (@aa _ _ _ _ _ ax (@aa _ _ _ _ _ (@az _ _ _ _ (@aa _ _ _ _ _ ae ad (by rfl))) (@aa _ _ _ _ _ (@bc _ _ _ _ _ (@aa _ _ _ _ _ ae ad (by rfl))) (@aa _ _ _ _ _ fk (@aa _ _ _ _ _ ax ad (by rfl)) (by rfl)) (by rfl)) (by rfl)) (by rfl)) (by rfl)) (by rfl)) (by rfl))) (@al _ _ _ _ _ _ _ _ _ _ _ C__law_take hr (by lia) rfl (@aa _ _ _ _ _ (pv 0) (@aa _ _ _ _ _ ae ad (by rfl)) (by rfl)) (by decide) (by rfl) (by rfl)) (fun _ _=>rfl)) (by rfl) (by first|exact .inl rfl|exact .inr rfl|assumption)) (@af _ _ _ _ _ (@aw _ _ (4) _ _ _ _ (ck).nd rfl (Or.inl rfl) (@az _ _ _ _ (@aa _ _ _ _ _ dc (@aa _ _ _ _ _ ae (@aa _ _ _ _ _ eV (@aa _ _ _ _ _ ax (@aa _ _ _ _ _ fk (@aa _ _ _ _ _ (@bc _ _ _ _ _ ad) (@aa _ _ _ _ _ (@az _ _ _ _ ad) (@aa _ _ _ _ _ (@jv _ _ _ _ _ _ _ _ _ jm rfl B.ituple ab7 (@aa _ _ _ _ _ (pv 1) ad (by rfl)) (by decide) (by decide) (by rfl) (by rfl)) (@aa _ _ _ _ _ (@az _ _ _ _ (@aa _ _ _ _ _ (pv 1) ad (by rfl))) (@aa _ _ _ _ _ (@am _ _ _ _ _ _ _ _ ko (@az _ _ _ _ (@aa _ _ _ _ _ ae ad (by rfl))) ae) (@aa _ _ _ _ _ (@am _ _ _ _ _ _ _ _ ko (@az _ _ _ _ (@aa _ _ _ _ _ ae ad (by rfl))) ae) ad (by rfl)) (by rfl)) (by rfl)) (by rfl)) (by rfl)) (by rfl)) (by rfl)) (by rfl)) (by rfl)) (by rfl)) (by rfl))) (by rfl) (by first|exact .inl rfl|exact .inr rfl|assumption)) (@ai _ _ _ (@ar _ _ _ _ (@aK _ _ _ _ _ _ _ aQ (@am _ _ _ _ _ _ _ _ ft (pv 4) (@am _ _ _ _ _ _ _ _ ko (@az _ _ _ _ (@aa _ _ _ _ _ (@am _ _ _ _ _ _ _ _ ft (@am _ _ _ _ _ _ _ _ ft (@gg _ _ _ _ _ _ _ _ _ _ gX (pv 1) g0 (@gZ _ _ _ (pv 2))) (@az _ _ _ _ (@aa _ _ _ _ _ (pv 3) ad (by rfl)))) (@gg _ _ _ _ _ _ _ _ _ _ gX (pv 1) (@gZ _ _ _ (pv 2)) g0)) ad (by rfl))) ae)) (@al _ _ _ _ _ _ _ _ _ _ _ C__law_take hr (by lia) rfl (@aa _ _ _ _ _ (pv 0) (@aa _ _ _ _ _ ae ad (by rfl)) (by rfl)) (by decide) (by rfl) (by rfl)) (fun _ _=>rfl))))))),?_⟩;have hl:(ns.map V.int).length=ns.length:=aak _;refine ⟨_,rfl,_,rfl,r,_,rfl,.inl (SqL.of er),_,_,rfl,rfl,wl,((ns.map V.int).length:Nat)+1,rfl,by lia,by rw [hl];lia,hw,fun at' H1 a1 b1 g1 hw1=>?_⟩;rw [hl] at b1;refine ⟨(by show 1≤sizeLine;decide),fun p1 n1=>⟨(by show 1≤sizeLine;decide),fun p2 n2=>fun p3 n3=>⟨(by show 8≤sizeLine;decide),fun p4 n4=>?_⟩⟩⟩;have k1:=Same.new n1 (.lst [.int 1]);have k2:=Same.new n2 (.tup [.int 1]);have k3:=Same.new n3 (.dK []);have k4:=Same.new n4 (.lst [.non,.bl true,.bl false,.str "1",.ref p1,.ref p2,.ref p3,.str ""]);have K1:=k1;have K2:=K1.trans k2;have K3:=K2.trans k3;have K4:=K3.trans k4;have ez1:=g1 _ _ nz ez;have w1:=hw1.ne n1;have z1:=cy ez1 (Same.refl _) n1;have w2:=(hw1.keep K1).ne n2;have z2:=cy ez1 K1 n2;have w3:=(hw1.keep K2).ne n3;have z3:=cy ez1 K2 n3;have w4:=(hw1.keep K3).ne n4;have z4:=cy ez1 K3 n4;have e1:=k4 _ _ (k3 _ _ (k2 _ _ (ac (a:=p1))));have e2:=k4 _ _ (k3 _ _ (ac (a:=p2)));have e3:=k4 _ _ (ac (a:=p3));refine ⟨_,rfl,wl,8,rfl,by decide,by decide,hw1.keep K4,fun r2 H2 a2 b2 g2 hw2=>?_⟩;obtain ⟨bad,hat,hm⟩:=qA (xs:=[.non,.bl true,.bl false,.str "1",.ref p1,.ref p2,.ref p3,.str ""]) a2 (by show r2 < 8;lia);have gb:GsB (bA wl z H2) bad:=by
    have f1:=(aY w1 z1).trans (g2 _ _ w1 e1);have f2:=(aY w2 z2).trans (g2 _ _ w2 e2);have f3:=(aY w3 z3).trans (g2 _ _ w3 e3);simp only [aai,abb,or_false] at hm;rcases hm with rfl|rfl|rfl|rfl|rfl|rfl|rfl|rfl
    · exact ⟨.none,by simp only [Dat],by simp only [OkD],by simp [szD],by simp [aaA],rfl⟩
    · exact ⟨.bool true,by simp only [Dat],by simp only [OkD],by simp [szD],by simp [aaA],rfl⟩
    · exact ⟨.bool false,by simp only [Dat],by simp only [OkD],by simp [szD],by simp [aaA],rfl⟩
    · exact ⟨.str "1",by simp only [Dat],by simp only [OkD];decide +kernel,by simp [szD],by simp [aaA],rfl⟩
    · exact ⟨.list [.int 1],by simp only [Dat];exact ⟨p1,_,rfl,f1,tw 1⟩,by simp only [OkD,OkAll];decide,by simp [szD,szAll],by simp [aaA,aaB],rfl⟩
    · exact ⟨.tuple [.int 1],by simp only [Dat];exact ⟨p2,_,rfl,f2,tw 1⟩,by simp only [OkD,OkAll];decide,by simp [szD,szAll],by simp [aaA,aaB],rfl⟩
    · exact ⟨.dict [],by simp only [Dat,DatKv];exact ⟨p3,_,rfl,f3,rfl⟩,by simp only [OkD],by simp [szD],by simp [aaA,acj],rfl⟩
    · exact ⟨.str "",by simp only [Dat],by simp only [OkD];decide +kernel,by simp [szD],by simp [aaA],rfl⟩
  refine ⟨p4,_,_,_,rfl,rfl,SqL.of (g2 _ _ w4 ac),hat,?_⟩;have B2:But wl H H2:=g1.trans ((But.of K4).trans g2);have er2:=B2 _ _ nr er;have ez2:=B2 _ _ nz ez;clear k1 k2 k3 k4 K1 K2 K3 K4 w1 w2 w3 w4 z1 z2 z3 z4 e1 e2 e3 hm hat;have t1:(1:Nat)≤sizeLine:=by decide
  have l9:∀ a b,(dR (ns.map V.int) a b).length≤9:=fun a b=>by
    have:=List.length_take_le' (HT.sIx (ns.map V.int).length (ns.map V.int).length b - HT.sIx (ns.map V.int).length 0 a) ((ns.map V.int).drop (HT.sIx (ns.map V.int).length 0 a));unfold dR;rw [abA] at this;lia
  refine fun q1 m1=>⟨(by show 0≤sizeLine;decide),fun q2 m2=>⟨(by show 0≤sizeLine;decide),fun q3 m3=>⟨_,rfl,r,_,rfl,.inl ⟨SqL.of ((Same.new m3 _) _ _ ((Same.new m2 _) _ _ ((Same.new m1 _) _ _ er2))),fun q4 m4=>?_⟩⟩⟩⟩
  refine ⟨_,rfl,t1,fun q5 m5=>⟨t1,fun q6 m6=>⟨q6,10,_,rfl,rfl,ac,by decide,by decide,(by decide),fun q7 m7=>⟨t1,fun q8 m8=>⟨q8,11,_,rfl,rfl,ac,by decide,by decide,(by decide),fun q9 m9=>⟨(by show 11≤sizeLine;decide),fun q10 m10=>?_⟩⟩⟩⟩⟩⟩;have k1:=Same.new m1 (.dK []);have k2:=Same.new m2 (.tup []);have k3:=Same.new m3 (.lst []);have k4:=Same.new m4 (.tup (ns.map V.int));have k5:=Same.new m5 (.lst [.ref r]);have k6:=Same.new m6 (.lst [.int 1]);have k7:=Same.new m7 (.lst (aaw (10:Int).toNat [V.int 1]).flatten);have k8:=Same.new m8 (.lst [.int 0]);have k9:=Same.new m9 (.lst (aaw (11:Int).toNat [V.int 0]).flatten);have k10:=Same.new m10 (.lst [.non,.int 5,.bl true,.str "12",.ref q1,.ref q2,.ref q3,.ref q4,.ref q5,.ref q7,.ref q9]);have K1:=k1;have K2:=K1.trans k2;have K3:=K2.trans k3;have K4:=K3.trans k4;have K5:=K4.trans k5;have K6:=K5.trans k6;have K7:=K6.trans k7;have K8:=K7.trans k8;have K9:=K8.trans k9;have K10:=K9.trans k10;have w1:=hw2.ne m1;have z1:=cy ez2 (Same.refl _) m1;have w2:=(hw2.keep K1).ne m2;have z2:=cy ez2 K1 m2;have w3:=(hw2.keep K2).ne m3;have z3:=cy ez2 K2 m3;have w4:=(hw2.keep K3).ne m4;have z4:=cy ez2 K3 m4;have w5:=(hw2.keep K4).ne m5;have z5:=cy ez2 K4 m5;have w6:=(hw2.keep K5).ne m6;have z6:=cy ez2 K5 m6;have w7:=(hw2.keep K6).ne m7;have z7:=cy ez2 K6 m7;have w8:=(hw2.keep K7).ne m8;have z8:=cy ez2 K7 m8;have w9:=(hw2.keep K8).ne m9;have z9:=cy ez2 K8 m9;have w10:=(hw2.keep K9).ne m10;have z10:=cy ez2 K9 m10;have erA:=K10 _ _ er2;refine ⟨_,rfl,_,rfl,_,rfl,at',rfl,r,_,rfl,SqL.of erA,fun q11 m11=>⟨_,rfl,t1,fun q12 m12=>⟨q11,q12,_,_,rfl,rfl,(Same.new m12 _) _ _ ac,ac,dj (by have:=l9 none (some at');simp only [aaD,aba];lia),fun q13 m13=>?_⟩⟩⟩;have k11:=Same.new m11 (.lst (dR (ns.map V.int) none (some at')));have K11:=K10.trans k11;have w11:=(hw2.keep K10).ne m11;have z11:=cy ez2 K10 m11;have k12:=Same.new m12 (.lst [bad]);have K12:=K11.trans k12;have w12:=(hw2.keep K11).ne m12;have z12:=cy ez2 K11 m12;have k13:=Same.new m13 (.lst (dR (ns.map V.int) none (some at')++[bad]));have K13:=K12.trans k13;have w13:=(hw2.keep K12).ne m13;have z13:=cy ez2 K12 m13;refine ⟨_,rfl,_,rfl,at',rfl,r,_,rfl,SqL.of (K13 _ _ er2),fun q14 m14=>⟨q13,q14,_,_,rfl,rfl,(Same.new m14 _) _ _ ac,ac,dj (by have:=l9 none (some at');have:=l9 (some at') none;simp only [aan,aaD,aba];lia),fun q15 m15=>⟨t1,fun q16 m16=>⟨q16,5,_,rfl,rfl,ac,by decide,by decide,(by show 1 * 5≤sizeLine;decide),fun q17 m17=>?_⟩⟩⟩⟩;have k14:=Same.new m14 (.lst (dR (ns.map V.int) (some at') none));have K14:=K13.trans k14;have w14:=(hw2.keep K13).ne m14;have z14:=cy ez2 K13 m14;have k15:=Same.new m15 (.lst (dR (ns.map V.int) none (some at')++[bad]++dR (ns.map V.int) (some at') none));have K15:=K14.trans k15;have w15:=(hw2.keep K14).ne m15;have z15:=cy ez2 K14 m15;have k16:=Same.new m16 (.lst [.ref q15]);have K16:=K15.trans k16;have w16:=(hw2.keep K15).ne m16;have z16:=cy ez2 K15 m16;have k17:=Same.new m17 (.lst (aaw (5:Int).toNat [V.ref q15]).flatten);have K17:=K16.trans k17;have w17:=(hw2.keep K16).ne m17;have z17:=cy ez2 K16 m17;have e17:=k17 _ _ (k16 _ _ (k15 _ _ (k14 _ _ (k13 _ _ (k12 _ _ (k11 _ _ (ac (a:=q10) (o:=.lst [.non,.int 5,.bl true,.str "12",.ref q1,.ref q2,.ref q3,.ref q4,.ref q5,.ref q7,.ref q9]) (H:=_))))))));refine ⟨q10,q17,_,_,rfl,rfl,e17,ac,(by show 16≤sizeLine;decide),fun q18 m18=>?_⟩;have k18:=Same.new m18 (.lst ([.non,.int 5,.bl true,.str "12",.ref q1,.ref q2,.ref q3,.ref q4,.ref q5,.ref q7,.ref q9]++(aaw (5:Int).toNat [V.ref q15]).flatten));have K18:=K17.trans k18;have w18:=(hw2.keep K17).ne m18;have z18:=cy ez2 K17 m18;have e1:=k18 _ _ (k17 _ _ (k16 _ _ (k15 _ _ (k14 _ _ (k13 _ _ (k12 _ _ (k11 _ _ (k10 _ _ (k9 _ _ (k8 _ _ (k7 _ _ (k6 _ _ (k5 _ _ (k4 _ _ (k3 _ _ (k2 _ _ (ac (a:=q1))))))))))))))))));have e2:=k18 _ _ (k17 _ _ (k16 _ _ (k15 _ _ (k14 _ _ (k13 _ _ (k12 _ _ (k11 _ _ (k10 _ _ (k9 _ _ (k8 _ _ (k7 _ _ (k6 _ _ (k5 _ _ (k4 _ _ (k3 _ _ (ac (a:=q2)))))))))))))))));have e3:=k18 _ _ (k17 _ _ (k16 _ _ (k15 _ _ (k14 _ _ (k13 _ _ (k12 _ _ (k11 _ _ (k10 _ _ (k9 _ _ (k8 _ _ (k7 _ _ (k6 _ _ (k5 _ _ (k4 _ _ (ac (a:=q3))))))))))))))));have e4:=k18 _ _ (k17 _ _ (k16 _ _ (k15 _ _ (k14 _ _ (k13 _ _ (k12 _ _ (k11 _ _ (k10 _ _ (k9 _ _ (k8 _ _ (k7 _ _ (k6 _ _ (k5 _ _ (ac (a:=q4)))))))))))))));have e5:=k18 _ _ (k17 _ _ (k16 _ _ (k15 _ _ (k14 _ _ (k13 _ _ (k12 _ _ (k11 _ _ (k10 _ _ (k9 _ _ (k8 _ _ (k7 _ _ (k6 _ _ (ac (a:=q5))))))))))))));have e7:=k18 _ _ (k17 _ _ (k16 _ _ (k15 _ _ (k14 _ _ (k13 _ _ (k12 _ _ (k11 _ _ (k10 _ _ (k9 _ _ (k8 _ _ (ac (a:=q7))))))))))));have e9:=k18 _ _ (k17 _ _ (k16 _ _ (k15 _ _ (k14 _ _ (k13 _ _ (k12 _ _ (k11 _ _ (k10 _ _ (ac (a:=q9))))))))));have e15:=k18 _ _ (k17 _ _ (k16 _ _ (ac (a:=q15))));refine ⟨_,rfl,wl,16,rfl,by decide,by decide,hw2.keep K18,fun r3 H4 a3 b3 g3 hw4=>?_⟩;have f1:=(aY w1 z1).trans (g3 _ _ w1 e1);have f2:=(aY w2 z2).trans (g3 _ _ w2 e2);have f3:=(aY w3 z3).trans (g3 _ _ w3 e3);have f4:=(aY w4 z4).trans (g3 _ _ w4 e4);have f5:=(aY w5 z5).trans (g3 _ _ w5 e5);have f7:=(aY w7 z7).trans (g3 _ _ w7 e7);have f9:=(aY w9 z9).trans (g3 _ _ w9 e9);have f15:=(aY w15 z15).trans (g3 _ _ w15 e15);have fr:=(aY nr nrz).trans (g3 _ _ nr (K18 _ _ er2));have gb4:GsB (bA wl z H4) bad:=by
    obtain ⟨d,h1,h2⟩:=gb;exact ⟨d,Dat.mono (dM ((But.of K18).trans g3)) d bad h1,h2⟩
  obtain ⟨u,hat,hm⟩:=qA (xs:=[.non,.int 5,.bl true,.str "12",.ref q1,.ref q2,.ref q3,.ref q4,.ref q5,.ref q7,.ref q9]++(aaw (5:Int).toNat [V.ref q15]).flatten) a3 (by show r3 < 16;lia);refine ⟨q18,_,_,_,rfl,rfl,SqL.of (g3 _ _ w18 ac),hat,q u H4 (B2.trans ((But.of K18).trans g3)) hw4 ?_⟩;have g15:Gq um (bA wl z H4) (.ref q15):=by
    obtain ⟨d0,h1,h2,h3,h4,h5⟩:=gb4;obtain ⟨j,rfl⟩:=Int.eq_ofNat_of_zero_le a1;have hj:j≤(ns.map V.int).length:=by rw [hl];lia
    have e15':bA wl z H4 q15=some (.lst ((ns.take j).map V.int++[bad]++(ns.drop j).map V.int)):=by
      have:=f15;rw [pN _ j hj,pO _ j hj,← List.map_take,← List.map_drop] at this;exact this
    refine eU (ds:=(ns.take j).map PyData.int++[d0]++(ns.drop j).map PyData.int) e15' (((bf _).app (by simp only [DatAll];exact ⟨_,_,rfl,h1,rfl⟩)).app (bf _)) (mR (mR (bz (sm.take j)) (by simp only [OkAll];exact ⟨h2,trivial⟩)) (bz (sm.drop j))) ?_ ?_ (r_ h5)
    · rw [mv,mv,cb,cb,aaE,abA];simp only [szAll];lia
    · rw [nu,nu,ci,ci];simp only [aaB];lia
  have hm2:u∈[.non,.int 5,.bl true,.str "12",.ref q1,.ref q2,.ref q3,.ref q4,.ref q5,.ref q7,.ref q9,.ref q15]:=by
    rcases aau.mp hm with z|z
    · exact aaz ([V.ref q15]:List V) z
    · have : u=.ref q15:=by
        have : u∈[V.ref q15,.ref q15,.ref q15,.ref q15,.ref q15]:=z;simpa using this
      rw [this];exact aaa ([.non,.int 5,.bl true,.str "12",.ref q1,.ref q2,.ref q3,.ref q4,.ref q5,.ref q7,.ref q9]:List V) aav
  simp only [aai,abb,or_false] at hm2;rcases hm2 with rfl|rfl|rfl|rfl|rfl|rfl|rfl|rfl|rfl|rfl|rfl|rfl
  · exact qZ rfl
  · exact q_ _ (by decide) rfl
  · exact tm _ rfl
  · exact cQ _ (by decide +kernel) rfl
  · exact oj f1 rfl
  · exact nh f2 rF (by simp only [OkAll]) (by simp [szAll]) (by simp [aaB]) rfl
  · exact eU f3 rF (by simp only [OkAll]) (by simp [szAll]) (by simp [aaB]) rfl
  · exact nh f4 (bf ns) (bz sm) (by rw [cb];lia) (by rw [ci];lia) rfl
  · exact eU (ds:=[.list (ns.map PyData.int)]) f5 (by simp only [DatAll,Dat];exact ⟨_,_,rfl,⟨r,_,rfl,fr,bf ns⟩,rfl⟩) (by simp only [OkAll,OkD];exact ⟨bz sm,trivial⟩) (by simp only [szAll,szD,cb];lia) (by simp only [aaB,aaA,ci];lia) rfl
  · exact eU (ds:=(aaw 10 (1:Int)).map PyData.int) f7 (bf (aaw 10 1)) (bz (fun i hi=>by have:=ab2 hi;lia)) (by decide) (by decide) rfl
  · exact eU (ds:=(aaw 11 (0:Int)).map PyData.int) f9 (bf (aaw 11 0)) (bz (fun i hi=>by have:=ab2 hi;lia)) (by decide) (by decide) rfl
  · exact g15
end
open PySem L2
theorem rG (ns:List Int) (lo hi:Option Int):∃ ms:List Int,dR (ns.map V.int) lo hi=ms.map V.int∧ms.length≤ns.length∧ms.length≤HT.sIx ns.length ns.length hi:=by
  refine ⟨(ns.drop (HT.sIx ns.length 0 lo)).take (HT.sIx ns.length ns.length hi - HT.sIx ns.length 0 lo),?_,?_,?_⟩
  · unfold dR;rw [aak,List.map_take,List.map_drop]
  · rw [aaE,abA];lia
  · rw [aaE,abA];lia
theorem tj {b:Bool} (h:(!b)=true):b=false:=by cases b <;> simp_all
theorem tS {gs:List Sg} (h:cR gs):bV (.str (aq gs))=true:=h
theorem rZ {ns:List Int} (h1:1≤ns.length) (h9:ns.length≤9):bi (.list (ns.map PyData.int))=true:=by
  show (decide (1≤(ns.map PyData.int).length) && decide ((ns.map PyData.int).length≤9) && (ns.map PyData.int).all bW)=true;have : (ns.map PyData.int).all bW=true:=by
    rw [List.all_map,aaH];exact fun _ _=>rfl
  rw [this,aak,decide_eq_true h1,decide_eq_true h9];rfl
theorem sQ {K:aab} {H:Hp} {xs:List V} (h:∀ x∈xs,dQ x=true):∀ (j:Nat) x y,xs[j]?=some x→xs[j]?=some y→EqR K H 0 x y true:=fun j x y hx hy=>by
  rw [hx] at hy;cases hy;have hf:=h x (aaP hx);have:=EqR.flat (K:=K) (H:=H) (n:=0) (x:=x) (y:=x) hf hf;rw [l6 hf] at this;exact this
theorem rP (n:Nat):(abj n).all (fun _=>true)=true:=by simp
theorem LT.ne {T a:Addr} {H:Hp} {o:HO} (h:LT T H) (e:H a=some o) (n:∀ ps,o≠.tbl ps):a≠T:=fun z=>by
  obtain ⟨tp,h⟩:=h;rw [z,h.tab] at e;injection e with e
  exact n _ e.symm
theorem LT.ne_new {T p:Addr} {H:Hp} (h:LT T H) (n:H p=none):p≠T:=fun z=>by
  obtain ⟨tp,h⟩:=h;have e:=h.tab;rw [← z,n] at e;cases e
theorem LT.pot {T wl:Addr} {H H':Hp} (h:LT T H) (w:Pot H wl) (b:But wl H H'):LT T H':=by
  obtain ⟨x,y,z,e⟩:=w;obtain ⟨tp,h⟩:=h;refine ⟨tp,b _ _ (fun q=>by have z:=h.tab;rw [q,e] at z;cases z) h.tab,h.tri,fun pos' cv hc=>?_⟩;obtain ⟨d,e1,e2⟩:=h.cds pos' cv hc;exact ⟨d,e1,b _ _ (fun q=>by rw [q,e] at e2;cases e2) e2⟩
theorem fE {w z:Addr} {H:Hp}:Same (bA w z H) H:=fun c o h=>by
  unfold bA off at h;by_cases c1:c=z
  · rw [if_pos c1] at h;cases h
  · rw [if_neg c1] at h;by_cases c2:c=w
    · rw [if_pos c2] at h;cases h
    · rw [if_neg c2] at h;exact h
theorem cf {w z:Addr} {H H':Hp} (s:Same H H'):Same (bA w z H) (bA w z H'):=dM (But.of s)
theorem dL {w z:Addr} {H H':Hp} (b:But z H H'):Same (bA w z H) (bA w z H'):=fun c o h=>by
  unfold bA off at h ⊢;by_cases c1:c=z
  · rw [if_pos c1] at h;cases h
  · rw [if_neg c1] at h ⊢;by_cases c2:c=w
    · rw [if_pos c2] at h;cases h
    · rw [if_neg c2] at h ⊢;exact b c o c1 h
theorem pr5 {a b c d e:PyData} (h1:PrD a) (h2:PrD b) (h3:PrD c) (h4:PrD d) (h5:PrD e):(PyData.list [a,b,c,d,e]).showable=true∧(PyData.list [a,b,c,d,e]).depth≤60∧(PyData.list [a,b,c,d,e]).shown.length≤sizeLine:=by
  obtain ⟨a1,a2,a3⟩:=h1;obtain ⟨b1,b2,b3⟩:=h2;obtain ⟨c1,c2,c3⟩:=h3;obtain ⟨d1,d2,d3⟩:=h4;obtain ⟨e1,e2,e3⟩:=h5;refine ⟨?_,?_,?_⟩
  · simp only [abg,ab6,a1,b1,c1,d1,e1,Bool.and_self]
  · simp only [aaA,aaB];lia
  · have z:=listText_len_le (abH [a,b,c,d,e]);simp only [acn];simp only [abH,aaF,abB,List.sum_cons,List.sum_nil,aaD,aba] at z ⊢;exact aaK (show _≤700000 by lia) (by rw [sizeLine_eq];decide)
theorem t_ {ns:List Int} (sm:Small ns) (h:ns.length≤9):PrD (.list (ns.map PyData.int)):=fj (by simp only [OkD];exact bz sm) (by simp only [szD,cb];lia) (by simp only [aaA,ci];lia)
theorem mx:∀ gs:List Sg,gs.length≤3→cR gs→gs=[.plus]∨gs=[.minus]∨gs=[.times]∨gs=[.plus,.minus]∨gs=[.plus,.times]∨gs=[.minus,.times]∨gs=[.plus,.minus,.times]
  | [],_,h=>absurd h (by unfold cR;decide +kernel)
  | [a],_,_=>by cases a <;> simp
  | [a,b],_,h=>by
    cases a <;> cases b <;> first|decide|exact absurd h (by unfold cR;decide +kernel)
  | [a,b,c],_,h=>by
    cases a <;> cases b <;> cases c <;> first|decide|exact absurd h (by unfold cR;decide +kernel)
  | _ :: _ :: _ :: _ :: _,h,_=>by simp at h
theorem gK:∀ {a b:List Int},a.map V.int=b.map V.int→a=b
  | [],[],_=>rfl
  | [],_ :: _,h=>by simp at h
  | _ :: _,[],h=>by simp at h
  | x :: a,y :: b,h=>by
    simp only [aaF,List.cons.injEq,V.int.injEq] at h;rw [h.1,gK h.2]
theorem Wy.bd_12:(Wy.node .plus (.num 1) (.num 2)).bd:=by
  refine ⟨?_,?_,?_⟩
  · show (1:Int).natAbs≤10 ^ (30 * 1);decide
  · show (2:Int).natAbs≤10 ^ (30 * 1);decide
  · show (3:Int).natAbs≤10 ^ (30 * 2);decide
theorem tZ {n:Int} {gs:List Sg} (h:-1000000000000 < n∧n < 1000000000000) (g3:gs.length≤3) (sp:cR gs):PrD (.tuple [.int n,.str (aq gs)]):=by
  refine fj (d:=.tuple [.int n,.str (aq gs)]) ?_ (by simp [szD,szAll]) (by simp [aaA,aaB]);simp only [OkD,OkAll];have e:(10:Nat) ^ 13=10000000000000:=by decide
  refine ⟨by rw [e];lia,?_,trivial⟩;rcases mx gs g3 sp with rfl|rfl|rfl|rfl|rfl|rfl|rfl <;> decide +kernel
theorem nU {m n:Int} (h1:m.natAbs < 10 ^ 13) (h2:n.natAbs < 10 ^ 13):(PyData.tuple [.int m,.int n]).showable=true∧(PyData.tuple [.int m,.int n]).depth≤5∧(PyData.tuple [.int m,.int n]).shown.length≤1000:=by
  have ok:OkD (.tuple [.int m,.int n]):=by simp only [OkD,OkAll];exact ⟨h1,h2,trivial⟩
  have l:=mL _ ok;have z:szD (.tuple [.int m,.int n])≤5:=by simp [szD,szAll]
  exact ⟨kq _ ok,by simp [aaA,aaB],by lia⟩
theorem qy {m n:Int} (h1:-1000000000000 < m∧m < 1000000000000) (h2:-1000000000000 < n∧n < 1000000000000):PrD (.dict [(.tuple ((ky (0,0)).map pA),.tuple [.int m,.int n])]):=by
  have e:(10:Nat) ^ 13=10000000000000:=by decide
  obtain ⟨v1,v2,v3⟩:=nU (m:=m) (n:=n) (by rw [e];lia) (by rw [e];lia);obtain ⟨k1,k2,k3⟩:=nU (m:=0) (n:=0) (by decide) (by decide);show PrD (.dict [(.tuple [.int 0,.int 0],.tuple [.int m,.int n])]);generalize PyData.tuple [.int 0,.int 0]=k at k1 k2 k3 ⊢;generalize PyData.tuple [.int m,.int n]=v at v1 v2 v3 ⊢;refine ⟨?_,?_,?_⟩
  · simp only [abg,PyData.showableKv,k1,v1,Bool.and_self]
  · simp only [aaA,acj];lia
  · have z:=dictText_len_le (PyData.shownKv [(k,v)]);simp only [acn];simp only [PyData.shownKv,aaF,abB,List.sum_cons,List.sum_nil,aaD,aba,strLen_append] at z ⊢;have : (": ":Str).length=2:=by decide
    lia
def Wz (H:Hp) (x:V):Prop:=∃ d,Dat H d x∧PrD d∧(cO d=true→∃ w:Wy,WyIn H w x∧w.size≤9∧w.bd)
theorem Wz.mono {H H':Hp} {x:V} (g:Same H H') (h:Wz H x):Wz H' x:=by
  obtain ⟨d,a,p,b⟩:=h;exact ⟨d,Dat.mono g d x a,p,fun z=>by obtain ⟨w,c,e⟩:=b z;exact ⟨w,c.mono (Tups.of g),e⟩⟩
def Pz (H:Hp) (t:V):Prop:=Pp H t∧∃ d,DatT H d t∧PrD d
def fW:List V:=[.str "row",.str "row",.str "signs",.str "told"]
theorem sP:∀ x∈fW,dQ x=true:=by decide +kernel
section
variable {P:Program} {w:World} {K:aab} {mg:Str→Option Value} {base:Heap} {f:Addr} {fd:FuncData}
def nM (K:aab) (T:Addr):Sp:=fun vs H Q _=>∃ (a:Addr) (ns:List Int),vs=[.ref a]∧SqL K H a (ns.map V.int)∧ns.length≤63∧LT T H∧∀ H',Q (.bl true) H'
abbrev gc:Stmt:=top 63
theorem cI:FnScope ["script","cell","pot","turn","row","signs","none","odd","way","thing","kept","at","words"] ["script"] (ag gc):=⟨rfl,rfl,rfl,by decide +kernel,rfl,by decide +kernel,by decide +kernel⟩
theorem uz {T:Addr} (F:Fun K "law" "law" gc f fd) (B:Bu K mg) (C__law_pot:Cal P w K mg base "_law_pot" 1 ["cell"] qj) (C__law_take:Cal P w K mg base "_law_take" 2 ["pot","many"] eX) (C__law_row:Cal P w K mg base "_law_row" 4 ["pot","many"] mz) (C__law_signs:Cal P w K mg base "_law_signs" 3 ["pot"] g9)
    (C__law_no_row:Cal P w K mg base "_law_no_row" 3 ["pot","row"] jY) (C__law_no_signs:Cal P w K mg base "_law_no_signs" 3 ["pot"] gp) (C__law_word:Cal P w K mg base "_law_word" 25 ["at","row","signs","way","thing"] (my T)):FnOk P w K mg base CX0 26 f fd ["script"] (nM K T):=by
  refine F.ok cI (fun vs H Q E h=>?_) (fun cdv A outer s H vs Q E hr h=>?_)
  · obtain ⟨a,ns,rfl,_⟩:=h;rfl
  obtain ⟨a,ns,rfl,hS,h63,hT,q⟩:=h;refine ⟨_,(@af _ _ _ _ _ (@fi _ _ _ _ _ _ _ _ abn rfl (@eA _ _ _ _ (@am _ _ _ _ _ _ _ _ ft (@gg _ _ _ _ _ _ _ _ _ _ gX (pv 0) g0 (@gZ _ _ _ ae)) (@az _ _ _ _ (@aa _ _ _ _ _ (@ak _ _ _ _ _ _ _ _ _ aI rfl B.ilen aaY (@aa _ _ _ _ _ (pv 0) ad (by rfl)) (by decide) (by decide) (by rfl) (by rfl)) ad (by rfl))))) (@ao _ _ (1) _ (cI).nd rfl (Or.inl rfl) (.inl rfl)) (@af _ _ _ _ _ (@aw _ _ (2) _ _ _ _ (cI).nd rfl (Or.inl rfl) (@al _ _ _ _ _ _ _ _ _ _ _ C__law_pot hr (by lia) rfl (@aa _ _ _ _ _ (pv 1) ad (by rfl)) (by decide) (by rfl) (by rfl)) (by rfl) (by first|exact .inl rfl|exact .inr rfl|assumption)) (@ai _ _ _ (@fi _ _ _ _ _ _ _ _ abn rfl (@dJ _ _ _ _ _ _ rfl B.irange (@aa _ _ _ _ _ ae ad (by rfl)) (by rfl)) (@ao _ _ (3) _ (cI).nd rfl (Or.inl rfl) (.inl rfl)) (@af _ _ _ _ _ (@qw _ _ (4) (5) _ _ _ _ _ _ _ _ _ _ _ rfl (cI).nd rfl rfl (by decide) rfl rfl (@aa _ _ _ _ _ (@al _ _ _ _ _ _ _ _ _ _ _ C__law_row hr (by lia) rfl (@aa _ _ _ _ _ (pv 2) (@aa _ _ _ _ _ (@am _ _ _ _ _ _ _ _ bB ae (@al _ _ _ _ _ _ _ _ _ _ _ C__law_take hr (by lia) rfl (@aa _ _ _ _ _ (pv 2) (@aa _ _ _ _ _ ae ad (by rfl)) (by rfl)) (by decide) (by rfl) (by rfl))) ad (by rfl)) (by rfl)) (by decide) (by rfl) (by rfl)) (@aa _ _ _ _ _ (@al _ _ _ _ _ _ _ _ _ _ _ C__law_signs hr (by lia) rfl (@aa _ _ _ _ _ (pv 2) ad (by rfl)) (by decide) (by rfl) (by rfl)) ad (by rfl)) (by rfl)) rfl (by rfl)) (@af _ _ _ _ _ (@qw _ _ (6) (7) _ _ _ _ _ _ _ _ _ _ _ rfl (cI).nd rfl rfl (by decide) rfl rfl (@aa _ _ _ _ _ (@al _ _ _ _ _ _ _ _ _ _ _ C__law_no_row hr (by lia) rfl (@aa _ _ _ _ _ (pv 2) (@aa _ _ _ _ _ (pv 4) ad (by rfl)) (by rfl)) (by decide) (by rfl) (by rfl)) (@aa _ _ _ _ _ (@al _ _ _ _ _ _ _ _ _ _ _ C__law_no_signs hr (by lia) rfl (@aa _ _ _ _ _ (pv 2) ad (by rfl)) (by decide) (by rfl) (by rfl)) ad (by rfl)) (by rfl)) rfl (by rfl)) (@af _ _ _ _ _ (@aw _ _ (8) _ _ _ _ (cI).nd rfl (Or.inl rfl) (@aK _ _ _ _ _ _ _ aQ (@az _ _ _ _ (@aa _ _ _ _ _ ae (@aa _ _ _ _ _ dc (@aa _ _ _ _ _ (@bc _ _ _ _ _ (@aa _ _ _ _ _ ax (@aa _ _ _ _ _ ae (@aa _ _ _ _ _ ae ad (by rfl)) (by rfl)) (by rfl))) (@aa _ _ _ _ _ ax (@aa _ _ _ _ _ fk (@aa _ _ _ _ _ (@bc _ _ _ _ _ (@aa _ _ _ _ _ (@aK _ _ _ _ _ _ _ aQ (pv 4) ae (fun _ _=>rfl)) (@aa _ _ _ _ _ (pv 5) ad (by rfl)) (by rfl))) ad (by rfl)) (by rfl)) (by rfl)) (by rfl)) (by rfl)) (by rfl))) (@al _ _ _ _ _ _ _ _ _ _ _ C__law_take hr (by lia) rfl (@aa _ _ _ _ _ (pv 2) (@aa _ _ _ _ _ ae ad (by rfl)) (by rfl)) (by decide) (by rfl) (by rfl)) (fun _ _=>rfl)) (by rfl) (by first|exact .inl rfl|exact .inr rfl|assumption)) (@af _ _ _ _ _ (@aw _ _ (9) _ _ _ _ (cI).nd rfl (Or.inl rfl) (@aK _ _ _ _ _ _ _ aQ (@az _ _ _ _ (@aa _ _ _ _ _ fk (@aa _ _ _ _ _ dc (@aa _ _ _ _ _ (@lG _ _ _ _ _ (u1 hr.units) (@lF _ _ _ _ _ _ _ _ _ (@bc _ _ _ _ _ (@aa _ _ _ _ _ ae (@aa _ _ _ _ _ ae ad (by rfl)) (by rfl))) (@bc _ _ _ _ _ (@aa _ _ _ _ _ ae (@aa _ _ _ _ _ ae ad (by rfl)) (by rfl))) nV) (by rfl) (by rfl) (by simp) (by decide)) (@aa _ _ _ _ _ (@az _ _ _ _ ad) (@aa _ _ _ _ _ ax (@aa _ _ _ _ _ ae (@aa _ _ _ _ _ (@lG _ _ _ _ _ (u1 hr.units) (@lF _ _ _ _ _ _ _ _ _ (@bc _ _ _ _ _ (@aa _ _ _ _ _ ae (@aa _ _ _ _ _ ae ad (by rfl)) (by rfl))) (@bc _ _ _ _ _ (@aa _ _ _ _ _ (@aK _ _ _ _ _ _ _ aQ (pv 4) ae (fun _ _=>rfl)) (@aa _ _ _ _ _ (@aK _ _ _ _ _ _ _ aQ (pv 4) ae (fun _ _=>rfl)) ad (by rfl)) (by rfl))) nV) (by rfl) (by rfl) (by simp) (by decide)) ad (by rfl)) (by rfl)) (by rfl)) (by rfl)) (by rfl)) (by rfl)) (by rfl))) (@al _ _ _ _ _ _ _ _ _ _ _ C__law_take hr (by lia) rfl (@aa _ _ _ _ _ (pv 2) (@aa _ _ _ _ _ ae ad (by rfl)) (by rfl)) (by decide) (by rfl) (by rfl)) (fun _ _=>rfl)) (by rfl) (by first|exact .inl rfl|exact .inr rfl|assumption)) (@af _ _ _ _ _ (@aw _ _ (10) _ _ _ _ (cI).nd rfl (Or.inl rfl) (@ak _ _ _ _ _ _ _ _ _ (iR hr.gd hr.units) rfl B.irepr PyProof.Rows.boot_repr (@aa _ _ _ _ _ (@az _ _ _ _ (@aa _ _ _ _ _ (pv 6) (@aa _ _ _ _ _ (pv 7) (@aa _ _ _ _ _ (pv 8) (@aa _ _ _ _ _ (pv 9) (@aa _ _ _ _ _ (pv 4) ad (by rfl)) (by rfl)) (by rfl)) (by rfl)) (by rfl))) ad (by rfl)) (by decide) (by decide) (by rfl) (by rfl)) (by rfl) (by first|exact .inl rfl|exact .inr rfl|assumption)) (@af _ _ _ _ _ (@fi _ _ _ _ _ _ _ _ abn rfl (@dJ _ _ _ _ _ _ rfl B.irange (@aa _ _ _ _ _ ae ad (by rfl)) (by rfl)) (@ao _ _ (11) _ (cI).nd rfl (Or.inl rfl) (.inl rfl)) (@af _ _ _ _ _ (@aw _ _ (12) _ _ _ _ (cI).nd rfl (Or.inl rfl) (@az _ _ _ _ (@aa _ _ _ _ _ (@al _ _ _ _ _ _ _ _ _ _ _ C__law_word hr (by lia) rfl (@aa _ _ _ _ _ (pv 11) (@aa _ _ _ _ _ (pv 6) (@aa _ _ _ _ _ (pv 7) (@aa _ _ _ _ _ (pv 8) (@aa _ _ _ _ _ (pv 9) ad (by rfl)) (by rfl)) (by rfl)) (by rfl)) (by rfl)) (by decide) (by rfl) (by rfl)) (@aa _ _ _ _ _ (@al _ _ _ _ _ _ _ _ _ _ _ C__law_word hr (by lia) rfl (@aa _ _ _ _ _ (pv 11) (@aa _ _ _ _ _ (pv 6) (@aa _ _ _ _ _ (pv 5) (@aa _ _ _ _ _ (pv 8) (@aa _ _ _ _ _ (pv 9) ad (by rfl)) (by rfl)) (by rfl)) (by rfl)) (by rfl)) (by decide) (by rfl) (by rfl)) ad (by rfl)) (by rfl))) (by rfl) (by first|exact .inl rfl|exact .inr rfl|assumption)) (@af _ _ _ _ _ (@aw _ _ (12) _ _ _ _ (cI).nd rfl (Or.inl rfl) (@am _ _ _ _ _ _ _ _ ft (pv 12) (@az _ _ _ _ (@aa _ _ _ _ _ (@al _ _ _ _ _ _ _ _ _ _ _ C__law_word hr (by lia) rfl (@aa _ _ _ _ _ (pv 11) (@aa _ _ _ _ _ (pv 4) (@aa _ _ _ _ _ (pv 7) (@aa _ _ _ _ _ (pv 8) (@aa _ _ _ _ _ (pv 9) ad (by rfl)) (by rfl)) (by rfl)) (by rfl)) (by rfl)) (by decide) (by rfl) (by rfl)) (@aa _ _ _ _ _ (@al _ _ _ _ _ _ _ _ _ _ _ C__law_word hr (by lia) rfl (@aa _ _ _ _ _ (pv 11) (@aa _ _ _ _ _ (pv 4) (@aa _ _ _ _ _ (pv 5) (@aa _ _ _ _ _ (pv 8) (@aa _ _ _ _ _ (pv 9) ad (by rfl)) (by rfl)) (by rfl)) (by rfl)) (by rfl)) (by decide) (by rfl) (by rfl)) ad (by rfl)) (by rfl)))) (by rfl) (by first|exact .inl rfl|exact .inr rfl|assumption)) (@ai _ _ _ (@bH _ _ _ _ _ _ _ _ (@bj _ _ _ _ _ _ _ _ (@uo _ hr.units) (pv 12) (@az _ _ _ _ (@aa _ _ _ _ _ ax (@aa _ _ _ _ _ ax (@aa _ _ _ _ _ ax (@aa _ _ _ _ _ ax ad (by rfl)) (by rfl)) (by rfl)) (by rfl))) (a4 _)) (@ai _ _ _ (@ar _ _ _ _ eV)) bn)))) (by intro _;rfl)) (@ai _ _ _ (@bH _ _ _ _ _ _ _ _ (@bj _ _ _ _ _ _ _ _ qH (@ak _ _ _ _ _ _ _ _ _ (iR hr.gd hr.units) rfl B.irepr PyProof.Rows.boot_repr (@aa _ _ _ _ _ (@az _ _ _ _ (@aa _ _ _ _ _ (pv 6) (@aa _ _ _ _ _ (pv 7) (@aa _ _ _ _ _ (pv 8) (@aa _ _ _ _ _ (pv 9) (@aa _ _ _ _ _ (pv 4) ad (by rfl)) (by rfl)) (by rfl)) (by rfl)) (by rfl))) ad (by rfl)) (by decide) (by decide) (by rfl) (by rfl)) (pv 10) (a4 _)) (@ai _ _ _ (@ar _ _ _ _ eV)) bn)))))))) (by intro _;rfl)))) (by intro _;rfl)) (@ai _ _ _ (@ar _ _ _ _ eV))),?_⟩;have t2:(2:Nat)≤sizeLine:=by decide
  have t1:(1:Nat)≤sizeLine:=by decide
  refine ⟨_,rfl,8,rfl,a,_,rfl,hS,fun p1 n1=>?_⟩;obtain ⟨ms,em,hm,_⟩:=rG ns none (some 8);rw [em];have g1:=Same.new n1 (.lst (ms.map V.int));refine ⟨_,rfl,a,_,rfl,.inl (g1.seq hS),(by show 1≤sizeLine;decide),fun p2 n2=>?_⟩;have g2:=Same.new n2 (.lst [.int ((ns.map V.int).length:Nat)]);refine ⟨p1,p2,_,_,rfl,rfl,g2 _ _ ac,ac,dj (by rw [aak];show ms.length+1≤1000;lia),fun p3 n3=>?_⟩;obtain ⟨c9,hc9⟩:∃ c9:Int,((ns.map V.int).length:Nat)=c9:=⟨_,rfl⟩
  rw [hc9] at n3 g2 ⊢;have g3:=Same.new n3 (.lst (ms.map V.int++[.int c9]));have e3:upd (upd (upd H p1 (.lst (ms.map V.int))) p2 (.lst [.int c9])) p3 (.lst (ms.map V.int++[.int c9])) p3=_:=ac;have hT3:=hT.keep ((g1.trans g2).trans g3);have el:ms.map V.int++[V.int c9]=(ms++[c9]).map V.int:=by rw [aaL];rfl
  rw [el] at e3 hT3 ⊢;generalize upd (upd (upd H p1 (.lst (ms.map V.int))) p2 (.lst [.int c9])) p3 (.lst ((ms++[c9]).map V.int))=H3 at e3 hT3 ⊢;refine ⟨p3,rfl,⟨_,SqL.of e3⟩,ni (Trn.list (xs:=(ms++[c9]).map V.int)) (fun i σ H'=>∃ c1 c2 c3 c4 c5 c6 c7 c8 c9' c10 c11 c12,σ=[some (.ref a),c1,c2,c3,c4,c5,c6,c7,c8,c9',c10,c11,c12]∧H' p3=some (.lst ((ms++[c9]).map V.int))∧LT T H') ⟨_,_,_,_,_,_,_,_,_,_,_,_,rfl,e3,hT3⟩ (fun i σ H' hi z=>?_) (fun i x σ H4' H4 hi it z=>?_) (fun σ H' z=>?_)⟩
  · obtain ⟨_,_,_,_,_,_,_,_,_,_,_,_,rfl,e,_⟩:=z;exact SqL.of e
  · obtain ⟨c1,c2,c3,c4,c5,c6,c7,c8,c9',c10,c11,c12,rfl,e4,hT4⟩:=z;obtain ⟨rfl,hx⟩:=it;rw [aaU] at hx;obtain ⟨c,_,rfl⟩:=aby.mp hx;refine ⟨_,rfl,c,rfl,fun wl H5 g5 nw w5=>?_⟩;have n3w:p3≠wl:=ap e4 nw;have hT5:=hT4.keep g5;refine ⟨4,rfl,by decide,by decide,ni (Trn.range (n:=(4:Int).toNat)) (fun j σ H'=>∃ c3 c4 c5 c6 c7 c8 c9' c10 c11 c12,σ=[some (.ref a),some (.int c),some (.ref wl),c3,c4,c5,c6,c7,c8,c9',c10,c11,c12]∧H' p3=some (.lst ((ms++[c9]).map V.int))∧LT T H'∧Pot H' wl) ⟨_,_,_,_,_,_,_,_,_,_,rfl,g5 _ _ e4,hT5,w5⟩ (fun j σ H' hj z=>trivial) (fun j x σ H6' H6 hj it z=>?_) (fun σ H' z=>?_)⟩
    · obtain ⟨c3,c4,c5,c6,c7,c8,c9',c10,c11,c12,rfl,e6,hT6,w6⟩:=z;obtain ⟨rfl,rfl⟩:=it;refine ⟨_,rfl,_,rfl,wl,5,rfl,by decide,by decide,w6,fun r1 H7 a1 b1 k7 w7=>⟨_,_,rfl,rfl,wl,1+r1,rfl,by lia,by lia,w7,fun pr rs H8 k8 w8 nr er hlen hsm=>?_⟩⟩;have npr:=w7.ne nr;refine ⟨_,rfl,wl,rfl,w8,fun gs H9 g1' g3' sp k9 w9=>⟨_,_,rfl,?_⟩⟩;have n1':1≤rs.length:=by lia
      have n9':rs.length≤9:=by lia
      have hT9:=((hT6.pot w6 k7).pot w7 k8).pot w8 k9;have er9:=k9 _ _ npr er;have eT:∃ tp,H9 T=some (.tbl tp):=by obtain ⟨tp,h⟩:=hT9;exact ⟨tp,h.tab⟩
      obtain ⟨tp,eT⟩:=eT;have nTw:T≠wl:=fun z=>by obtain ⟨y1,y2,y3,e⟩:=w9;rw [z,e] at eT;cases eT
      have nrT:pr≠T:=hT9.ne er9 (fun _ z=>nomatch z);refine ⟨_,rfl,_,rfl,wl,T,_,pr,rs,rfl,w9,eT,nTw,er9,npr,nrT,n9',hsm,fun v1 HC kC wC q1=>?_⟩;have hTC:=hT9.pot w9 kC;have eTC:=kC _ _ nTw eT;refine ⟨_,rfl,wl,T,_,rfl,wC,eTC,nTw,fun v2 HD kD wD q2=>⟨_,_,rfl,?_⟩⟩;have hTD:=hTC.pot wC kD;have erD:=kD _ _ npr (kC _ _ npr er9);have q1:=q1.mono (dM kD);obtain ⟨r0,hr0⟩:∃ r0,rs[0]?=some r0:=⟨rs[0],aad (by lia)⟩
      have hat0:atI (rs.map V.int) 0=some (.int r0):=dn (j:=0) (by rw [aaU,hr0];rfl);have sm0:=hsm r0 (aaP hr0);have hp3:HD p3=some (.lst ((ms++[c9]).map V.int)):=kD _ _ n3w (kC _ _ n3w (k9 _ _ n3w (k8 _ _ n3w (k7 _ _ n3w e6))));have eTD:=kD _ _ nTw eTC;refine ⟨(by show 3≤sizeLine;decide),fun u1 m1=>fun u2 m2=>?_⟩;have i1:=Same.new m1 (.tup [.str "+",.int 1,.int 2]);have y1:upd HD u1 (.tup [.str "+",.int 1,.int 2]) u1=some (.tup [.str "+",.int 1,.int 2]):=ac;have z1:=hTD.ne_new m1;have x1:=wD.ne m1;generalize upd HD u1 (.tup [.str "+",.int 1,.int 2])=G1 at m2 i1 y1 ⊢;have hG1:=hTD.keep i1;have wG1:=wD.keep i1;have i2:=Same.new m2 (.dK []);have y2:upd G1 u2 (.dK []) u2=some (.dK []):=ac;have z2:=hG1.ne_new m2;have x2:=wG1.ne m2;generalize upd G1 u2 (.dK [])=G2 at i2 y2 ⊢;have hG2:=hG1.keep i2;have wG2:=wG1.keep i2;refine ⟨_,rfl,pr,_,0,_,rfl,rfl,SqL.of ((i1.trans i2) _ _ erD),hat0,_,rfl,(by show 2≤sizeLine;decide),fun u3 m3=>?_⟩;have i3:=Same.new m3 (.tup [.int r0,.str (aq gs)]);have y3:upd G2 u3 (.tup [.int r0,.str (aq gs)]) u3=some (.tup [.int r0,.str (aq gs)]):=ac;have z3:=hG2.ne_new m3;have x3:=wG2.ne m3;generalize upd G2 u3 (.tup [.int r0,.str (aq gs)])=G3 at i3 y3 ⊢;have hG3:=hG2.keep i3;have wG3:=wG2.keep i3;refine ⟨(by show 6≤sizeLine;decide),fun u4 m4=>?_⟩;have i4:=Same.new m4 (.lst [.int 5,.non,.ref u1,.str "a",.ref u2,.ref u3]);have y4:upd G3 u4 (.lst [.int 5,.non,.ref u1,.str "a",.ref u2,.ref u3]) u4=some (.lst [.int 5,.non,.ref u1,.str "a",.ref u2,.ref u3]):=ac;have x4:=wG3.ne m4;generalize upd G3 u4 (.lst [.int 5,.non,.ref u1,.str "a",.ref u2,.ref u3])=G4 at i4 y4 ⊢;have hG4:=hG3.keep i4;have wG4:=wG3.keep i4;refine ⟨_,rfl,wl,6,rfl,by decide,by decide,wG4,fun r2 HF a2 b2 kF wF=>?_⟩;have hTF:=hG4.pot wG4 kF;obtain ⟨xw,hat1,hm1⟩:=qA (xs:=[.int 5,.non,.ref u1,.str "a",.ref u2,.ref u3]) a2 (by show r2 < 6;lia);refine ⟨u4,_,_,_,rfl,rfl,SqL.of (kF _ _ x4 y4),hat1,?_⟩;have I4:=((i1.trans i2).trans i3).trans i4;have f1:=(aY x1 z1).trans (kF _ _ x1 (i4 _ _ (i3 _ _ (i2 _ _ y1))));have f2:=(aY x2 z2).trans (kF _ _ x2 (i4 _ _ (i3 _ _ y2)));have f3:=(aY x3 z3).trans (kF _ _ x3 (i4 _ _ y3));have zw:Wz (bA wl T HF) xw:=by
        simp only [aai,abb,or_false] at hm1;rcases hm1 with rfl|rfl|rfl|rfl|rfl|rfl
        · exact ⟨.int 5,by simp only [Dat],mH (by decide),fun _=>⟨.num 5,rfl,by decide,by show (5:Int).natAbs≤10 ^ (30 * 1);decide⟩⟩
        · exact ⟨.none,by simp only [Dat],fj (by simp only [OkD]) (by simp [szD]) (by simp [aaA]),fun z=>absurd z (by decide +kernel)⟩
        · refine ⟨.tuple [.str "+",.int 1,.int 2],by simp only [Dat,DatAll];exact ⟨u1,_,rfl,f1,_,_,rfl,rfl,_,_,rfl,rfl,_,_,rfl,rfl,rfl⟩,fj (by simp only [OkD,OkAll];decide +kernel) (by simp [szD,szAll]) (by simp [aaA,aaB]),fun _=>⟨.node .plus (.num 1) (.num 2),⟨u1,.int 1,.int 2,rfl,f1,rfl,rfl⟩,by decide,Wy.bd_12⟩⟩
        · exact ⟨.str "a",by simp only [Dat],fj (by simp only [OkD];decide +kernel) (by simp [szD]) (by simp [aaA]),fun z=>absurd z (by decide +kernel)⟩
        · exact ⟨.dict [],by simp only [Dat,DatKv];exact ⟨u2,_,rfl,f2,rfl⟩,fj (by simp only [OkD]) (by simp [szD]) (by simp [aaA,acj]),fun z=>absurd z (by decide +kernel)⟩
        · refine ⟨.tuple [.int r0,.str (aq gs)],by simp only [Dat,DatAll];exact ⟨u3,_,rfl,f3,_,_,rfl,rfl,_,_,rfl,rfl,rfl⟩,tZ sm0 g3' sp,fun z=>?_⟩;have : cO (.tuple [.int r0,.str (aq gs)])=false:=by unfold cO;rw [oA (by simp)]
          rw [this] at z;cases z
      have q1F:=q1.mono ((cf I4).trans (dM kF));have q2F:=q2.mono ((cf I4).trans (dM kF));have erF:=kF _ _ npr (I4 _ _ erD);have p3F:=kF _ _ n3w (I4 _ _ hp3);have wF':=wF;have hTF':=hTF;refine fun t1 o1=>?_;have j1:=Same.new o1 (.dK []);have e1:upd HF t1 (.dK []) t1=some (.dK []):=ac;have tz1:=hTF.ne_new o1;have tx1:=wF.ne o1;generalize upd HF t1 (.dK [])=F1 at j1 e1 ⊢;have hF1:=hTF.keep j1;have wF1:=wF.keep j1;refine fun t2 o2=>?_;have f2':F1 t2=none:=o2;have tz2:=hF1.ne_new o2;have tx2:=wF1.ne o2;have j2:=Same.new o2 (.dT []);have e2:upd F1 t2 (.dT []) t2=some (.dT []):=ac;generalize upd F1 t2 (.dT [])=F2 at j2 e2 ⊢;refine ⟨(by show 2≤sizeLine;decide),fun t3 o3=>?_⟩;have j3:=Same.new o3 (.tup [.int 0,.int 0]);have e3':upd F2 t3 (.tup [.int 0,.int 0]) t3=some (.tup [.int 0,.int 0]):=ac;generalize upd F2 t3 (.tup [.int 0,.int 0])=F3 at j3 e3' ⊢;refine ⟨(by show 2≤sizeLine;decide),fun t4 o4=>?_⟩;have j4:=Same.new o4 (.tup [.int 1,.int 2]);have e4':upd F3 t4 (.tup [.int 1,.int 2]) t4=some (.tup [.int 1,.int 2]):=ac;have hF3:=((hF1.keep j2).keep j3)
      have wF3:=((wF1.keep j2).keep j3)
      have tz4:=hF3.ne_new o4;have tx4:=wF3.ne o4;generalize upd F3 t4 (.tup [.int 1,.int 2])=F4 at j4 e4' ⊢;have n42:t4≠t2:=fun z=>by rw [z] at o4;rw [j3 _ _ e2] at o4;cases o4
      have e2F:=j4 _ _ (j3 _ _ e2);refine ⟨e2F,[(t3,ky (0,0),.ref t4)],rfl,(fun b hb=>by rw [aar.mp hb];exact j4 _ _ e3'),(by show 1≤15;decide),?_⟩;have em:eI [] ([(t3,ky (0,0),V.ref t4)].map (·.2))=[(ky (0,0),.ref t4)]:=rfl;rw [em];have S5:Same F1 (upd F4 t2 (.dT [(ky (0,0),.ref t4)])):=((j2.trans j3).trans j4).upd f2';have d5:upd F4 t2 (.dT [(ky (0,0),.ref t4)]) t2=some (.dT [(ky (0,0),.ref t4)]):=ac;have v5:upd F4 t2 (.dT [(ky (0,0),.ref t4)]) t4=some (.tup [.int 1,.int 2]):=by rw [aj n42];exact e4'
      generalize upd F4 t2 (.dT [(ky (0,0),.ref t4)])=F5 at S5 d5 v5 ⊢;have hF5:=hF1.keep S5;have wF5:=wF1.keep S5;refine ⟨(by show 0≤sizeLine;decide),fun t5 o5=>?_⟩;have j6:=Same.new o5 (.lst []);have e6':upd F5 t5 (.lst []) t5=some (.lst []):=ac;have tz5:=hF5.ne_new o5;have tx5:=wF5.ne o5;generalize upd F5 t5 (.lst [])=F6 at j6 e6' ⊢;have hF6:=hF5.keep j6;have wF6:=wF5.keep j6;refine fun t6 o6=>?_;have tz6:=hF6.ne_new o6;have tx6:=wF6.ne o6;have j7:=Same.new o6 (.dT []);have e7:upd F6 t6 (.dT []) t6=some (.dT []):=ac;generalize upd F6 t6 (.dT [])=F7 at j7 e7 ⊢;refine ⟨(by show 2≤sizeLine;decide),fun t7 o7=>?_⟩;have j8:=Same.new o7 (.tup [.int 0,.int 0]);have e8:upd F7 t7 (.tup [.int 0,.int 0]) t7=some (.tup [.int 0,.int 0]):=ac;generalize upd F7 t7 (.tup [.int 0,.int 0])=F8 at j8 e8 ⊢;have SF8:Same HF F8:=((((j1.trans S5).trans j6).trans j7).trans j8)
      refine ⟨_,rfl,pr,_,0,_,rfl,rfl,SqL.of (SF8 _ _ erF),hat0,_,rfl,pr,_,0,_,rfl,rfl,SqL.of (SF8 _ _ erF),hat0,(by show 2≤sizeLine;decide),fun t8 o8=>?_⟩;have j9:=Same.new o8 (.tup [.int r0,.int r0]);have e9:upd F8 t8 (.tup [.int r0,.int r0]) t8=some (.tup [.int r0,.int r0]):=ac;have hF8:=((hF6.keep j7).keep j8)
      have wF8:=((wF6.keep j7).keep j8)
      have tz8:=hF8.ne_new o8;have tx8:=wF8.ne o8;generalize upd F8 t8 (.tup [.int r0,.int r0])=F9 at j9 e9 ⊢;have n86:t8≠t6:=fun z=>by rw [z] at o8;rw [j8 _ _ e7] at o8;cases o8
      have e6F:=j9 _ _ (j8 _ _ e7);refine ⟨e6F,[(t7,ky (0,0),.ref t8)],rfl,(fun b hb=>by rw [aar.mp hb];exact j9 _ _ e8),(by show 1≤15;decide),?_⟩;have em2:eI [] ([(t7,ky (0,0),V.ref t8)].map (·.2))=[(ky (0,0),.ref t8)]:=rfl;rw [em2];have SA:Same F6 (upd F9 t6 (.dT [(ky (0,0),.ref t8)])):=((j7.trans j8).trans j9).upd o6;have dA:upd F9 t6 (.dT [(ky (0,0),.ref t8)]) t6=some (.dT [(ky (0,0),.ref t8)]):=ac;have vA:upd F9 t6 (.dT [(ky (0,0),.ref t8)]) t8=some (.tup [.int r0,.int r0]):=by rw [aj n86];exact e9
      generalize upd F9 t6 (.dT [(ky (0,0),.ref t8)])=FA at SA dA vA ⊢;have hFA:=hF6.keep SA;have wFA:=wF6.keep SA;refine ⟨(by show 7≤sizeLine;decide),fun t9 o9=>?_⟩;have jB:=Same.new o9 (.lst [.ref t1,.non,.ref t2,.ref t5,.str "a",.int 7,.ref t6]);have eB:upd FA t9 (.lst [.ref t1,.non,.ref t2,.ref t5,.str "a",.int 7,.ref t6]) t9=some (.lst [.ref t1,.non,.ref t2,.ref t5,.str "a",.int 7,.ref t6]):=ac;have tx9:=wFA.ne o9;generalize upd FA t9 (.lst [.ref t1,.non,.ref t2,.ref t5,.str "a",.int 7,.ref t6])=FB at jB eB ⊢;have hFB:=hFA.keep jB;have wFB:=wFA.keep jB;refine ⟨_,rfl,wl,7,rfl,by decide,by decide,wFB,fun r3 HG a3 b3 kG wG=>?_⟩;have hTG:=hFB.pot wFB kG;obtain ⟨xt,hat2,hm2⟩:=qA (xs:=[.ref t1,.non,.ref t2,.ref t5,.str "a",.int 7,.ref t6]) a3 (by show r3 < 7;lia);refine ⟨t9,_,_,_,rfl,rfl,SqL.of (kG _ _ tx9 eB),hat2,?_⟩;have SB:Same HF FB:=(((j1.trans S5).trans j6).trans SA).trans jB;have up:∀ {b:Addr} {o:HO},b≠wl→b≠T→FB b=some o→bA wl T HG b=some o:=fun h1 h2 e=>(aY h1 h2).trans (kG _ _ h1 e);have w1':=up tx1 tz1 (jB _ _ (SA _ _ (j6 _ _ (S5 _ _ e1))));have w2':=up tx2 tz2 (jB _ _ (SA _ _ (j6 _ _ d5)));have w4':=up tx4 tz4 (jB _ _ (SA _ _ (j6 _ _ v5)));have w5':=up tx5 tz5 (jB _ _ (SA _ _ e6'));have w6':=up tx6 tz6 (jB _ _ dA);have w8':=up tx8 tz8 (jB _ _ vA);have zt:Pz (bA wl T HG) xt:=by
        simp only [aai,abb,or_false] at hm2;rcases hm2 with rfl|rfl|rfl|rfl|rfl|rfl|rfl
        · exact ⟨.inr (.inl ⟨t1,rfl,w1'⟩),.dict [],.inl (by simp only [Dat,DatKv];exact ⟨t1,_,rfl,w1',rfl⟩),fj (by simp only [OkD]) (by simp [szD]) (by simp [aaA,acj])⟩
        · exact ⟨.inl ⟨.none,by simp only [Dat],rfl⟩,.none,.inl (by simp only [Dat]),fj (by simp only [OkD]) (by simp [szD]) (by simp [aaA])⟩
        · exact ⟨.inr (.inr ⟨t2,t4,(1,2),rfl,w2',w4'⟩),_,.inr ⟨t2,ky (0,0),.ref t4,.tuple [.int 1,.int 2],rfl,w2',by simp only [Dat,DatAll];exact ⟨t4,_,rfl,w4',_,_,rfl,rfl,_,_,rfl,rfl,rfl⟩,rfl⟩,qy (by decide) (by decide)⟩
        · exact ⟨.inl ⟨.list [],by simp only [Dat,DatAll];exact ⟨t5,_,rfl,w5',rfl⟩,rfl⟩,.list [],.inl (by simp only [Dat,DatAll];exact ⟨t5,_,rfl,w5',rfl⟩),fj (by simp only [OkD,OkAll]) (by simp [szD,szAll]) (by simp [aaA,aaB])⟩
        · exact ⟨.inl ⟨.str "a",by simp only [Dat],rfl⟩,.str "a",.inl (by simp only [Dat]),fj (by simp only [OkD];decide +kernel) (by simp [szD]) (by simp [aaA])⟩
        · exact ⟨.inl ⟨.int 7,by simp only [Dat],rfl⟩,.int 7,.inl (by simp only [Dat]),mH (by decide)⟩
        · exact ⟨.inr (.inr ⟨t6,t8,(r0,r0),rfl,w6',w8'⟩),_,.inr ⟨t6,ky (0,0),.ref t8,.tuple [.int r0,.int r0],rfl,w6',by simp only [Dat,DatAll];exact ⟨t8,_,rfl,w8',_,_,rfl,rfl,_,_,rfl,rfl,rfl⟩,rfl⟩,qy sm0 sm0⟩
      have VG:Same (bA wl T HF) (bA wl T HG):=(cf SB).trans (dM kG);obtain ⟨d1,h1,r1',z1'⟩:=q1F.mono VG;obtain ⟨d2,h2,r2',z2'⟩:=q2F.mono VG;have zwG:=zw.mono VG;have erG:=kG _ _ npr (SB _ _ erF);have p3G:=kG _ _ n3w (SB _ _ p3F);obtain ⟨dw,hw1,hw2,hw3⟩:=zwG;obtain ⟨pz,dt,ht1,ht2⟩:=zt;have z1r:bi d1=false:=tj z1';have z2s:bV d2=false:=tj z2';have c6:=rZ n1' n9';have c7:=tS sp;have r6:=t_ hsm n9';obtain ⟨s1,s2,s3⟩:=pr5 r1' r2' hw2 ht2 r6;have nprT':pr≠T:=nrT;have hrow:bA wl T HG pr=some (.lst (rs.map V.int)):=(aY npr nrT).trans erG;obtain ⟨kt,hkt⟩:∃ kt,(PyData.list [d1,d2,dw,dt,.list (rs.map PyData.int)]).shown=kt:=⟨_,rfl⟩
      have DTL:∀ {H':Hp},Same (bA wl T HG) (bA wl T H')→DatTs H' [d1,d2,dw,dt,.list (rs.map PyData.int)] [v1,v2,xw,xt,.ref pr]:=fun {H'} S'=>by
        have S'':=S'.trans fE;exact .cons (.inl (Dat.mono S'' _ _ h1)) (.cons (.inl (Dat.mono S'' _ _ h2)) (.cons (.inl (Dat.mono S'' _ _ hw1)) (.cons (ht1.mono S'') (.cons (.inl (by simp only [Dat];exact ⟨pr,_,rfl,S'' _ _ hrow,bf rs⟩)) .nil))))
      refine ⟨_,rfl,_,rfl,_,rfl,_,rfl,_,rfl,(by show 5≤sizeLine;decide),fun L oL=>?_⟩;have jL:=Same.new oL (.lst [v1,v2,xw,xt,.ref pr]);have eL:upd HG L (.lst [v1,v2,xw,xt,.ref pr]) L=some (.lst [v1,v2,xw,xt,.ref pr]):=ac;generalize upd HG L (.lst [v1,v2,xw,xt,.ref pr])=HH at jL eL ⊢;refine ⟨L,_,_,rfl,eL,DTL (cf jL),s1,s2,s3,?_⟩;rw [hkt];have hTH:=hTG.keep jL;have wH:=wG.keep jL;have p3H:=jL _ _ p3G;have wwx:∀ {H':Hp},Same (bA wl T HG) (bA wl T H')→Wq H' xw:=fun S'=>Wq.mono (S'.trans fE) ⟨dw,hw1,hw3⟩;have wwt:∀ {H':Hp},Same (bA wl T HG) (bA wl T H')→Pp H' xt:=fun S'=>pz.mono (S'.trans fE);have dm:∀ {H':Hp} {d:PyData} {v:V},Same (bA wl T HG) (bA wl T H')→Dat (bA wl T HG) d v→Dat H' d v:=fun S' h=>Dat.mono (S'.trans fE) _ _ h;have hrD:Dat (bA wl T HG) (.list (rs.map PyData.int)) (.ref pr):=by simp only [Dat];exact ⟨pr,_,rfl,hrow,bf rs⟩
      have hsD:Dat (bA wl T HG) (.str (aq gs)) (.str (aq gs)):=by simp only [Dat]
      have smN:∀ H',Sm1 H' d1 v1:=fun H' z=>by rw [z1r] at z;cases z
      have smR:∀ {H':Hp},H' pr=some (.lst (rs.map V.int))→Sm1 H' (.list (rs.map PyData.int)) (.ref pr):=fun {H'} e _ r ns' er' en'=>by
        injection er' with er'
        subst er';rw [e] at en';injection en' with en'
        injection en' with en'
        rw [← gK en'];exact hsm
      have nTp3:p3≠T:=hTG.ne p3G (fun _ z=>nomatch z);have h44:(4:Int).toNat=4:=rfl;refine ⟨4,rfl,by decide,by decide,ni (Trn.range (n:=(4:Int).toNat)) (fun j' σ H'=>∃ c3 c11 c12,σ=[some (.ref a),some (.int c),some (.ref wl),c3,some (.ref pr),some (.str (aq gs)),some v1,some v2,some xw,some xt,some (.str kt),c11,c12]∧But T HH H'∧LT T H') ⟨_,_,_,rfl,But.of (Same.refl _),hTH⟩ (fun j' σ H' hj' z=>trivial) (fun j' x' σ HI' HI hj' it z=>?_) (fun σ HR z=>?_)⟩
      · obtain ⟨d3,d11,d12,rfl,bI,hTI⟩:=z;obtain ⟨rfl,rfl⟩:=it;have kj:j' < 4:=hj';have V0:Same (bA wl T HG) (bA wl T HI):=(cf jL).trans (dL bI);refine ⟨_,rfl,_,rfl,_,rfl,_,rfl,_,rfl,(0+(j':Int)),d1,v1,d2,v2,xw,xt,rfl,by lia,by lia,dm V0 h1,dm V0 h2,(smN _),wwx V0,wwt V0,hTI,fun HJ bJ hTJ=>?_⟩;rw [dG z1r];have V1:=V0.trans (dL (w:=wl) bJ);refine ⟨_,rfl,_,rfl,_,rfl,_,rfl,_,rfl,(0+(j':Int)),d1,v1,(.str (aq gs)),_,xw,xt,rfl,by lia,by lia,dm V1 h1,dm V1 hsD,(smN _),wwx V1,wwt V1,hTJ,fun HK bK hTK=>?_⟩;rw [dG z1r];have V2:=V1.trans (dL (w:=wl) bK);refine ⟨(by show 2≤sizeLine;decide),fun l1 n1=>?_⟩;have k1:=Same.new n1 (.lst [.str "row",.str "row"]);have e1L:upd HK l1 (.lst [.str "row",.str "row"]) l1=some (.lst [.str "row",.str "row"]):=ac;have l1T:=hTK.ne_new n1;generalize upd HK l1 (.lst [.str "row",.str "row"])=HL at k1 e1L ⊢;have V3:=V2.trans (cf (w:=wl) (z:=T) k1);have hTL:=hTK.keep k1;have erL:HL pr=some (.lst (rs.map V.int)):=fE _ _ (V3 _ _ hrow);refine ⟨_,rfl,_,rfl,_,rfl,_,rfl,_,rfl,_,rfl,(0+(j':Int)),(.list (rs.map PyData.int)),_,d2,v2,xw,xt,rfl,by lia,by lia,dm V3 hrD,dm V3 h2,(smR erL),wwx V3,wwt V3,hTL,fun HM bM hTM=>?_⟩;rw [cX c6 z2s];have V4:=V3.trans (dL (w:=wl) bM);have erM:HM pr=some (.lst (rs.map V.int)):=fE _ _ (V4 _ _ hrow);refine ⟨_,rfl,_,rfl,_,rfl,_,rfl,_,rfl,(0+(j':Int)),(.list (rs.map PyData.int)),_,(.str (aq gs)),_,xw,xt,rfl,by lia,by lia,dm V4 hrD,dm V4 hsD,(smR erM),wwx V4,wwt V4,hTM,fun HN bN hTN=>?_⟩;rw [dF c6 c7];refine ⟨(by show 2≤sizeLine;decide),fun l2 n2=>?_⟩;have k2:=Same.new n2 (.lst [.str "signs",.str "told"]);have e2L:upd HN l2 (.lst [.str "signs",.str "told"]) l2=some (.lst [.str "signs",.str "told"]):=ac;generalize upd HN l2 (.lst [.str "signs",.str "told"])=HO' at k2 e2L ⊢;refine ⟨l1,l2,_,_,rfl,rfl,k2 _ _ (bN _ _ l1T (bM _ _ l1T e1L)),e2L,(by show 4≤sizeLine;decide),fun l3 n3=>?_⟩;have k3:=Same.new n3 (.lst ([.str "row",.str "row"]++[.str "signs",.str "told"]));have e3L:upd HO' l3 (.lst ([.str "row",.str "row"]++[.str "signs",.str "told"])) l3=some (.lst fW):=ac;generalize upd HO' l3 (.lst ([.str "row",.str "row"]++[.str "signs",.str "told"]))=HP at k3 e3L ⊢;refine ⟨_,rfl,(by show 4≤sizeLine;decide),fun pa na=>⟨0,l3,pa,fW,fW,by decide,rfl,rfl,SqL.of ((Same.new na _) _ _ e3L),SqL.of ac,.inr ⟨fun _=>true,rfl,sQ sP,?_⟩⟩⟩;rw [rP];refine ⟨false,rfl,aU ?_⟩;have kk:=(k2.trans k3).trans (Same.new na (.lst fW));exact ⟨_,_,_,rfl,((((bI.trans bJ).trans bK).trans (But.of k1)).trans (bM.trans bN)).trans (But.of kk),hTN.keep kk⟩
      · obtain ⟨d3,d11,d12,rfl,bR,hTR⟩:=z;have V0:Same (bA wl T HG) (bA wl T HR):=(cf jL).trans (dL bR);refine ⟨_,rfl,_,rfl,_,rfl,_,rfl,_,rfl,(by show 5≤sizeLine;decide),fun L2' oL2=>?_⟩;have jM:=Same.new oL2 (.lst [v1,v2,xw,xt,.ref pr]);refine ⟨L2',_,_,rfl,ac,DTL (V0.trans (cf jM)),s1,s2,s3,?_⟩;rw [hkt];refine ⟨_,rfl,rfl,_,rfl,iJ (fun zz=>absurd zz (by simp)) (fun _=>?_)⟩;refine ⟨_,_,_,_,_,_,_,_,_,_,rfl,jM _ _ (bR _ _ nTp3 p3H),hTR.keep jM,?_⟩;obtain ⟨y1',y2',y3',ew⟩:=wH;exact ⟨y1',y2',y3',jM _ _ (bR _ _ nTw.symm ew)⟩
    · obtain ⟨c3,c4,c5,c6,c7,c8,c9',c10,c11,c12,rfl,e6,hT6,w6⟩:=z;exact ⟨_,_,_,_,_,_,_,_,_,_,_,_,rfl,e6,hT6⟩
  · obtain ⟨_,_,_,_,_,_,_,_,_,_,_,_,rfl,_⟩:=z;exact q _
end
open PySem L2
theorem all_mk {l:PySem.W.OpenLaw} {w:World} {K:aab} {h:Heap} {mg:Str→Option Value} {fa:Addr} (X:K.In h) (G:h.Ns mainGlobals mg) (hfa:mg "law" = some (.ref fa))
    {tM tS1 tS2 tS3:Tok} {cS:Addr} {odS:Option Addr} {nS:Nat} {slS:Array (Option Value)}
    {tM3 tP1 tP2 tP3 tP4 tP5 tP6 tP7:Tok} {cP:Addr} {odP:Option Addr} {nP:Nat} {slP:Array (Option Value)}
    {aP aR aS aW aN aL aF aO aA aH aT aM:Addr}
    {aPN:Addr} {aPnm aPq:Str} {aPbs aPsub:List Value} {aPhd aPab:Bool} {aPsn:List Str} {aPcol:Option Bool} {aPdd aPod:Option Addr} {aPk0 aPk1 aPk2 aPk3 aPk5:Option Value} {aPc:Value} {aPes:Array DictEntry} {aPn:Nat} {aPsl:Array (Option Value)}
    {aRN:Addr} {aRnm aRq:Str} {aRbs aRsub:List Value} {aRhd aRab:Bool} {aRsn:List Str} {aRcol:Option Bool} {aRdd aRod:Option Addr} {aRk0 aRk1 aRk2 aRk3 aRk5:Option Value} {aRc:Value} {aRes:Array DictEntry} {aRn:Nat} {aRsl:Array (Option Value)}
    {aSN:Addr} {aSnm aSq:Str} {aSbs aSsub:List Value} {aShd aSab:Bool} {aSsn:List Str} {aScol:Option Bool} {aSdd aSod:Option Addr} {aSk0 aSk1 aSk2 aSk3 aSk5:Option Value} {aSc:Value} {aSes:Array DictEntry} {aSn:Nat} {aSsl:Array (Option Value)}
    {aRcd:ClassData}
    {aScd:ClassData}
    {aWcd:ClassData}
    {aNcd:ClassData}
    {aLcd:ClassData}
    {aFcd:ClassData}
    {aOcd:ClassData}
    {aAcd:ClassData}
    {aHcd:ClassData}
    {aTcd:ClassData}
    {aMcd:ClassData}
    {tD aE:Addr} {ocD:Value} {odD odE:Option Addr} {nD nE:Nat} {slD slE:Array (Option Value)}
    {T cL:Addr}
{f0:Addr}
{f1:Addr}
{f2:Addr}
{f3:Addr}
{f4:Addr}
{f5:Addr}
{f6:Addr}
{f7:Addr}
{f8:Addr}
{f9:Addr}
{f10:Addr}
{f11:Addr}
{f12:Addr}
{f13:Addr}
{f14:Addr}
{f15:Addr}
{f16:Addr}
{f17:Addr}
{f18:Addr}
{f19:Addr}
{od20 an20:Option Addr} {sl20:Array (Option Value)} {oc20 kV20 dc20 pm20 cd20 ct20:Value} {f20:Addr}
{f21:Addr}
{od22 an22:Option Addr} {sl22:Array (Option Value)} {oc22 kV22 dc22 pm22 ct22:Value} {f22:Addr}
{f23:Addr}
{f24:Addr}
{f25:Addr}
{f26:Addr}
{f27:Addr}
{f28:Addr}
{f29:Addr}
{f30:Addr}
{f31:Addr}
{f32:Addr}
{f33:Addr}
{f34:Addr}
{f35:Addr}
{f36:Addr}
{f37:Addr}
{f38:Addr}
{f39:Addr}
{od40 an40:Option Addr} {sl40:Array (Option Value)} {oc40 kV40 dc40 pm40 cd40 ct40:Value} {f40:Addr}
    (q0:Fq K "is_whole" fQ f0)
    (q1:Fq K "is_row" ik f1)
    (q2:Fq K "is_signs" fR f2)
    (q3:Fq K "is_sign" fB f3)
    (q4:Fq K "is_way" ij f4)
    (q5:Fq K "need_row" fP f5)
    (q6:Fq K "need_signs" dY f6)
    (q7:Fq K "shorter_first" cJ f7)
    (q8:Fq K "has_all_stretches" bU f8)
    (q9:Fq K "cuts_of" gw f9)
    (q10:Fq K "list_numbers" c0 f10)
    (q11:Fq K "join_signs" dZ f11)
    (q12:Fq K "is_pair" gv f12)
    (q13:Fq K "has_signs_among" cq f13)
    (q14:Fq K "counts_up_to" c_ f14)
    (q15:Fq K "ways_by_cut" dv f15)
    (q16:Fq K "joints_of" fb f16)
    (q17:Fq K "put_sign" fO f17)
    (q18:Fq K "find_worth" d9 f18)
    (q19:Fq K "bounds_of" ff f19)
    (a20:aat K mainGlobals "picks_by_stretch" = some (some (.ref f20))) (l20:K.lookup f20=some ⟨oc20,od20,.func (aaQ "picks_by_stretch" "picks_by_stretch" (bo aX) (aV aX) (ag aX) (.ref tD) kV20 dc20 pm20 an20 cd20 ct20),sl20⟩) (c20:abf K cd20 "picks_by_stretch" = true) (k20:aaS K (.ref f20)=true)
    (q21:Fq K "join_picks" d4 f21)
    (a22:aat K mainGlobals "pick_three" = some (some (.ref f22))) (l22:K.lookup f22=some ⟨oc22,od22,.func (aaQ "pick_three" "pick_three" (bo a_) (aV a_) (ag a_) .none kV22 dc22 pm22 an22 (.ref cL) ct22),sl22⟩) (c22:abf K (.ref cL) "pick_three" = true) (k22:aaS K (.ref f22)=true)
    (q23:Fq K "bounds_say" d_ f23)
    (q24:Fq K "bounds_paper" da f24)
    (q25:Fq K "greatest_shown" cA f25)
    (q26:Fq K "least_shown" dy f26)
    (q27:Fq K "is_within" fc f27)
    (q28:Fq K "join_ends" gG f28)
    (q29:Fq K "is_way_with" dz f29)
    (q30:Fq K "_law_mixed" ee f30)
    (q31:Fq K "_law_pot" fT f31)
    (q32:Fq K "_law_take" fh f32)
    (q33:Fq K "_law_number" dB f33)
    (q34:Fq K "_law_row" fS f34)
    (q35:Fq K "_law_signs" ed f35)
    (q36:Fq K "_law_no_row" dC f36)
    (q37:Fq K "_law_no_signs" cK f37)
    (q38:Fq K "_law_flags" eh f38)
    (q39:Fq K "_law_word" fg f39)
    (a40:aat K mainGlobals "law" = some (some (.ref f40))) (l40:K.lookup f40=some ⟨oc40,od40,.func (aaQ "law" "law" (bo gc) (aV gc) (ag gc) .none kV40 dc40 pm40 an40 cd40 ct40),sl40⟩) (c40:abf K cd40 "law" = true) (k40:aaS K (.ref f40)=true)
    (dA:aat K mainGlobals "len" = some none)
    (dx : aat K mainGlobals "isinstance" = some none)
    (dw:aat K mainGlobals "int" = some none)
    (dq:aat K mainGlobals "bool" = some none)
    (dL:aat K mainGlobals "str" = some none)
    (dO:aat K mainGlobals "tuple" = some none)
    (dD:aat K mainGlobals "list" = some none)
    (dK:aat K mainGlobals "sorted" = some none)
    (dG:aat K mainGlobals "range" = some none)
    (dH:aat K mainGlobals "repr" = some none)
    (du:aat K mainGlobals "enumerate" = some none)
    (dM:aat K mainGlobals "sum" = some none)
    (dn:aat K mainGlobals "all" = some none)
    (dF:aat K mainGlobals "min" = some none)
    (dE:aat K mainGlobals "max" = some none)
    (dm:aat K mainGlobals "abs" = some none)
    (dt:aat K mainGlobals "divmod" = some none)
    (dr:aat K mainGlobals "dict" = some none)
    (dJ:aat K mainGlobals "set" = some none)
    (dI:aat K mainGlobals "reversed" = some none)
    (dp:aat K mainGlobals "any" = some none)
    (dP:aat K mainGlobals "zip" = some none)
    (gM:aat K mainGlobals "MOST_NUMBERS" = some (some (.int 9 tM)))
    (gS:aat K mainGlobals "SIGNS" = some (some (.ref cS)))
    (lS:K.lookup cS=some ⟨.type "tuple",odS,.seq #[.str "+" tS1,.str "-" tS2,.str "*" tS3] nS,slS⟩)
    (gM3:aat K mainGlobals "MOST_NUMBERS" = some (some (.int 9 tM3)))
    (gP:aat K mainGlobals "SIGNS_TO_PUT" = some (some (.ref cP)))
    (lP:K.lookup cP=some ⟨.type "tuple",odP,.seq #[.str "+" tP1,.str "-" tP2,.str "*" tP3,.str "+-" tP4,.str "+*" tP5,.str "-*" tP6,.str "+-*" tP7] nP,slP⟩)
    (n_PutError:aat K mainGlobals "PutError" = some (some (.ref aP)))
    (n_NoRow:aat K mainGlobals "NoRow" = some (some (.ref aR)))
    (n_NoSigns:aat K mainGlobals "NoSigns" = some (some (.ref aS)))
    (n_NoWay:aat K mainGlobals "NoWay" = some (some (.ref aW)))
    (n_NoNumber:aat K mainGlobals "NoNumber" = some (some (.ref aN)))
    (n_NoPlace:aat K mainGlobals "NoPlace" = some (some (.ref aL)))
    (n_NoFit:aat K mainGlobals "NoFit" = some (some (.ref aF)))
    (n_NoForm:aat K mainGlobals "NoForm" = some (some (.ref aO)))
    (n_NoAsk:aat K mainGlobals "NoAsk" = some (some (.ref aA)))
    (n_NoHolds:aat K mainGlobals "NoHolds" = some (some (.ref aH)))
    (n_NoText:aat K mainGlobals "NoText" = some (some (.ref aT)))
    (n_TooMany:aat K mainGlobals "TooMany" = some (some (.ref aM)))
    (dl:aat K mainGlobals "ValueError" = some none)
    (l_PutError:K.lookup aP=some (excClassObj aPnm aPq aP aPN aPbs kZ aPhd aPsn aPsub aPab aPcol aPdd aPk0 aPk1 aPk2 aPk3 aPk5 "ValueError.__new__"))
    (s_PutError:K.lookup aPN=some ⟨aPc,aPod,.dict aPes aPn,aPsl⟩)
    (t_PutError:iF aPes=true)
    (i_PutError:nsFind aPes "__init__" = none)
    (l_NoRow:K.lookup aR=some (excClassObj aRnm aRq aR aRN aRbs (.ref aP :: kZ) aRhd aRsn aRsub aRab aRcol aRdd aRk0 aRk1 aRk2 aRk3 aRk5 "ValueError.__new__"))
    (s_NoRow:K.lookup aRN=some ⟨aRc,aRod,.dict aRes aRn,aRsl⟩)
    (t_NoRow:iF aRes=true)
    (i_NoRow:nsFind aRes "__init__" = none)
    (l_NoSigns:K.lookup aS=some (excClassObj aSnm aSq aS aSN aSbs (.ref aP :: kZ) aShd aSsn aSsub aSab aScol aSdd aSk0 aSk1 aSk2 aSk3 aSk5 "ValueError.__new__"))
    (s_NoSigns:K.lookup aSN=some ⟨aSc,aSod,.dict aSes aSn,aSsl⟩)
    (t_NoSigns:iF aSes=true)
    (i_NoSigns:nsFind aSes "__init__" = none)
    (f1_NoRow:aa3 K (.ref aR) "__getattribute__" = some (some (.builtin "BaseException.__getattribute__")))
    (f2_NoRow:aa3 K (.ref aR) "__getattr__" = some none)
    (f3_NoRow:aa3 K (.ref aR) "__class__" = some (some (.builtin "object.__class__")))
    (f4_NoRow:aam K (.ref aR) (.type "BaseException")=some true)
    (f5_NoRow:aam K (.ref aR) (.type "object")=some true)
    (f6_NoRow:aam K (.ref aR) (.type "ValueError")=some true)
    (f1_NoSigns:aa3 K (.ref aS) "__getattribute__" = some (some (.builtin "BaseException.__getattribute__")))
    (f2_NoSigns:aa3 K (.ref aS) "__getattr__" = some none)
    (f3_NoSigns:aa3 K (.ref aS) "__class__" = some (some (.builtin "object.__class__")))
    (f4_NoSigns:aam K (.ref aS) (.type "BaseException")=some true)
    (f5_NoSigns:aam K (.ref aS) (.type "object")=some true)
    (f6_NoSigns:aam K (.ref aS) (.type "ValueError")=some true)
    (c_NoRow:aaN K aR=some aRcd)
    (y_NoRow:aaX K (.ref aR)=some (.type "type"))
    (c_NoSigns:aaN K aS=some aScd)
    (y_NoSigns:aaX K (.ref aS)=some (.type "type"))
    (c_NoWay:aaN K aW=some aWcd)
    (y_NoWay:aaX K (.ref aW)=some (.type "type"))
    (c_NoNumber:aaN K aN=some aNcd)
    (y_NoNumber:aaX K (.ref aN)=some (.type "type"))
    (c_NoPlace:aaN K aL=some aLcd)
    (y_NoPlace:aaX K (.ref aL)=some (.type "type"))
    (c_NoFit:aaN K aF=some aFcd)
    (y_NoFit:aaX K (.ref aF)=some (.type "type"))
    (c_NoForm:aaN K aO=some aOcd)
    (y_NoForm:aaX K (.ref aO)=some (.type "type"))
    (c_NoAsk:aaN K aA=some aAcd)
    (y_NoAsk:aaX K (.ref aA)=some (.type "type"))
    (c_NoHolds:aaN K aH=some aHcd)
    (y_NoHolds:aaX K (.ref aH)=some (.type "type"))
    (c_NoText:aaN K aT=some aTcd)
    (y_NoText:aaX K (.ref aT)=some (.type "type"))
    (c_TooMany:aaN K aM=some aMcd)
    (y_TooMany:aaX K (.ref aM)=some (.type "type"))
    (u_NoRow_NoSigns:aam K (.ref aR) (.ref aS)=some false)
    (d_NoRow_NoSigns:(Value.ref aR == Value.ref aS)=false)
    (u_NoRow_NoWay:aam K (.ref aR) (.ref aW)=some false)
    (d_NoRow_NoWay:(Value.ref aR == Value.ref aW)=false)
    (u_NoRow_NoNumber:aam K (.ref aR) (.ref aN)=some false)
    (d_NoRow_NoNumber:(Value.ref aR == Value.ref aN)=false)
    (u_NoRow_NoPlace:aam K (.ref aR) (.ref aL)=some false)
    (d_NoRow_NoPlace:(Value.ref aR == Value.ref aL)=false)
    (u_NoRow_NoFit:aam K (.ref aR) (.ref aF)=some false)
    (d_NoRow_NoFit:(Value.ref aR == Value.ref aF)=false)
    (u_NoRow_NoForm:aam K (.ref aR) (.ref aO)=some false)
    (d_NoRow_NoForm:(Value.ref aR == Value.ref aO)=false)
    (u_NoRow_NoAsk:aam K (.ref aR) (.ref aA)=some false)
    (d_NoRow_NoAsk:(Value.ref aR == Value.ref aA)=false)
    (u_NoRow_NoHolds:aam K (.ref aR) (.ref aH)=some false)
    (d_NoRow_NoHolds:(Value.ref aR == Value.ref aH)=false)
    (u_NoRow_NoText:aam K (.ref aR) (.ref aT)=some false)
    (d_NoRow_NoText:(Value.ref aR == Value.ref aT)=false)
    (u_NoRow_TooMany:aam K (.ref aR) (.ref aM)=some false)
    (d_NoRow_TooMany:(Value.ref aR == Value.ref aM)=false)
    (u_NoSigns_NoRow:aam K (.ref aS) (.ref aR)=some false)
    (d_NoSigns_NoRow:(Value.ref aS == Value.ref aR)=false)
    (u_NoSigns_NoWay:aam K (.ref aS) (.ref aW)=some false)
    (d_NoSigns_NoWay:(Value.ref aS == Value.ref aW)=false)
    (u_NoSigns_NoNumber:aam K (.ref aS) (.ref aN)=some false)
    (d_NoSigns_NoNumber:(Value.ref aS == Value.ref aN)=false)
    (u_NoSigns_NoPlace:aam K (.ref aS) (.ref aL)=some false)
    (d_NoSigns_NoPlace:(Value.ref aS == Value.ref aL)=false)
    (u_NoSigns_NoFit:aam K (.ref aS) (.ref aF)=some false)
    (d_NoSigns_NoFit:(Value.ref aS == Value.ref aF)=false)
    (u_NoSigns_NoForm:aam K (.ref aS) (.ref aO)=some false)
    (d_NoSigns_NoForm:(Value.ref aS == Value.ref aO)=false)
    (u_NoSigns_NoAsk:aam K (.ref aS) (.ref aA)=some false)
    (d_NoSigns_NoAsk:(Value.ref aS == Value.ref aA)=false)
    (u_NoSigns_NoHolds:aam K (.ref aS) (.ref aH)=some false)
    (d_NoSigns_NoHolds:(Value.ref aS == Value.ref aH)=false)
    (u_NoSigns_NoText:aam K (.ref aS) (.ref aT)=some false)
    (d_NoSigns_NoText:(Value.ref aS == Value.ref aT)=false)
    (u_NoSigns_TooMany:aam K (.ref aS) (.ref aM)=some false)
    (d_NoSigns_TooMany:(Value.ref aS == Value.ref aM)=false)
    (w_NoRow:aam K (.type "NoneType") (.ref aR)=some false)
    (w_NoSigns:aam K (.type "NoneType") (.ref aS)=some false)
    (w_NoWay:aam K (.type "NoneType") (.ref aW)=some false)
    (w_NoNumber:aam K (.type "NoneType") (.ref aN)=some false)
    (w_NoPlace:aam K (.type "NoneType") (.ref aL)=some false)
    (w_NoFit:aam K (.type "NoneType") (.ref aF)=some false)
    (w_NoForm:aam K (.type "NoneType") (.ref aO)=some false)
    (w_NoAsk:aam K (.type "NoneType") (.ref aA)=some false)
    (w_NoHolds:aam K (.type "NoneType") (.ref aH)=some false)
    (w_NoText:aam K (.type "NoneType") (.ref aT)=some false)
    (w_TooMany:aam K (.type "NoneType") (.ref aM)=some false)
    (lD:K.lookup tD=some ⟨ocD,odD,.seq #[.ref aE] nD,slD⟩)
    (lE:K.lookup aE=some ⟨.type "tuple",odE,.seq #[] nE,slE⟩)
    (hC:PySem.W.codeHdIn K cL T=true) :
    ∃ fd:FuncData,(∀ (s:Shared) (v:Value),BindsTo s fd ⟨[v],[]⟩ [("script",v)])∧∀ base:Heap,K.In base→base.Ns mainGlobals mg→base.BuiltinsAt mg T→FnOk l.prog w K mg base CX0 26 fa fd ["script"] (nM K T):=by
  have e:=hfa.symm.trans (aaJ X G a40);cases e;obtain ⟨_,bz,ch,c4⟩:=q0.use X G (ps:=["thing"]) fun _ _ _ _ _ _ us hl=>match us,hl with|[_],_=>rfl
  obtain ⟨_,bt,cc,cY⟩:=q1.use X G (ps:=["thing"]) fun _ _ _ _ _ _ us hl=>match us,hl with|[_],_=>rfl
  obtain ⟨_,bv,ce,c1⟩:=q2.use X G (ps:=["thing"]) fun _ _ _ _ _ _ us hl=>match us,hl with|[_],_=>rfl
  obtain ⟨_,bu,cd,cZ⟩:=q3.use X G (ps:=["thing"]) fun _ _ _ _ _ _ us hl=>match us,hl with|[_],_=>rfl
  obtain ⟨_,bw,cf,c2⟩:=q4.use X G (ps:=["thing"]) fun _ _ _ _ _ _ us hl=>match us,hl with|[_],_=>rfl
  obtain ⟨_,bI,cp,dd⟩:=q5.use X G (ps:=["thing"]) fun _ _ _ _ _ _ us hl=>match us,hl with|[_],_=>rfl
  obtain ⟨_,bJ,cr,de⟩:=q6.use X G (ps:=["thing"]) fun _ _ _ _ _ _ us hl=>match us,hl with|[_],_=>rfl
  obtain ⟨_,bN,cv,dj⟩:=q7.use X G (ps:=["many"]) fun _ _ _ _ _ _ us hl=>match us,hl with|[_],_=>rfl
  obtain ⟨_,bq,b9,cV⟩:=q8.use X G (ps:=["thing","many"]) fun _ _ _ _ _ _ us hl=>match us,hl with|[_,_],_=>rfl
  obtain ⟨_,bm,b6,cQ⟩:=q9.use X G (ps:=["stretch"]) fun _ _ _ _ _ _ us hl=>match us,hl with|[_],_=>rfl
  obtain ⟨_,bH,co,dc⟩:=q10.use X G (ps:=["way"]) fun _ _ _ _ _ _ us hl=>match us,hl with|[_],_=>rfl
  obtain ⟨_,bD,cl,c8⟩:=q11.use X G (ps:=["way"]) fun _ _ _ _ _ _ us hl=>match us,hl with|[_],_=>rfl
  obtain ⟨_,bs,cb,cX⟩:=q12.use X G (ps:=["thing"]) fun _ _ _ _ _ _ us hl=>match us,hl with|[_],_=>rfl
  obtain ⟨_,br,ca,cW⟩:=q13.use X G (ps:=["way","signs"]) fun _ _ _ _ _ _ us hl=>match us,hl with|[_,_],_=>rfl
  obtain ⟨_,bl,b5,cO⟩:=q14.use X G (ps:=["signs","many"]) fun _ _ _ _ _ _ us hl=>match us,hl with|[_,_],_=>rfl
  obtain ⟨_,bP,cw,dk⟩:=q15.use X G (ps:=["signs","counts","left","right"]) fun _ _ _ _ _ _ us hl=>match us,hl with|[_,_,_,_],_=>rfl
  obtain ⟨_,bE,cm,c9⟩:=q16.use X G (ps:=["signs","counts","stretch"]) fun _ _ _ _ _ _ us hl=>match us,hl with|[_,_,_],_=>rfl
  obtain ⟨_,bM,cu,di⟩:=q17.use X G (ps:=["left","sign","right"]) fun _ _ _ _ _ _ us hl=>match us,hl with|[_,_,_],_=>rfl
  obtain ⟨_,bn,b7,cR⟩:=q18.use X G (ps:=["way"]) fun _ _ _ _ _ _ us hl=>match us,hl with|[_],_=>rfl
  obtain ⟨_,bi,b2,cI⟩:=q19.use X G (ps:=["row","signs"]) fun _ _ _ _ _ _ us hl=>match us,hl with|[_,_],_=>rfl
  have bL:=sM (st:=aX) l20 c20 k20;have ct:=bL.binds (ps:=["row","signs","left_out"]) (ds:=[]) fun _ _ _ _ _ _ s us KX hl=>match us,hl with|[_,_,_],_=>BindsTo.of_defaults rfl (KX _ _ lD) rfl rfl rfl
  have bQ:=bL.binds (ps:=["row","signs","left_out"]) (ds:=[.ref aE]) fun _ _ _ _ _ _ s us KX hl=>by obtain ⟨a,b,rfl⟩:=tH hl;exact BindsTo.of_defaults rfl (KX _ _ lD) rfl rfl rfl
  have dg:=aaJ X G a20;obtain ⟨_,bC,ck,c7⟩:=q21.use X G (ps:=["picks","joints"]) fun _ _ _ _ _ _ us hl=>match us,hl with|[_,_],_=>rfl
  have bK:=sN (st:=a_) l22 c22 k22;have cs:Binds K _ ["found"] []:=.all (fun us hl=>match us,hl with|[_],_=>(rfl:bindArgs (aaQ "pick_three" "pick_three" (bo a_) (aV a_) (ag a_) .none kV22 dc22 pm22 an22 (.ref cL) ct22) _=_));have df:=aaJ X G a22;obtain ⟨_,bk,b4,cN⟩:=q23.use X G (ps:=["row","signs","thing"]) fun _ _ _ _ _ _ us hl=>match us,hl with|[_,_,_],_=>rfl
  obtain ⟨_,bj,b3,cM⟩:=q24.use X G (ps:=["row","signs"]) fun _ _ _ _ _ _ us hl=>match us,hl with|[_,_],_=>rfl
  obtain ⟨_,bp,b8,cU⟩:=q25.use X G (ps:=["row","signs","way","thing"]) fun _ _ _ _ _ _ us hl=>match us,hl with|[_,_,_,_],_=>rfl
  obtain ⟨_,bG,cn,db⟩:=q26.use X G (ps:=["row","signs","way","thing"]) fun _ _ _ _ _ _ us hl=>match us,hl with|[_,_,_,_],_=>rfl
  obtain ⟨_,bA,ci,c5⟩:=q27.use X G (ps:=["row","signs","paper","stretch"]) fun _ _ _ _ _ _ us hl=>match us,hl with|[_,_,_,_],_=>rfl
  obtain ⟨_,bB,cj,c6⟩:=q28.use X G (ps:=["paper","signs","stretch"]) fun _ _ _ _ _ _ us hl=>match us,hl with|[_,_,_],_=>rfl
  obtain ⟨_,bx,cg,c3⟩:=q29.use X G (ps:=["row","signs","thing"]) fun _ _ _ _ _ _ us hl=>match us,hl with|[_,_,_],_=>rfl
  obtain ⟨_,a9,bS,cy⟩:=q30.use X G (ps:=["cell","k"]) fun _ _ _ _ _ _ us hl=>match us,hl with|[_,_],_=>rfl
  obtain ⟨_,bd,bX,cD⟩:=q31.use X G (ps:=["cell"]) fun _ _ _ _ _ _ us hl=>match us,hl with|[_],_=>rfl
  obtain ⟨_,bg,b0,cG⟩:=q32.use X G (ps:=["pot","many"]) fun _ _ _ _ _ _ us hl=>match us,hl with|[_,_],_=>rfl
  obtain ⟨_,bc,bW,cC⟩:=q33.use X G (ps:=["pot","way"]) fun _ _ _ _ _ _ us hl=>match us,hl with|[_,_],_=>rfl
  obtain ⟨_,be,bY,cE⟩:=q34.use X G (ps:=["pot","many"]) fun _ _ _ _ _ _ us hl=>match us,hl with|[_,_],_=>rfl
  obtain ⟨_,bf,bZ,cF⟩:=q35.use X G (ps:=["pot"]) fun _ _ _ _ _ _ us hl=>match us,hl with|[_],_=>rfl
  obtain ⟨_,ba,bT,cz⟩:=q36.use X G (ps:=["pot","row"]) fun _ _ _ _ _ _ us hl=>match us,hl with|[_,_],_=>rfl
  obtain ⟨_,bb,bV,cB⟩:=q37.use X G (ps:=["pot"]) fun _ _ _ _ _ _ us hl=>match us,hl with|[_],_=>rfl
  obtain ⟨_,a8,bR,cx⟩:=q38.use X G (ps:=["caught"]) fun _ _ _ _ _ _ us hl=>match us,hl with|[_],_=>rfl
  obtain ⟨_,bh,b1,cH⟩:=q39.use X G (ps:=["at","row","signs","way","thing"]) fun _ _ _ _ _ _ us hl=>match us,hl with|[_,_,_,_,_],_=>rfl
  have bF:=re (st:=gc) l40 c40 k40;have B:Bu K mg:=⟨aax X G dA,aax X G dx,aax X G dw,aax X G dq,aax X G dL,aax X G dO,aax X G dD,aax X G dK,aax X G dG,aax X G dH,aax X G du,aax X G dM,aax X G dn,aax X G dF,aax X G dE,aax X G dm,aax X G dt,aax X G dr,aax X G dJ,aax X G dI,aax X G dp,aax X G dP⟩
  have B':Co K mg tM cS:=⟨aaJ X G gM,aaJ X G gS,fun H=>.inr ⟨_,_,_,lS,rfl,rfl,by show 3≤sizeLine;decide,.cons ⟨_,rfl⟩ (.cons ⟨_,rfl⟩ (.cons ⟨_,rfl⟩ .nil))⟩⟩
  have B3:Cp K mg tM3 cP:=⟨aaJ X G gM3,aaJ X G gP,fun H=>.inr ⟨_,_,_,lP,rfl,rfl,by show 7≤sizeLine;decide,.cons ⟨_,rfl⟩ (.cons ⟨_,rfl⟩ (.cons ⟨_,rfl⟩ (.cons ⟨_,rfl⟩ (.cons ⟨_,rfl⟩ (.cons ⟨_,rfl⟩ (.cons ⟨_,rfl⟩ .nil))))))⟩⟩
  have XC:Xc K mg aP aR aS:=⟨aaJ X G n_PutError,aaJ X G n_NoRow,aaJ X G n_NoSigns,rz l_NoRow s_NoRow t_NoRow i_NoRow l_PutError s_PutError t_PutError i_PutError,rz l_NoSigns s_NoSigns t_NoSigns i_NoSigns l_PutError s_PutError t_PutError i_PutError,nC l_NoRow l_PutError,nC l_NoSigns l_PutError⟩
  have XK:Xk mg aR aS aW aN aL aF aO aA aH aT aM:=⟨aaJ X G n_NoRow,aaJ X G n_NoSigns,aaJ X G n_NoWay,aaJ X G n_NoNumber,aaJ X G n_NoPlace,aaJ X G n_NoFit,aaJ X G n_NoForm,aaJ X G n_NoAsk,aaJ X G n_NoHolds,aaJ X G n_NoText,aaJ X G n_TooMany,aax X G dl⟩
  have E0:Kf K aR aS aW aN aL aF aO aA aH aT aM (.ref aR) 0:=⟨lV,(a6 d_NoRow_NoSigns c_NoSigns y_NoSigns u_NoRow_NoSigns),(a6 d_NoRow_NoNumber c_NoNumber y_NoNumber u_NoRow_NoNumber),(a6 d_NoRow_TooMany c_TooMany y_TooMany u_NoRow_TooMany),iC (a6 d_NoRow_NoWay c_NoWay y_NoWay u_NoRow_NoWay) (a6 d_NoRow_NoPlace c_NoPlace y_NoPlace u_NoRow_NoPlace) (a6 d_NoRow_NoFit c_NoFit y_NoFit u_NoRow_NoFit),dN (a6 d_NoRow_NoForm c_NoForm y_NoForm u_NoRow_NoForm) (a6 d_NoRow_NoHolds c_NoHolds y_NoHolds u_NoRow_NoHolds),dN (a6 d_NoRow_NoText c_NoText y_NoText u_NoRow_NoText) (a6 d_NoRow_NoAsk c_NoAsk y_NoAsk u_NoRow_NoAsk)⟩
  have X0:Kx K aR:=⟨rj l_NoRow f1_NoRow f2_NoRow f3_NoRow f4_NoRow f5_NoRow,oa f6_NoRow⟩
  have E1:Kf K aR aS aW aN aL aF aO aA aH aT aM (.ref aS) 1:=⟨(a6 d_NoSigns_NoRow c_NoRow y_NoRow u_NoSigns_NoRow),lV,(a6 d_NoSigns_NoNumber c_NoNumber y_NoNumber u_NoSigns_NoNumber),(a6 d_NoSigns_TooMany c_TooMany y_TooMany u_NoSigns_TooMany),iC (a6 d_NoSigns_NoWay c_NoWay y_NoWay u_NoSigns_NoWay) (a6 d_NoSigns_NoPlace c_NoPlace y_NoPlace u_NoSigns_NoPlace) (a6 d_NoSigns_NoFit c_NoFit y_NoFit u_NoSigns_NoFit),dN (a6 d_NoSigns_NoForm c_NoForm y_NoForm u_NoSigns_NoForm) (a6 d_NoSigns_NoHolds c_NoHolds y_NoHolds u_NoSigns_NoHolds),dN (a6 d_NoSigns_NoText c_NoText y_NoText u_NoSigns_NoText) (a6 d_NoSigns_NoAsk c_NoAsk y_NoAsk u_NoSigns_NoAsk)⟩
  have X1:Kx K aS:=⟨rj l_NoSigns f1_NoSigns f2_NoSigns f3_NoSigns f4_NoSigns f5_NoSigns,oa f6_NoSigns⟩
  have E7:Kf K aR aS aW aN aL aF aO aA aH aT aM (.type "NoneType") 7:=⟨(bO c_NoRow y_NoRow w_NoRow),(bO c_NoSigns y_NoSigns w_NoSigns),(bO c_NoNumber y_NoNumber w_NoNumber),(bO c_TooMany y_TooMany w_TooMany),iC (bO c_NoWay y_NoWay w_NoWay) (bO c_NoPlace y_NoPlace w_NoPlace) (bO c_NoFit y_NoFit w_NoFit),dN (bO c_NoForm y_NoForm w_NoForm) (bO c_NoHolds y_NoHolds w_NoHolds),dN (bO c_NoText y_NoText w_NoText) (bO c_NoAsk y_NoAsk w_NoAsk)⟩
  have hE:∀ H,SqT K H aE []:=fun H=>.inr ⟨_,_,_,lE,rfl,rfl,by show 0≤sizeLine;decide,.nil⟩;refine ⟨aaQ "law" "law" (bo gc) (aV gc) (ag gc) .none kV40 dc40 pm40 an40 cd40 ct40,fun s v=>.of_eq rfl,fun base KB _ HB=>?_⟩;have Cd:=PySem.W.codeHd_of_K KB hC;have aI:Cal l.prog w K mg base "is_whole" 1 ["thing"] (dh K):=⟨_,_,lL bz B,ch,bz.kp,c4⟩
  have aB:Cal l.prog w K mg base "is_sign" 1 ["thing"] qh:=⟨_,_,mO bu B B',cd,bu.kp,cZ⟩
  have a0:Cal l.prog w K mg base "list_numbers" 21 ["way"] (jX 20):=⟨_,_,gQ bH co dc aI 20,co,bH.kp,dc⟩
  have aU:Cal l.prog w K mg base "join_signs" 21 ["way"] (nK 20):=⟨_,_,i_ bD cl c8 aI 20,cl,bD.kp,c8⟩
  have ac:Cal l.prog w K mg base "_law_mixed" 1 ["cell","k"] jZ:=⟨_,_,qI a9,bS,a9.kp,cy⟩
  have ah:Cal l.prog w K mg base "_law_pot" 1 ["cell"] qj:=⟨_,_,uw bd B,bX,bd.kp,cD⟩
  have ak:Cal l.prog w K mg base "_law_take" 2 ["pot","many"] eX:=⟨_,_,sw bg ac,b0,bg.kp,cG⟩
  have af:Cal l.prog w K mg base "_law_number" 3 ["pot","way"] hU:=⟨_,_,oP bc ak,bW,bc.kp,cC⟩
  have ai:Cal l.prog w K mg base "_law_row" 4 ["pot","many"] mz:=⟨_,_,uv be B ak af,bY,be.kp,cE⟩
  have aj:Cal l.prog w K mg base "_law_signs" 3 ["pot"] g9:=⟨_,_,kw bf ak,bZ,bf.kp,cF⟩
  have a5:Cal l.prog w K mg base "shorter_first" 1 ["many"] qi:=⟨_,_,gA bN B,cv,bN.kp,dj⟩
  have ax:Cal l.prog w K mg base "is_pair" 2 ["thing"] hX:=⟨_,_,mP bs B aI,cb,bs.kp,cX⟩
  have ay:Cal l.prog w K mg base "is_row" 2 ["thing"] j0:=⟨_,_,oR bt B B3 aI,cc,bt.kp,cY⟩
  have aC:Cal l.prog w K mg base "is_signs" 1 ["thing"] gq:=⟨_,_,lM bv B B3,ce,bv.kp,c1⟩
  have a7:Cal l.prog w K mg base "ways_by_cut" 1 ["signs","counts","left","right"] qg:=⟨_,_,io bP B,cw,bP.kp,dk⟩
  have ap:Cal l.prog w K mg base "counts_up_to" 2 ["signs","many"] qm:=⟨_,_,gU bl B a7,b5,bl.kp,cO⟩
  have aq:Cal l.prog w K mg base "cuts_of" 1 ["stretch"] mD:=⟨_,_,mQ bm B,b6,bm.kp,cQ⟩
  have a4:Cal l.prog w K mg base "put_sign" 1 ["left","sign","right"] fA:=⟨_,_,lJ bM,cu,bM.kp,di⟩
  have aY:Cal l.prog w K mg base "joints_of" 2 ["signs","counts","stretch"] hV:=⟨_,_,kz bE B aq,cm,bE.kp,c9⟩
  have aQ:Cal l.prog w K mg base "join_picks" 2 ["picks","joints"] tR:=⟨_,_,ja bC a4,ck,bC.kp,c7⟩
  have a3:Cal l.prog w K mg base "pick_three" 4 ["found"] (mB T):=⟨_,_,i9 bK Cd HB B.imin,cs,bK.kp,df⟩
  have aa:uY l.prog w K mg base "picks_by_stretch" 5 ["row","signs","left_out"] (qk (K:=K) T) [.ref aE]:=⟨_,_,_,fG bL B ap a5 aY aQ a3,bQ,.cons rfl .nil,bL.kp,dg⟩
  have a1:dS l.prog w K mg base "need_row" 3 ["thing"] (dW aR):=⟨_,_,ku bI XC ay,cp,bI.kp,dd⟩
  have a2:dS l.prog w K mg base "need_signs" 2 ["thing"] (cT aS):=⟨_,_,ip bJ XC aC,cr,bJ.kp,de⟩
  have am:dS l.prog w K mg base "bounds_of" 6 ["row","signs"] (jr aR aS T):=⟨_,_,je bi B hE a1 a2 aa,b2,bi.kp,cI⟩
  have an:dS l.prog w K mg base "bounds_paper" 7 ["row","signs"] (jr aR aS T):=⟨_,_,gB bj am,b3,bj.kp,cM⟩
  have az:Cal l.prog w K mg base "is_sign" 1 ["thing"] jW:=⟨_,_,lN bu B B',cd,bu.kp,cZ⟩
  have aD:Cal l.prog w K mg base "is_way" 2 ["thing"] hW:=⟨_,_,mM bw B B' aI az,cf,bw.kp,c2⟩
  have aw:Cal l.prog w K mg base "has_signs_among" 22 ["way","signs"] ql:=⟨_,_,kA br B aU,ca,br.kp,cW⟩
  have ar:Cal l.prog w K mg base "find_worth" 10 ["way"] (hZ 9):=⟨_,_,jd bn b7 cR aI a4 9,b7,bn.kp,cR⟩
  have av:Cal l.prog w K mg base "has_all_stretches" 2 ["thing","many"] mC:=⟨_,_,lO bq B a5,b9,bq.kp,cV⟩
  have aK:Cal l.prog w K mg base "join_ends" 2 ["paper","signs","stretch"] rX:=⟨_,_,mK bB,cj,bB.kp,c6⟩
  have aJ:Cal l.prog w K mg base "is_within" 3 ["row","signs","paper","stretch"] jV:=⟨_,_,jb bA B aK,ci,bA.kp,c5⟩
  have ao:dS l.prog w K mg base "bounds_say" 4 ["row","signs","thing"] (g_ aR aS):=⟨_,_,ir bk B a1 a2 av ax aJ a5,b4,bk.kp,cN⟩
  have aG:Cal l.prog w K mg base "is_way_with" 23 ["row","signs","thing"] nN:=⟨_,_,iq bx aD a0 aw,cg,bx.kp,c3⟩
  have au:dS l.prog w K mg base "greatest_shown" 24 ["row","signs","way","thing"] (jq aR aS):=⟨_,_,fU bp ao aG ar,b8,bp.kp,cU⟩
  have aZ:dS l.prog w K mg base "least_shown" 24 ["row","signs","way","thing"] (jq aR aS):=⟨_,_,gR bG ao aG ar,cn,bG.kp,db⟩
  have ab:Cal l.prog w K mg base "_law_flags" 1 ["caught"] (j5 K aR aS aW aN aL aF aO aA aH aT aM):=⟨_,_,qJ a8 B XK,bR,a8.kp,cx⟩
  have al:Cal l.prog w K mg base "_law_word" 25 ["at","row","signs","way","thing"] (my T):=⟨_,_,ss bh XC E0 E1 E7 X0 X1 ao an au aZ ab,b1,bh.kp,cH⟩
  have ae:Cal l.prog w K mg base "_law_no_signs" 3 ["pot"] gp:=⟨_,_,lK bb B ak,bV,bb.kp,cB⟩
  have ad:Cal l.prog w K mg base "_law_no_row" 3 ["pot","row"] jY:=⟨_,_,oQ ba B ak,bT,ba.kp,cz⟩
  exact uz bF B ah ak ai aj ad ae al
theorem walk {T c:Addr} {l:PySem.W.OpenLaw} {q:Program} {loose:List Str} {XP:(Str→Option Value)→Heap→Prop} {YP:World→Heap→Prop} {d:DefRec} {K:Params→aab} (hn:l.most=some 63) (hdf:d.params.defaults=[]) (hi:PyProof.Rows.importsNone q=true)
    (hY:∀ (w:World) (h:Heap),YP w h→(K w.params).In h∧h.get? T=some (PySem.W.tabObj #[])) (hC:∀ w:World,PySem.W.codeHdIn (K w.params) c T=true) (hKT:∀ w:World,(K w.params).lookup T=none)
    (F:∀ (w:World) (mg:Str→Option Value) (fa:Addr) (h:Heap),(K w.params).In h→h.Ns mainGlobals mg→mg d.name=some (.ref fa) →
      ∃ fd:FuncData,(∀ (s:Shared) (u:Value),BindsTo s fd ⟨[u],[]⟩ [("script",u)])∧∀ base:Heap,(K w.params).In base→base.Ns mainGlobals mg→base.BuiltinsAt mg T→FnOk l.prog w (K w.params) mg base CX0 26 fa fd ["script"] (nM (K w.params) T)) :
    PySem.W.WalkO q loose XP YP l.row.toRowW d [] (fun f vs=>PySem.call f vs) :=
  L2.walk_ofT (T:=T) (c:=c) (qual:=vq) (n:=63) (k:=26) (x:="script") (CX:=fun _=>CX0) (sp:=fun w=>nM (K w.params) T) hn (by decide) hdf ⟨rfl,by decide,by decide,rfl⟩ hi hY hC hKT F (fun _ _ a ns hl hT hS=>⟨a,ns,rfl,hS,hl,⟨_,hT⟩,fun _=>rfl⟩) fun _ _ _ _ _ z=>z
end Put
namespace PySem.W.Fast
def tw10529820299675358135:=0
def tw4824176969504098239:=0
def tw336255100209008482:=0
def tw7079176863194894715:=0
def tw9482535420003776282:=0
def tw12533777076010185138:=0
def tw5873018401343018459:=0
def tw7625447714795788084:=0
def tw1152396433560768533:=0
def tw12698153615159443083:=0
def tw17906461266693057899:=0
def tw11744803979685200335:=0
def tw2368788673967354799:=0
def tw7889608434276530917:=0
def tw2385212431915054620:=0
def tw6041539871757211071:=0
def tw6566917757151623719:=0
def tw15180927677442492437:=0
def tw1400704122554094714:=0
def tw4201550788197575881:=0
def tw17919578825239733875:=0
def tw4987209911673755894:=0
def tw4437191430884555033:=0
def tw7038317174611191370:=0
def tw5626090123659937822:=0
def tw7168945130272266029:=0
def tw1098130860922616363:=0
def tw1979555177015413121:=0
def tw12238332177439515456:=0
def tw4666504193045790263:=0
def tw700466656207756334:=0
def tw10083977072202332980:=0
def tw10889192921684094661:=0
def tw584256062722988439:=0
def tw16335272384889181157:=0
def tw6233943728096009090:=0
def tw8463697196305349402:=0
def tw7562730459268902202:=0
def tw3111144626146358419:=0
def tw2621436592255419947:=0
def tw18288489076509995744:=0
def tw11547696065207390378:=0
def tw15333400365784972863:=0
def tw18268134638851039658:=0
def tw12765446301971852228:=0
def tw5412942354558514357:=0
def tw16095390247041955862:=0
def tw8048403474333052192:=0
def tw15123489399324419171:=0
def tw8423177452258083106:=0
def tw15063068464132014299:=0
def tw234935753871954247:=0
def tw9994890412594801579:=0
def tw16274670596318745731:=0
def tw2990582749976274250:=0
def tw14319546691682947898:=0
def tw12010262990504930558:=0
def tw7675728533772113136:=0
def tw3455127264982767522:=0
def tw14098152320163585567:=0
def tw16919685209463774584:=0
def tw15342022438099439628:=0
def tw2536711467190827902:=0
def tw6449396602427270013:=0
def tw8885324152657525944:=0
def tw292321793240897821:=0
def tw5936753128378809247:=0
def tw10036172853428613887:=0
def tw9036724032057327661:=0
def tw5746309572429248802:=0
def tw13326174194354522207:=0
def tw13058198725849611768:=0
def tw7672031545086702526:=0
def tw6289472505810408852:=0
def tw16806796431676799526:=0
def tw8989502991650705418:=0
def tw17331020431443489856:=0
def tw18230780627430614098:=0
def tw12364167162132863759:=0
def tw12062959540181510473:=0
def tw16215449035889171940:=0
def tw9028654186821651922:=0
def tw1412673366811085588:=0
def tw14946050489536231475:=0
def tw7204719527801614796:=0
def tw12340815792769955:=0
def tw16635642063566872715:=0
def tw10344897565916133650:=0
def tw5466689267434518151:=0
def tw6888524820820421988:=0
def tw2149464966762029104:=0
def tw14459590485537503424:=0
def tw5409167006271213174:=0
def tw10177114529220187812:=0
def tw16615166060976445808:=0
def tw5286082167734115977:=0
def tw9591446191440066878:=0
def tw2588156479312599267:=0
def tw14940469890398594104:=0
def tw1486798435877526184:=0
def tw6568529917445797219:=0
def tw14066179243625189697:=0
def tw6815796807606454327:=0
def tw3300205715181920543:=0
def tw4094731695430072963:=0
def tw2202374065575047116:=0
def tw5429634063688226081:=0
def tw7362313616966652067:=0
def tw643243759025074126:=0
def tw1259838377909497045:=0
def tw17941737196677157199:=0
def tw10250748119524188229:=0
def tw7153822989664597791:=0
def tw9589439682974772605:=0
def tw4490937755899651972:=0
def tw14357179420922758916:=0
def tw14351424496340376914:=0
def tw16963839026170477248:=0
def tw13346872853789538611:=0
def tw6462495508313384126:=0
def tw9806722685111986096:=0
def tw11940739827546159173:=0
def tw3932061412160505069:=0
def tw667226904437254602:=0
def tw16866807164001119495:=0
def tw5567794512346812481:=0
def tw16336126116247332358:=0
def tw11155384567582922597:=0
def tw8096900609920204690:=0
def tw4811602681257919092:=0
def tw17052226324820164520:=0
def tw16093031258794282387:=0
def tw16841003526333160431:=0
def tw3390934318022218409:=0
def tw11037798468096701652:=0
def tw10490771131709590817:=0
def tw13328804111320016258:=0
def tw13923184113736844048:=0
def tw17596854045231760387:=0
def tw11756926303550613287:=0
def tw8092444739190859480:=0
def tw15210457733608590807:=0
def tw3004231653762760277:=0
def tw10853206935077435426:=0
def tw7245520164738479541:=0
def tw12958432177728899717:=0
def tw7515173419405534898:=0
def tw14236100396901075492:=0
def tw2068150160206073519:=0
def tw2776048741445494587:=0
def tw12164860847291135611:=0
def tw12007652287373588196:=0
def tw14066843795007882989:=0
def tw17005828918718065776:=0
def tw8327382652403517450:=0
def tw4664794827460177749:=0
def tw5729226907102740436:=0
def tw2415021399947891103:=0
def tw12809589692635180738:=0
def tw12011750366103159120:=0
def tw8571083062362006500:=0
def tw1130474999252833801:=0
def tw17158526570341187494:=0
def tw12976684166779496138:=0
def tw11498456367698088118:=0
def tw18340498038111885435:=0
def tw6421630785796275978:=0
def tw5765701548644630481:=0
def tw8465743335727533556:=0
def tw5679637004673013343:=0
def tw18133801661906904954:=0
def tw14600774890111320538:=0
def tw7868668764215540506:=0
def tw8462776113079881406:=0
def tw11079019503228166799:=0
def tw12659390674945393556:=0
def tw5970364832543972046:=0
def tw8784892632206771759:=0
def tw6339366392965026395:=0
def tw11076124105878238078:=0
def tw12491760290316536860:=0
def tw13395698690090776472:=0
def tw14906226300462749635:=0
def tw5164485978028935238:=0
def tw16756493987233659432:=0
def tw1604560861048086601:=0
def tw17744692262461728424:=0
def tw10987742011911919710:=0
def tw8313306636834386351:=0
def tw9596411782874039447:=0
def tw9501141767559038789:=0
def tw34611724972131518:=0
def tw17350985670433083179:=0
def tw16355139880588045792:=0
def tw18358238756580588767:=0
def tw2733474629437021092:=0
def tw1901143928836761003:=0
def tw2794422327650269696:=0
def tw15723080077342362131:=0
def tw11924213117514729467:=0
def tw3914798130407726205:=0
def tw552519980948875497:=0
def tw1384362832738649743:=0
def tw11550088440644522646:=0
def tw2686848229136975550:=0
def tw9153025009537133341:=0
def tw14918448700496942681:=0
def tw358398570264479231:=0
def tw2297078973655127069:=0
def tw12951229213624751905:=0
def tw2370028528614869559:=0
def tw6067298662393863466:=0
def tw12278338664828367282:=0
def tw16546340743096273130:=0
def tw13717774858476537546:=0
def tw5572315239139445540:=0
def tw325647987415134360:=0
def tw5637040279274452895:=0
def tw2903410184084247370:=0
def tw6301548661847647242:=0
def tw5887331383794189630:=0
def tw7826291736496903194:=0
def tw12276597158629168421:=0
def tw913365900906170667:=0
def tw7866369931450741947:=0
def tw4674456587212826818:=0
def tw10544961960812186758:=0
def tw908616279249099876:=0
def tw3866986246849399533:=0
def tw9375137366851127473:=0
def tw9334510701117037119:=0
def tw379898504136751682:=0
def tw1350728115428494577:=0
def tw262398108226941464:=0
def tw2953305742420569624:=0
def tw2723399072063619849:=0
def tw8152476401562491801:=0
def tw10243289880633003055:=0
def tw16259728429751733810:=0
def tw3395572790057855503:=0
def tw11316393634519274665:=0
def tw8669998498997233908:=0
def tw7119332617642757128:=0
def tw2412553158879301847:=0
def tw6734708235130255323:=0
def tw793946834682971736:=0
def tw9725652292390882724:=0
def tw637557218522719034:=0
def tw5845781057082493303:=0
def tw1739554756840311501:=0
def tw378266979948862908:=0
def tw650746693836827895:=0
def tw7483435201428952484:=0
def tw9312190800675712835:=0
def tw2998128717811667861:=0
def tw16267140552076902754:=0
def tw2102387876778472776:=0
def tw9654187179232379940:=0
def tw16113392230815942454:=0
def tw12499981710258421636:=0
def tw10224020528740930159:=0
def tw7843978799396438095:=0
def tw5186761383718179471:=0
def tw13544218060569561611:=0
def tw13435401116450487266:=0
def tw4946934805445500901:=0
def tw2698084971510178140:=0
def tw8058878150917840017:=0
def tw13259429560140875068:=0
def tw15564359933578676605:=0
def tw880412785437744460:=0
def tw4639449540005704810:=0
def tw15205393099148479143:=0
def tw3916134786415344889:=0
def tw3419511098505105004:=0
def tw11632444718256995967:=0
def tw5481714547648492649:=0
def tw4557821866988437951:=0
def tw17066441404498957045:=0
def tw3105745622995693157:=0
def tw16749956876027717857:=0
def tw10160719633866064459:=0
def tw8321611182131822224:=0
def tw2467723552514272987:=0
def tw4829024794313487120:=0
def tw1415067084279297894:=0
def tw12854297172365599609:=0
def tw2318779323419856689:=0
end PySem.W.Fast
open PySem PySem.W PyProof.Rows
set_option maxRecDepth 100000 in
set_option maxHeartbeats 0 in
theorem PySem.Challenge.cw_putsigns_k37_papers_of_bounds_refused_holds : PySem.Challenge.rw_putsigns_k37_papers_of_bounds_refused.Holds := by
  w_on;o_law;k_head;(case hw=>w_witness2)
  k_fill
  refine Put.walk (T:=303) (c:=307) (l:=PySem.Challenge.rw_putsigns_k37_papers_of_bounds_refused) rfl rfl ?hi (fun w h Y=>⟨PySem.W.km_in_of Y,PySem.W.km_tabs_of Y 303 (by simp)⟩) (fun w=>rfl) (fun w=>rfl) ?F
  case hi=>first|rfl|decide +kernel
  case F =>
    intro w mg fa h KX G hmg;refine' Put.all_mk (T:=303) (cL:=307) KX G hmg ?q0 ?q1 ?q2 ?q3 ?q4 ?q5 ?q6 ?q7 ?q8 ?q9 ?q10 ?q11 ?q12 ?q13 ?q14 ?q15 ?q16 ?q17 ?q18 ?q19 ?a20 ?l20 ?c20 ?k20 ?q21 ?a22 ?l22 ?c22 ?k22 ?q23 ?q24 ?q25 ?q26 ?q27 ?q28 ?q29 ?q30 ?q31 ?q32 ?q33 ?q34 ?q35 ?q36 ?q37 ?q38 ?q39 ?a40 ?l40 ?c40 ?k40 ?z_len ?z_isinstance ?z_int ?z_bool ?z_str ?z_tuple ?z_list ?z_sorted ?z_range ?z_repr ?z_enumerate ?z_sum ?z_all ?z_min ?z_max ?z_abs ?z_divmod ?z_dict ?z_set ?z_reversed ?z_any ?z_zip ?gM ?gS ?lS ?gM3 ?gP ?lP ?n_PutError ?n_NoRow ?n_NoSigns ?n_NoWay ?n_NoNumber ?n_NoPlace ?n_NoFit ?n_NoForm ?n_NoAsk ?n_NoHolds ?n_NoText ?n_TooMany ?z_ValueError ?l_PutError ?s_PutError ?t_PutError ?i_PutError ?l_NoRow ?s_NoRow ?t_NoRow ?i_NoRow ?l_NoSigns ?s_NoSigns ?t_NoSigns ?i_NoSigns ?f1_NoRow ?f2_NoRow ?f3_NoRow ?f4_NoRow ?f5_NoRow ?f6_NoRow ?f1_NoSigns ?f2_NoSigns ?f3_NoSigns ?f4_NoSigns ?f5_NoSigns ?f6_NoSigns ?c_NoRow ?y_NoRow ?c_NoSigns ?y_NoSigns ?c_NoWay ?y_NoWay ?c_NoNumber ?y_NoNumber ?c_NoPlace ?y_NoPlace ?c_NoFit ?y_NoFit ?c_NoForm ?y_NoForm ?c_NoAsk ?y_NoAsk ?c_NoHolds ?y_NoHolds ?c_NoText ?y_NoText ?c_TooMany ?y_TooMany ?u_NoRow_NoSigns ?d_NoRow_NoSigns ?u_NoRow_NoWay ?d_NoRow_NoWay ?u_NoRow_NoNumber ?d_NoRow_NoNumber ?u_NoRow_NoPlace ?d_NoRow_NoPlace ?u_NoRow_NoFit ?d_NoRow_NoFit ?u_NoRow_NoForm ?d_NoRow_NoForm ?u_NoRow_NoAsk ?d_NoRow_NoAsk ?u_NoRow_NoHolds ?d_NoRow_NoHolds ?u_NoRow_NoText ?d_NoRow_NoText ?u_NoRow_TooMany ?d_NoRow_TooMany ?u_NoSigns_NoRow ?d_NoSigns_NoRow ?u_NoSigns_NoWay ?d_NoSigns_NoWay ?u_NoSigns_NoNumber ?d_NoSigns_NoNumber ?u_NoSigns_NoPlace ?d_NoSigns_NoPlace ?u_NoSigns_NoFit ?d_NoSigns_NoFit ?u_NoSigns_NoForm ?d_NoSigns_NoForm ?u_NoSigns_NoAsk ?d_NoSigns_NoAsk ?u_NoSigns_NoHolds ?d_NoSigns_NoHolds ?u_NoSigns_NoText ?d_NoSigns_NoText ?u_NoSigns_TooMany ?d_NoSigns_TooMany ?w_NoRow ?w_NoSigns ?w_NoWay ?w_NoNumber ?w_NoPlace ?w_NoFit ?w_NoForm ?w_NoAsk ?w_NoHolds ?w_NoText ?w_TooMany ?lD ?lE ?hC
    (case q0=>exact L2.Fq.mk4 (by k_is) (by k_is) (by k_is) (by k_is))
    (case q1=>exact L2.Fq.mk4 (by k_is) (by k_is) (by k_is) (by k_is))
    (case q2=>exact L2.Fq.mk4 (by k_is) (by k_is) (by k_is) (by k_is))
    (case q3=>exact L2.Fq.mk4 (by k_is) (by k_is) (by k_is) (by k_is))
    (case q4=>exact L2.Fq.mk4 (by k_is) (by k_is) (by k_is) (by k_is))
    (case q5=>exact L2.Fq.mk4 (by k_is) (by k_is) (by k_is) (by k_is))
    (case q6=>exact L2.Fq.mk4 (by k_is) (by k_is) (by k_is) (by k_is))
    (case q7=>exact L2.Fq.mk4 (by k_is) (by k_is) (by k_is) (by k_is))
    (case q8=>exact L2.Fq.mk4 (by k_is) (by k_is) (by k_is) (by k_is))
    (case q9=>exact L2.Fq.mk4 (by k_is) (by k_is) (by k_is) (by k_is))
    (case q10=>exact L2.Fq.mk4 (by k_is) (by k_is) (by k_is) (by k_is))
    (case q11=>exact L2.Fq.mk4 (by k_is) (by k_is) (by k_is) (by k_is))
    (case q12=>exact L2.Fq.mk4 (by k_is) (by k_is) (by k_is) (by k_is))
    (case q13=>exact L2.Fq.mk4 (by k_is) (by k_is) (by k_is) (by k_is))
    (case q14=>exact L2.Fq.mk4 (by k_is) (by k_is) (by k_is) (by k_is))
    (case q15=>exact L2.Fq.mk4 (by k_is) (by k_is) (by k_is) (by k_is))
    (case q16=>exact L2.Fq.mk4 (by k_is) (by k_is) (by k_is) (by k_is))
    (case q17=>exact L2.Fq.mk4 (by k_is) (by k_is) (by k_is) (by k_is))
    (case q18=>exact L2.Fq.mk4 (by k_is) (by k_is) (by k_is) (by k_is))
    (case q19=>exact L2.Fq.mk4 (by k_is) (by k_is) (by k_is) (by k_is))
    (case a20=>k_is)
    (case l20=>k_is)
    (case c20=>k_is)
    (case k20=>k_is)
    (case q21=>exact L2.Fq.mk4 (by k_is) (by k_is) (by k_is) (by k_is))
    (case a22=>k_is)
    (case l22=>k_is)
    (case c22=>k_is)
    (case k22=>k_is)
    (case q23=>exact L2.Fq.mk4 (by k_is) (by k_is) (by k_is) (by k_is))
    (case q24=>exact L2.Fq.mk4 (by k_is) (by k_is) (by k_is) (by k_is))
    (case q25=>exact L2.Fq.mk4 (by k_is) (by k_is) (by k_is) (by k_is))
    (case q26=>exact L2.Fq.mk4 (by k_is) (by k_is) (by k_is) (by k_is))
    (case q27=>exact L2.Fq.mk4 (by k_is) (by k_is) (by k_is) (by k_is))
    (case q28=>exact L2.Fq.mk4 (by k_is) (by k_is) (by k_is) (by k_is))
    (case q29=>exact L2.Fq.mk4 (by k_is) (by k_is) (by k_is) (by k_is))
    (case q30=>exact L2.Fq.mk4 (by k_is) (by k_is) (by k_is) (by k_is))
    (case q31=>exact L2.Fq.mk4 (by k_is) (by k_is) (by k_is) (by k_is))
    (case q32=>exact L2.Fq.mk4 (by k_is) (by k_is) (by k_is) (by k_is))
    (case q33=>exact L2.Fq.mk4 (by k_is) (by k_is) (by k_is) (by k_is))
    (case q34=>exact L2.Fq.mk4 (by k_is) (by k_is) (by k_is) (by k_is))
    (case q35=>exact L2.Fq.mk4 (by k_is) (by k_is) (by k_is) (by k_is))
    (case q36=>exact L2.Fq.mk4 (by k_is) (by k_is) (by k_is) (by k_is))
    (case q37=>exact L2.Fq.mk4 (by k_is) (by k_is) (by k_is) (by k_is))
    (case q38=>exact L2.Fq.mk4 (by k_is) (by k_is) (by k_is) (by k_is))
    (case q39=>exact L2.Fq.mk4 (by k_is) (by k_is) (by k_is) (by k_is))
    (case a40=>k_is)
    (case l40=>k_is)
    (case c40=>k_is)
    (case k40=>k_is)
    (case z_len=>k_is)
    (case z_isinstance=>k_is)
    (case z_int=>k_is)
    (case z_bool=>k_is)
    (case z_str=>k_is)
    (case z_tuple=>k_is)
    (case z_list=>k_is)
    (case z_sorted=>k_is)
    (case z_range=>k_is)
    (case z_repr=>k_is)
    (case z_enumerate=>k_is)
    (case z_sum=>k_is)
    (case z_all=>k_is)
    (case z_min=>k_is)
    (case z_max=>k_is)
    (case z_abs=>k_is)
    (case z_divmod=>k_is)
    (case z_dict=>k_is)
    (case z_set=>k_is)
    (case z_reversed=>k_is)
    (case z_any=>k_is)
    (case z_zip=>k_is)
    (case gM=>k_is)
    (case gS=>k_is)
    (case lS=>k_is)
    (case gM3=>k_is)
    (case gP=>k_is)
    (case lP=>k_is)
    (case n_PutError=>k_is)
    (case n_NoRow=>k_is)
    (case n_NoSigns=>k_is)
    (case n_NoWay=>k_is)
    (case n_NoNumber=>k_is)
    (case n_NoPlace=>k_is)
    (case n_NoFit=>k_is)
    (case n_NoForm=>k_is)
    (case n_NoAsk=>k_is)
    (case n_NoHolds=>k_is)
    (case n_NoText=>k_is)
    (case n_TooMany=>k_is)
    (case z_ValueError=>k_is)
    (case l_PutError=>k_is)
    (case s_PutError=>k_is)
    (case t_PutError=>rfl)
    (case i_PutError=>rfl)
    (case l_NoRow=>k_is)
    (case s_NoRow=>k_is)
    (case t_NoRow=>rfl)
    (case i_NoRow=>rfl)
    (case l_NoSigns=>k_is)
    (case s_NoSigns=>k_is)
    (case t_NoSigns=>rfl)
    (case i_NoSigns=>rfl)
    (case f1_NoRow=>k_is)
    (case f2_NoRow=>k_is)
    (case f3_NoRow=>k_is)
    (case f4_NoRow=>k_is)
    (case f5_NoRow=>k_is)
    (case f6_NoRow=>k_is)
    (case f1_NoSigns=>k_is)
    (case f2_NoSigns=>k_is)
    (case f3_NoSigns=>k_is)
    (case f4_NoSigns=>k_is)
    (case f5_NoSigns=>k_is)
    (case f6_NoSigns=>k_is)
    (case c_NoRow=>k_is)
    (case y_NoRow=>k_is)
    (case c_NoSigns=>k_is)
    (case y_NoSigns=>k_is)
    (case c_NoWay=>k_is)
    (case y_NoWay=>k_is)
    (case c_NoNumber=>k_is)
    (case y_NoNumber=>k_is)
    (case c_NoPlace=>k_is)
    (case y_NoPlace=>k_is)
    (case c_NoFit=>k_is)
    (case y_NoFit=>k_is)
    (case c_NoForm=>k_is)
    (case y_NoForm=>k_is)
    (case c_NoAsk=>k_is)
    (case y_NoAsk=>k_is)
    (case c_NoHolds=>k_is)
    (case y_NoHolds=>k_is)
    (case c_NoText=>k_is)
    (case y_NoText=>k_is)
    (case c_TooMany=>k_is)
    (case y_TooMany=>k_is)
    (case u_NoRow_NoSigns=>k_is)
    (case d_NoRow_NoSigns=>rfl)
    (case u_NoRow_NoWay=>k_is)
    (case d_NoRow_NoWay=>rfl)
    (case u_NoRow_NoNumber=>k_is)
    (case d_NoRow_NoNumber=>rfl)
    (case u_NoRow_NoPlace=>k_is)
    (case d_NoRow_NoPlace=>rfl)
    (case u_NoRow_NoFit=>k_is)
    (case d_NoRow_NoFit=>rfl)
    (case u_NoRow_NoForm=>k_is)
    (case d_NoRow_NoForm=>rfl)
    (case u_NoRow_NoAsk=>k_is)
    (case d_NoRow_NoAsk=>rfl)
    (case u_NoRow_NoHolds=>k_is)
    (case d_NoRow_NoHolds=>rfl)
    (case u_NoRow_NoText=>k_is)
    (case d_NoRow_NoText=>rfl)
    (case u_NoRow_TooMany=>k_is)
    (case d_NoRow_TooMany=>rfl)
    (case u_NoSigns_NoRow=>k_is)
    (case d_NoSigns_NoRow=>rfl)
    (case u_NoSigns_NoWay=>k_is)
    (case d_NoSigns_NoWay=>rfl)
    (case u_NoSigns_NoNumber=>k_is)
    (case d_NoSigns_NoNumber=>rfl)
    (case u_NoSigns_NoPlace=>k_is)
    (case d_NoSigns_NoPlace=>rfl)
    (case u_NoSigns_NoFit=>k_is)
    (case d_NoSigns_NoFit=>rfl)
    (case u_NoSigns_NoForm=>k_is)
    (case d_NoSigns_NoForm=>rfl)
    (case u_NoSigns_NoAsk=>k_is)
    (case d_NoSigns_NoAsk=>rfl)
    (case u_NoSigns_NoHolds=>k_is)
    (case d_NoSigns_NoHolds=>rfl)
    (case u_NoSigns_NoText=>k_is)
    (case d_NoSigns_NoText=>rfl)
    (case u_NoSigns_TooMany=>k_is)
    (case d_NoSigns_TooMany=>rfl)
    (case w_NoRow=>k_is)
    (case w_NoSigns=>k_is)
    (case w_NoWay=>k_is)
    (case w_NoNumber=>k_is)
    (case w_NoPlace=>k_is)
    (case w_NoFit=>k_is)
    (case w_NoForm=>k_is)
    (case w_NoAsk=>k_is)
    (case w_NoHolds=>k_is)
    (case w_NoText=>k_is)
    (case w_TooMany=>k_is)
    (case lD=>k_is)
    (case lE=>k_is)
    (case hC=>exact rfl)

