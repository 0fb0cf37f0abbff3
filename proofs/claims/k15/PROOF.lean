import PyProof.Rows.All
import Wide.All
import OpenK.AllK
import Wide.FinOn
import Lean
import PyProof.EqAt
import PyProof.EqKinds
import PyProof.TupleCall
import PySem.Challenge.RW_putsigns_k15_refused_by_bounds
open List renaming mem_append_right → aaa, getElem?_eq_getElem → aad, size_toArray → aag, getElem?_eq_some_iff → aai, mem_cons → aaj, mem_singleton → aak, mem_cons_of_mem → aal, length_map → aan, length_append → aao, mem_append → aap, replicate → aat, mem_cons_self → aav, getD_eq_getElem?_getD → aax, mem_append_left → aaz, length_cons → aaB, all_eq_true → aaD, length_take → aaE, map_cons → aaH, mem_of_getElem? → aaI, map_append → aaS, length_nil → aaV, Nodup → aaX, getElem?_map → aaY, mem_map → aa5, not_mem_nil → aa6, take_add_one → aa7, mem_range → aa9, range → abd, filterMap_cons → abh, replicate_succ → abi, mem_flatMap → abp, take_length → abq, find?_cons → abv, take_of_length_le → abw, cons_append → abx, length_drop → aby, pairwise_iff_getElem → abA, append_assoc → abB, getElem?_take_of_lt → abC, getElem_of_mem → abF, length_singleton → abL, flatten_cons → abN, length_pos_iff → abT, map_nil → abW, any_cons → abY, append_nil → abZ, ne_nil_of_mem → ab0, mem_iff_getElem? → acb, getElem_mem → ace, map_drop → acf, map_take → acg, nodup_cons → acj
open PySem.W renaming Frag → aab, nsIn → aas, mg_none_of → aau, subIn → aay, kitOne → aaC, mg_of → aaL, keepIn → aaO, fnOf → aaP, clsIn → aaR, kia_one → aaW, findIn → aaZ, typeIn → aa1, codeIn → aba, cellsFrom_some → ab6, Looks → ach
open PySem.Heap renaming get?_push_of_some → aac, lt_size → aaf, get?_push_size → aar, SameBut → abz, size_push → abP
open Bool renaming false_ne_true → aae, and_eq_true → abe, eq_iff_iff → abJ
open Nat renaming le_refl → aah, lt_of_lt_of_le → aam, ne_of_lt → aaq, le_trans → aaJ, ne_of_gt → aaN, zero_le → aaQ, lt_irrefl → aaT, lt_succ_of_lt → abj, mul_le_mul → abH, mul_le_mul_right → abO, lt_succ_self → abQ, le_succ → abU, lt_of_le_of_lt → ab1, not_lt → ab8
open PyProof.Rows renaming boot_isinstance → aaw, callWith_type1 → abM, boot_min → acd
open PySem.F renaming plain_min_loop → aaA, plainAttrs_list → aa3, entry_min_loop → abf, slot_list_append → abm, type_list_append → abn, slot_dict_itemiterator_next → abo, args_dict_itemiterator_next_1 → ab7, typeOf_object_class → ab9
open PySem.PyData renaming depth → aaF, depthAll → aaG, showable → abc, shownAll → abD, showableAll → ab3
open Int renaming le_refl → aaK, mul_le_mul_of_nonneg_right → aa4, one_mul → abE, mul_nonneg → abG, add_mul → abK, le_trans → aca
open Option.some renaming inj → aaM
open PySem renaming mem_of_lookup → aaU, boot_len → abl
open PySem.Obj renaming mapSeq → aa0
open False renaming elim → aa2
open Option renaming isSome_iff_exists → aa8, map_some → ab2, map_eq_some_iff → ab5
open PySem.PassesOwn renaming never → abb
open PySem.Heap.SameBut renaming update → abg
open PySem.Paired renaming length → abk
open PySem.Around renaming under_plainId → abr
open Ne renaming symm → abt
open PySem.Builtin.Builtins renaming bindParams → abu
open PySem.Builtin.Dict_items renaming ownsTuple → abI, ownedTupleFields → abR, ownedTupleIsFree → abS, pairFromOwner → ab4
open PySem.Builtin.List renaming listTooLong → abV
open PySem.Str renaming ofString → abX
open PySem.Walks renaming list → aci
set_option Elab.async false
set_option linter.all false
set_option maxRecDepth 100000
namespace L2
open PySem PySem.Spec PyProof.Rows
abbrev Key:=Sum Int Str
def gU:Key→Value→Bool
  | .inl k,v=>Value.isInt k v
  | .inr x,v=>Value.isStrOf x v
def uK (w:World):Key→Int
  | .inl k=>hashInt k
  | .inr x=>hashStr w x
theorem a5:∀ {k:Key} {v:Value},gU k v=true→(∃ i t,k=Sum.inl i∧v=Value.int i t)∨(∃ x t,k=Sum.inr x∧v=Value.str x t)
  | .inl i,v,h=>by
    obtain ⟨t,e⟩:=Value.isInt_shape (k:=i) (v:=v) h;exact .inl ⟨i,t,rfl,e⟩
  | .inr x,v,h=>by
    obtain ⟨t,e⟩:=Value.isStrOf_shape (x:=x) (v:=v) h;exact .inr ⟨x,t,rfl,e⟩
theorem nW (i:Int) (t:Tok):gU (.inl i) (.int i t)=true:=by simp [gU,Value.isInt]
theorem nV (x:Str) (t:Tok):gU (.inr x) (.str x t)=true:=by simp [gU,Value.isStrOf]
theorem sH (a b:Int):decide ((Sum.inl a:Key)=Sum.inl b)=(a == b):=by
  by_cases e:a=b
  · subst e;simp
  · have h:¬ (Sum.inl a:Key)=Sum.inl b:=fun q=>e (Sum.inl.inj q);rw [decide_eq_false h];exact (beq_eq_false_iff_ne.mpr e).symm
theorem sE (a b:Str):decide ((Sum.inr a:Key)=Sum.inr b)=decide (a=b):=by
  by_cases e:a=b
  · subst e;simp
  · have h:¬ (Sum.inr a:Key)=Sum.inr b:=fun q=>e (Sum.inr.inj q);rw [decide_eq_false h,decide_eq_false e]
theorem sG (a:Int) (b:Str):decide ((Sum.inl a:Key)=Sum.inr b)=false:=decide_eq_false (fun q=>nomatch q)
theorem sF (a:Str) (b:Int):decide ((Sum.inr a:Key)=Sum.inl b)=false:=decide_eq_false (fun q=>nomatch q)
def aK (prog:Program) (w:World):PySem.KeyKind prog w Key where
  is:=gU
  hash:=uK w
  inj:=fun v a b ha hb=>by
    rcases a5 ha with ⟨i,t,rfl,rfl⟩|⟨x,t,rfl,rfl⟩
    · rcases a5 hb with ⟨j,u,rfl,e⟩|⟨y,u,rfl,e⟩
      · injection e with e1 _;rw [e1]
      · exact nomatch e
    · rcases a5 hb with ⟨j,u,rfl,e⟩|⟨y,u,rfl,e⟩
      · exact nomatch e
      · injection e with e1 _;rw [e1]
  byValue:=fun k v h=>by
    rcases a5 h with ⟨i,t,rfl,rfl⟩|⟨x,t,rfl,rfl⟩ <;> rfl
  pyHash:=fun hv h=>by
    rcases a5 hv with ⟨i,t,rfl,rfl⟩|⟨x,t,rfl,rfl⟩
    · exact wpAny_pyHash_int h
    · exact wpAny_pyHash_str h
  eqBool:=fun hu hv h=>by
    rcases a5 hu with ⟨i,t,rfl,rfl⟩|⟨x,t,rfl,rfl⟩
    · rcases a5 hv with ⟨j,u,rfl,rfl⟩|⟨y,u,rfl,rfl⟩
      · rw [sH] at h;exact wpAny_eqBool_int h
      · rw [sG] at h;exact SeqAt.EqAt.int_str i t y u _ _ _ _ h
    · rcases a5 hv with ⟨j,u,rfl,rfl⟩|⟨y,u,rfl,rfl⟩
      · rw [sF] at h;exact SeqAt.EqAt.str_int x t j u _ _ _ _ h
      · rw [sE] at h;exact wpAny_eqBool_str h
  «strs»:=fun k x t v h=>by
    rcases a5 h with ⟨i,u,rfl,e⟩|⟨y,u,rfl,e⟩
    · exact nomatch e
    · injection e with e1 _
      subst e1;cases v <;> rfl
theorem lV (prog:Program) (w:World) (k:Key) (v:Value):(aK prog w).is k v=gU k v:=rfl
theorem kz (prog:Program) (w:World) (i:Int) (t:Tok):(aK prog w).is (.inl i) (.int i t)=true:=nW i t
theorem kw (prog:Program) (w:World) (x:Str) (t:Tok):(aK prog w).is (.inr x) (.str x t)=true:=nV x t
open PySem PySem.Spec PyProof.Rows
inductive V where
  | non|bl (b:Bool)|int (i:Int)|str (x:Str)|byt (b:Array UInt8)|flt (b:UInt64)|ref (a:Addr)|ty (n:String)
  deriving DecidableEq
def RelV:V→Value→Prop
  | .non,u=>u=Value.none
  | .bl b,u=>u=Value.bool b
  | .int i,u=>∃ t,u=Value.int i t
  | .str x,u=>∃ t,u=Value.str x t
  | .byt b,u=>∃ t,u=Value.bytes b t
  | .flt b,u=>∃ t,u=Value.float b t
  | .ref a,u=>u=Value.ref a
  | .ty n,u=>u=Value.type n
abbrev Vals:List V→List Value→Prop:=Paired RelV
theorem Vals.length {xs:List V} {us:List Value} (r:Vals xs us):xs.length=us.length:=abk r
theorem Vals.get:∀ {xs:List V} {us:List Value} {i:Nat} {x:V},Vals xs us→xs[i]?=some x→∃ u,us[i]?=some u∧RelV x u
  | _,_,_,_,.nil,e=>by simp at e
  | _,_,0,_,.cons r _,e=>by simp at e;subst e;exact ⟨_,rfl,r⟩
  | _,_,i+1,x,.cons _ t,e=>by
    obtain ⟨u,h1,h2⟩:=Vals.get (i:=i) (x:=x) t (by simpa using e);exact ⟨u,by simpa using h1,h2⟩
theorem Vals.set {x:V} {u:Value} (r:RelV x u):∀ {xs:List V} {us:List Value} (i:Nat),Vals xs us→Vals (xs.set i x) (us.set i u)
  | _,_,_,.nil=>.nil
  | _,_,0,.cons _ t=>.cons r t
  | _,_,i+1,.cons q t=>.cons q (Vals.set r i t)
theorem Vals.append:∀ {xs ys:List V} {us ws:List Value},Vals xs us→Vals ys ws→Vals (xs++ys) (us++ws)
  | _,_,_,_,.nil,s=>s
  | _,_,_,_,.cons r t,s=>.cons r (Vals.append t s)
theorem Vals.take:∀ {xs:List V} {us:List Value} (n:Nat),Vals xs us→Vals (xs.take n) (us.take n)
  | _,_,0,_=>.nil
  | _,_,_+1,.nil=>.nil
  | _,_,n+1,.cons r t=>.cons r (Vals.take n t)
theorem Vals.drop:∀ {xs:List V} {us:List Value} (n:Nat),Vals xs us→Vals (xs.drop n) (us.drop n)
  | _,_,0,r=>r
  | _,_,_+1,.nil=>.nil
  | _,_,n+1,.cons _ t=>Vals.drop n t
def RelO:Option V→Option Value→Prop
  | some v,some u=>RelV v u
  | none,none=>True
  | _,_=>False
def KV {κ:Type}:List (κ × V)→List (κ × Value)→Prop:=Paired fun (p:κ × V) (q:κ × Value)=>p.1=q.1∧RelV p.2 q.2
def kV:Key→V
  | .inl i=>.int i
  | .inr x=>.str x
inductive HO where
  | lst (xs:List V)
  | tup (xs:List V)
  | dK (kvs:List (Key × V))|dT (kvs:List (List Key × V))
  | set (S:Int→Bool) (n:Nat)
  | ins (C dx:Addr) (fs:List (Str × V))
  | own (x:Addr)
  | xd (fs:List (Str × V))
  | met (f x:Addr)
  | rng (lo hi:Int)
  | frz (o:Obj) (u:HO)
  | tbl (ps:Array Value)
  | ext (φ:Heap→Prop)
abbrev Hp:=Addr→Option HO
def upd (H:Hp) (a:Addr) (o:HO):Hp:=fun b=>if b=a then some o else H b
theorem ac {H:Hp} {a:Addr} {o:HO}:upd H a o a=some o:=by unfold upd;rw [if_pos rfl]
theorem aj {H:Hp} {a b:Addr} {o:HO} (h:b≠a):upd H a o b=H b:=by unfold upd;rw [if_neg h]
theorem rh {H:Hp} {a b:Addr} {o u:HO} (h:H a=some o) (h':H b=some u) (d:o≠u):a≠b:=by
  intro e;subst e;rw [h] at h';exact d (aaM h')
theorem ak {H:Hp} {a b:Addr} {o:HO} (h:H a=some o) (h':H b=none):a≠b:=by
  intro e;subst e;rw [h] at h';cases h'
section
variable (P:Program) (w:World)
def ObjOk (H:Hp) (h:Heap) (a:Addr):HO→Prop
  | .lst xs=>xs.length≤sizeLine∧∃ (its:List Value) (n:Nat),Vals xs its∧h.get? a=some { cls:=.type "list",data:=.seq its.toArray n }
  | .tup xs=>xs.length≤sizeLine∧∃ its:List Value,Vals xs its∧IsTup h a its.toArray
  | .dK kvs=>kvs.length≤sizeLine∧(a == sysModules)=false∧∃ vs,KV kvs vs∧h.DictOf (aK P w) a vs
  | .dT kvs=>kvs.length≤sizeLine∧(a == sysModules)=false∧∃ xs:List (List Key × Addr × Value),
      Paired (fun (p:List Key × V) (q:List Key × Addr × Value)=>p.1=q.1∧H q.2.1=some (.tup (p.1.map kV))∧RelV p.2 q.2.2) kvs xs ∧
      ∃ o es ep,h.get? a=some o∧o.ExactDict∧o.data=.dict es ep∧es.toList=xs.map (entryOfKey (tupleKind (aK P w)))∧(xs.map (·.1)).Nodup
  | .set S n=>h.SetOf (intKind P w) a S n
  | .ins C dx fs=>H dx=some (.own a)∧fs.length≤1000∧dx≠a∧h.get? a=some (PySem.W.instObj C dx) ∧
      ∃ mA,h.Ns1 dx mA∧(∀ f,RelO (fs.lookup f) (mA f))∧PySem.Within mA (fs.map (·.1))
  | .own _=>∃ o,h.get? a=some o
  | .xd fs=>∃ mA,h.Ns1 a mA∧∀ f,RelO (fs.lookup f) (mA f)
  | .rng lo hi=>∃ t u v,h.get? a=some { cls:=.type "range",data:=.fields #[.int lo t,.int hi u,.int 1 v] }
  | .frz o u=>h.get? a=some o∧ObjOk H h a u
  | .tbl ps=>h.get? a=some { cls:=.none,data:=.fields ps }
  | .met f x=>h.get? a=some (PySem.W.methodObj (.ref f) (.ref x))
  | .ext φ=>φ h∧(∃ o,h.get? a=some o)∧∀ h1 h2:Heap,φ h1→(∀ o,h1.get? a=some o→h2.get? a=some o)→φ h2
def HOk (H:Hp) (h:Heap):Prop:=∀ a o,H a=some o→ObjOk P w H h a o
end
section
variable {P:Program} {w:World} {H H':Hp} {h h':Heap} {a:Addr} {o:HO}
theorem ObjOk.lt (x:ObjOk P w H h a o):a < h.objs.size:=by
  cases o with
  | lst xs=>obtain ⟨_,_,_,_,e⟩:=x;exact aaf e
  | tup xs=>obtain ⟨_,_,_,p⟩:=x;exact p.lt
  | dK kvs=>obtain ⟨_,_,_,_,o,_,_,e,_⟩:=x;exact aaf e
  | dT kvs=>obtain ⟨_,_,_,_,o,_,_,e,_⟩:=x;exact aaf e
  | set S n=>obtain ⟨o,_,_,_,e,_⟩:=x;exact aaf e
  | ins C dx fs=>obtain ⟨_,_,_,e,_⟩:=x;exact aaf e
  | own y=>obtain ⟨_,e⟩:=x;exact aaf e
  | xd fs=>obtain ⟨_,⟨_,_,_,e,_⟩,_⟩:=x;exact aaf e
  | rng lo hi=>obtain ⟨_,_,_,e⟩:=x;exact aaf e
  | frz ob u=>obtain ⟨e,_⟩:=x;exact aaf e
  | tbl ps=>exact aaf (show h.get? a=some _ from x)
  | met f y=>exact aaf (show h.get? a=some _ from x)
  | ext φ=>obtain ⟨_,⟨_,e⟩,_⟩:=x;exact aaf e
theorem Paired.mapP {α β:Type} {F G:α→β→Prop}:∀ {l₁:List α} {l₂:List β},Paired F l₁ l₂→(∀ a b,F a b→G a b)→Paired G l₁ l₂
  | _,_,.nil,_=>.nil
  | _,_,.cons r t,f=>.cons (f _ _ r) (Paired.mapP t f)
theorem ObjOk.stay (x:ObjOk P w H h a o) (k:∀ b u,(b=a∨H b=some (.own a))→h.get? b=some u→h'.get? b=some u)
    (ho:∀ b,H b=some (.own a)→H' b=some (.own a)) (ht:∀ b xs,H b=some (.tup xs)→H' b=some (.tup xs)):ObjOk P w H' h' a o:=by
  induction o with
  | lst xs=>obtain ⟨z,its,n,r,e⟩:=x;exact ⟨z,its,n,r,k _ _ (.inl rfl) e⟩
  | tup xs=>obtain ⟨z,its,r,ob,e,c⟩:=x;exact ⟨z,its,r,ob,k _ _ (.inl rfl) e,c⟩
  | dK kvs=>obtain ⟨z,y,vs,r,ob,es,ep,e,c⟩:=x;exact ⟨z,y,vs,r,ob,es,ep,k _ _ (.inl rfl) e,c⟩
  | dT kvs =>
    obtain ⟨z,y,xs,r,ob,es,ep,e,c⟩:=x;exact ⟨z,y,xs,Paired.mapP r fun p q z=>⟨z.1,ht _ _ z.2.1,z.2.2⟩,ob,es,ep,k _ _ (.inl rfl) e,c⟩
  | set S n=>obtain ⟨ob,es,ep,t,e,c⟩:=x;exact ⟨ob,es,ep,t,k _ _ (.inl rfl) e,c⟩
  | ins C dx fs =>
    obtain ⟨d,z,ne,e,mA,⟨od,es,ep,e2,c⟩,r⟩:=x;exact ⟨ho _ d,z,ne,k _ _ (.inl rfl) e,mA,⟨od,es,ep,k _ _ (.inr d) e2,c⟩,r⟩
  | own y=>obtain ⟨ob,e⟩:=x;exact ⟨ob,k _ _ (.inl rfl) e⟩
  | xd fs=>obtain ⟨mA,⟨od,es,ep,e,c⟩,r⟩:=x;exact ⟨mA,⟨od,es,ep,k _ _ (.inl rfl) e,c⟩,r⟩
  | rng lo hi=>obtain ⟨t,u,v,e⟩:=x;exact ⟨t,u,v,k _ _ (.inl rfl) e⟩
  | frz ob u ih=>obtain ⟨e,q⟩:=x;exact ⟨k _ _ (.inl rfl) e,ih q⟩
  | tbl ps =>
    have e:h.get? a=some { cls:=.none,data:=.fields ps }:=x;show h'.get? a=some { cls:=.none,data:=.fields ps };exact k a _ (.inl rfl) e
  | met f y =>
    have e:h.get? a=some (PySem.W.methodObj (.ref f) (.ref y)):=x;show h'.get? a=some (PySem.W.methodObj (.ref f) (.ref y));exact k a _ (.inl rfl) e
  | ext φ=>obtain ⟨p,⟨o,e⟩,st⟩:=x;exact ⟨st _ _ p fun o q=>k _ _ (.inl rfl) q,⟨o,k _ _ (.inl rfl) e⟩,st⟩
theorem HOk.lt (x:HOk P w H h) (e:H a=some o):a < h.objs.size:=(x a o e).lt
theorem HOk.fresh (x:HOk P w H h) (e:h.objs.size≤a):H a=none:=by
  cases q:H a with
  | none=>rfl
  | some u=>exact absurd (aam (x.lt q) e) (aaT _)
theorem HOk.kept (x:HOk P w H h) (k:∀ b u,h.get? b=some u→h'.get? b=some u):HOk P w H h':=fun a o e =>
  (x a o e).stay (fun b u _ q=>k b u q) (fun _ q=>q) fun _ _ q=>q
theorem HOk.laid (x:HOk P w H h) (k:∀ b u,h.get? b=some u→h'.get? b=some u) (hp:h.objs.size≤a) (new:ObjOk P w (upd H a o) h' a o):HOk P w (upd H a o) h':=fun b u e=>by
  have hn:=x.fresh hp;by_cases hb:b=a
  · subst hb;rw [ac] at e;cases e;exact new
  · rw [aj hb] at e;exact (x b u e).stay (fun c v _ q=>k c v q) (fun c q=>by rw [aj (ak q hn)];exact q) fun c xs q=>by rw [aj (ak q hn)];exact q
end
def Rd (H:Hp) (a:Addr) (u:HO):Prop:=H a=some u∨∃ o,H a=some (.frz o u)
theorem Rd.ok {P:Program} {w:World} {H:Hp} {h:Heap} {a:Addr} {u:HO} (r:Rd H a u) (x:HOk P w H h):ObjOk P w H h a u:=by
  rcases r with r|⟨o,r⟩
  · exact x a u r
  · obtain ⟨_,q⟩:=x a _ r;exact q
def Mut:Option HO→Prop
  | some (.lst _)=>True
  | some (.dK _)=>True
  | some (.dT _)=>True
  | some (.set _ _)=>True
  | some (.ins _ _ _)=>True
  | some (.ext _)=>True
  | _=>False
section
variable {P:Program} {w:World} {H:Hp} {h h':Heap} {x e:Addr} {o':HO}
theorem HOk.write (ok:HOk P w H h) (mu:Mut (H x)) (he:e=x∨H e=some (.own x)) (k:∀ b u,b≠e→h.get? b=some u→h'.get? b=some u) (heo:∃ u,h'.get? e=some u)
    (new:ObjOk P w (upd H x o') h' x o'):HOk P w (upd H x o') h':=fun b u q=>by
  have nown:∀ c y,H c=some (.own y)→c≠x:=fun c y r z=>by subst z;rw [r] at mu;exact mu
  have ntup:∀ c xs,H c=some (.tup xs)→c≠x:=fun c xs r z=>by subst z;rw [r] at mu;exact mu
  by_cases hb:b=x
  · subst hb;rw [ac] at q;cases q;exact new
  · rw [aj hb] at q;by_cases hbe:b=e
    · have q':H b=some (.own x):=by
        rcases he with z|z
        · exact absurd (hbe.trans z) hb
        · rw [hbe];exact z
      rw [q] at q';cases q';obtain ⟨v,hv⟩:=heo;exact ⟨v,by rw [hbe];exact hv⟩
    · refine (ok b u q).stay (fun c v hc r=>k c v ?_ r) (fun c r=>by rw [aj (nown c b r)];exact r) fun c xs r=>by rw [aj (ntup c xs r)];exact r
      rcases hc with rfl|hc
      · exact hbe
      · rintro rfl;rcases he with z|z
        · exact nown c b hc z
        · rw [hc] at z;cases z;exact hb rfl
end
structure Un (fs ex:List Addr) (H H':Hp) (h h':Heap):Prop where
  keep:∀ b o,h.get? b=some o→H b=none→b∉fs→b∉ex→h'.get? b=some o
  slot:∀ b o,h.get? b=some o→H b=none→b∈fs→b∉ex→∃ sl,h'.get? b=some { o with slots:=sl }
  free:∀ b o,h.get? b=some o→H b=none→b∉ex→H' b=none
  there:∀ b o,h.get? b=some o→b∉ex→∃ o',h'.get? b=some o'
  tups:∀ b xs,H b=some (.tup xs)→H' b=some (.tup xs)
  frzs:∀ b o u,H b=some (.frz o u)→H' b=some (.frz o u)
  tbls:∀ b ps,H b=some (.tbl ps)→∃ more,H' b=some (.tbl (ps++more))
section
variable {fs fs' ex ex':List Addr} {H H1 H2:Hp} {h h1 h2 h':Heap} {a x e:Addr} {o:HO}
theorem Un.any (u:Un fs ex H H1 h h1) {b:Addr} {ob:Obj} (q:h.get? b=some ob) (n:H b=none) (hx:b∉ex):∃ sl,h1.get? b=some { ob with slots:=sl }:=by
  by_cases hb:b∈fs
  · exact u.slot b ob q n hb hx
  · exact ⟨ob.slots,u.keep b ob q n hb hx⟩
theorem Un.trans (a:Un fs ex H H1 h h1) (b:Un fs ex H1 H2 h1 h2):Un fs ex H H2 h h2 where
  keep:=fun c ob q n hc hx=>b.keep c ob (a.keep c ob q n hc hx) (a.free c ob q n hx) hc hx
  slot:=fun c ob q n hc hx=>by
    obtain ⟨sl,e1⟩:=a.slot c ob q n hc hx;obtain ⟨sl',e2⟩:=b.slot c _ e1 (a.free c ob q n hx) hc hx;exact ⟨sl',e2⟩
  free:=fun c ob q n hx=>by
    obtain ⟨o',e1⟩:=a.there c ob q hx;exact b.free c o' e1 (a.free c ob q n hx) hx
  there:=fun c ob q hx=>by
    obtain ⟨o',e1⟩:=a.there c ob q hx;exact b.there c o' e1 hx
  tups:=fun c xs q=>b.tups c xs (a.tups c xs q)
  frzs:=fun c ob xs q=>b.frzs c ob xs (a.frzs c ob xs q)
  tbls:=fun c ps q=>by
    obtain ⟨m1,e1⟩:=a.tbls c ps q;obtain ⟨m2,e2⟩:=b.tbls c _ e1;exact ⟨m1++m2,by rw [e2,Array.append_assoc]⟩
theorem Un.kept (k:∀ b u,h.get? b=some u→h'.get? b=some u):Un fs ex H H h h' :=
  ⟨fun b ob q _ _ _=>k b ob q,fun b ob q _ _ _=>⟨ob.slots,k b ob q⟩,fun _ _ _ n _=>n,fun b ob q _=>⟨ob,k b ob q⟩,fun _ _ q=>q,fun _ _ _ q=>q,fun _ ps q=>⟨#[],by rw [q];simp⟩⟩
theorem Un.refl:Un fs ex H H h h:=Un.kept fun _ _ q=>q
theorem Un.laid (k:∀ b u,h.get? b=some u→h'.get? b=some u) (hp:h.objs.size≤a) (hn:H a=none):Un fs ex H (upd H a o) h h' where
  keep:=fun b u q _ _ _=>k b u q
  slot:=fun b u q _ _ _=>⟨u.slots,k b u q⟩
  free:=fun b u q n _=>by rw [aj (aaq (aam (aaf q) hp))];exact n
  there:=fun b u q _=>⟨u,k b u q⟩
  tups:=fun b xs q=>by rw [aj (ak q hn)];exact q
  frzs:=fun b u xs q=>by rw [aj (ak q hn)];exact q
  tbls:=fun b ps q=>⟨#[],by rw [aj (ak q hn),q];simp⟩
theorem Un.write (mu:Mut (H x)) (he:e=x∨H e=some (.own x)) (k:∀ b u,b≠e→h.get? b=some u→h'.get? b=some u) (heo:∃ u,h'.get? e=some u):Un fs ex H (upd H x o) h h':=by
  have hx:∀ b,H b=none→b≠x:=fun b n z=>by subst z;rw [n] at mu;exact mu
  have hb:∀ b,H b=none→b≠e:=fun b n z=>by
    subst z;rcases he with r|r
    · exact hx b n r
    · rw [n] at r;cases r
  have hm:∀ b u,H b=some u→¬ Mut (some u)→b≠x:=fun b u q nm z=>by subst z;rw [q] at mu;exact nm mu
  refine ⟨fun b u q n _ _=>k b u (hb b n) q,fun b u q n _ _=>⟨u.slots,k b u (hb b n) q⟩,fun b u q n _=>by rw [aj (hx b n)];exact n,fun b u q _=>?_,
    fun b xs q=>by rw [aj (hm b _ q fun z=>z)];exact q,fun b u xs q=>by rw [aj (hm b _ q fun z=>z)];exact q,fun b ps q=>⟨#[],by rw [aj (hm b _ q fun z=>z),q];simp⟩⟩
  by_cases hbe:b=e
  · subst hbe;exact heo
  · exact ⟨u,k b u hbe q⟩
theorem Un.mono (u:Un fs ex H H1 h h1) (hs:∀ b∈fs,b∈fs') (hx:∀ b∈ex,b∈ex'):Un fs' ex' H H1 h h1 :=
  ⟨fun b ob q n hb he=>u.keep b ob q n (fun z=>hb (hs b z)) fun z=>he (hx b z),fun _ _ q n _ he=>u.any q n fun z=>he (hx _ z),fun b ob q n he=>u.free b ob q n fun z=>he (hx b z),fun b ob q he=>u.there b ob q fun z=>he (hx b z),u.tups,u.frzs,u.tbls⟩
end
def trk (h:Heap) (H:Hp):List Addr:=(abd h.objs.size).filter fun a=>(H a).isSome
def ir (h:Heap) (H:Hp):Heap:=PySem.W.hideAll h (trk h H)
theorem nY (h:Heap) (H:Hp):(ir h H).objs.size=h.objs.size:=PySem.W.hideAll_size _ _
theorem pE {h:Heap} {H:Hp} {b:Addr} {o:Obj} (e:h.get? b=some o) (n:H b=none):(ir h H).get? b=some o :=
  PySem.W.hideAll_get _ e fun hm=>by
    have q:(H b).isSome=true:=(List.mem_filter.mp hm).2;rw [n] at q;simp at q
theorem qG {h:Heap} {H:Hp} {b:Addr} {o:Obj} (e:(ir h H).get? b=some o):h.get? b=some o∧H b=none:=by
  have e':h.get? b=some o:=PySem.W.of_hideAll (trk h H) e;refine ⟨e',?_⟩;cases q:H b with
  | none=>rfl
  | some x =>
    have hm:b∈trk h H:=List.mem_filter.mpr ⟨aa9.mpr (aaf e'),by simp [q]⟩;have z:(ir h H).get? b=none:=PySem.W.hideAll_none (trk h H) hm;rw [z] at e;cases e
def qU (g h:Heap) (L:Addr):List (Addr × Obj):=(abd h.objs.size).filterMap fun a=>if a=L∨(g.get? a).isSome=true then none else (h.get? a).map fun o=>(a,o)
def cM (g h:Heap) (L d:Addr):List (Addr × Obj):=(qU g h L).filter fun p=>decide (p.1≠d)
open PySem PySem.Spec PyProof.Rows
structure Mod (K:aab) (mg:Str→Option Value) (base:Heap):Prop where
  kin:K.In base
  glob:base.Ns mainGlobals mg
  blt:∃ mb,base.Ns builtinsNs mb∧∀ x:Str,x ≠ "__name__"→mb x=bootBuiltins x
  nolimit:base.NoLimit
  sysm:∃ mm,base.Ns sysModules mm
structure Cx where
  prog:Program
  w:World
  K:aab
  mg:Str→Option Value
  base:Heap
  A:Around
  N:List Str
  s₀:Shared
  H₀:Hp
  env:Env
  outer:List Env
  stack:List Env
  ex:List Addr
  fn:Str→Bool
  calm:Bool
  pn:List (Addr × Obj)
  xe:Value→Shared→Prop
def frs (l:List Env):List Addr:=l.filterMap (·.frame)
abbrev Cx.fs (X:Cx):List Addr:=frs X.outer
def Vis (sc:Scope) (x:Str):Prop:=sc.names.lookup x=some .local∨sc.names.lookup x=some .cell∨sc.names.lookup x=some .free
def Loc (sc:Scope) (x:Str):Prop:=sc.names.lookup x=some .local∨sc.names.lookup x=some .cell
def ub (env:Env) (h:Heap) (m:Str→Option Value) (x:Str) (u:Value):Prop :=
  (env.kindOf x=some .local∧m x=some u)∨((env.kindOf x=some .cell∨env.kindOf x=some .free)∧∃ c,env.cells.lookup x=some c∧h.IsCell c (some u))
structure Cx.Ok (X:Cx):Prop where
  mod:Mod X.K X.mg X.base
  kind:X.env.scope.kind=.function
  glob:X.env.globals=mainGlobals
  blt:X.env.builtins=builtinsNs
  above:X.s₀.heap.objs.size≤X.env.locals
  inj:∀ x y c,X.env.cells.lookup x=some c→X.env.cells.lookup y=some c→x=y
  has:∀ x,(X.env.kindOf x=some .cell∨X.env.kindOf x=some .free)→∃ c,X.env.cells.lookup x=some c
  cab:∀ x c,X.fn x=true→X.env.cells.lookup x=some c→X.s₀.heap.objs.size≤c
  hd:X.calm=true→X.A.handled=none
  frames:X.A.frames=some X.stack
  stk:X.stack=X.outer∨(X.stack=X.env :: X.outer∧X.env.frame=some X.env.locals)
  exf:∀ b∈X.ex,b≠X.env.locals∧∀ x c,X.env.cells.lookup x=some c→c≠b
  bs:∀ b o,X.base.get? b=some o→X.s₀.heap.get? b=some o∧X.H₀ b=none
  bsz:X.base.objs.size≤X.s₀.heap.objs.size
  noex:∀ b o,X.base.get? b=some o→b∉X.ex
  exfs:∀ b∈X.ex,b∉X.fs
  funs:X.s₀.heap.FunFrames X.base X.outer
  frf:∀ b∈X.fs,X.H₀ b=none
structure Inv (X:Cx) (pins:List (Addr × Obj)) (σ:List (Option V)) (H:Hp) (s:Shared):Prop where
  ok:X.Ok
  os:s.os=X.s₀.os
  bare:AllBare s.gens
  base:Un X.fs X.ex X.H₀ H X.s₀.heap s.heap
  loc:∃ m,s.heap.Ns X.env.locals m∧∀ (i:Nat) (x:Str) (v:V),X.N[i]?=some x→σ[i]?=some (some v)→Vis X.env.scope x→∃ u,RelV v u∧ub X.env s.heap m x u
  cell:∀ x c,X.env.cells.lookup x=some c→∃ v,s.heap.IsCell c v
  free:H X.env.locals=none
  freeC:∀ x c,X.env.cells.lookup x=some c→H c=none
  pin:∀ p∈X.pn++pins,s.heap.get? p.1=some p.2∧H p.1=none∧p.1≠X.env.locals∧p.1∉X.fs∧∀ v,p.2.data≠.cell v
  hok:HOk X.prog X.w H s.heap
  len:σ.length=X.N.length
section
variable {X:Cx} {pins:List (Addr × Obj)} {σ:List (Option V)} {H H':Hp} {s:Shared} {h':Heap}
theorem Cx.Ok.nofr (ok:X.Ok) {b:Addr} {o:Obj} (e:X.base.get? b=some o):b∉X.fs:=fun hb=>by
  have:=(ok.funs.mem hb).1;rw [e] at this;cases this
theorem Inv.bs (I:Inv X pins σ H s):∀ b o,X.base.get? b=some o→s.heap.get? b=some o∧H b=none:=fun b o e =>
  ⟨I.base.keep b o (I.ok.bs b o e).1 (I.ok.bs b o e).2 (I.ok.nofr e) (I.ok.noex b o e),I.base.free b o (I.ok.bs b o e).1 (I.ok.bs b o e).2 (I.ok.noex b o e)⟩
theorem Inv.bk (I:Inv X pins σ H s):∀ b o,X.base.get? b=some o→s.heap.get? b=some o:=fun b o e=>(I.bs b o e).1
theorem Inv.mod (I:Inv X pins σ H s):Mod X.K X.mg X.base:=I.ok.mod
theorem Inv.kIn (I:Inv X pins σ H s):X.K.In s.heap:=I.ok.mod.kin.keeps I.bk
theorem Inv.lt (I:Inv X pins σ H s):X.env.locals < s.heap.objs.size:=let ⟨_,hn,_⟩:=I.loc;hn.lt
theorem Inv.sz (I:Inv X pins σ H s):X.s₀.heap.objs.size≤s.heap.objs.size:=aaJ I.ok.above (Nat.le_of_lt I.lt)
theorem Inv.nofs (I:Inv X pins σ H s) {a:Addr} (h:s.heap.objs.size≤a):a∉X.fs:=fun hb=>by
  obtain ⟨_,o,ho,_⟩:=I.ok.funs.mem hb;exact absurd (aam (aaf ho) (aaJ I.sz h)) (aaT _)
theorem Inv.cne (I:Inv X pins σ H s):∀ x c,X.env.cells.lookup x=some c→c≠X.env.locals:=fun x c e z=>by
  obtain ⟨v,o,ho,hd⟩:=I.cell x c e;obtain ⟨m,⟨o',es,ep,ho',hd',_⟩,_⟩:=I.loc;rw [z,ho'] at ho;cases ho;rw [hd'] at hd;cases hd
theorem Inv.funs (I:Inv X pins σ H s):s.heap.FunFrames X.base X.outer:=by
  have all:∀ (l:List Env),(∀ b∈frs l,b∈X.fs)→X.s₀.heap.FunFrames X.base l→s.heap.FunFrames X.base l:=by
    intro l
    induction l with
    | nil=>intro _ _;trivial
    | cons env r ih =>
      intro hs hl;obtain ⟨hk,⟨L,o,hf,hn,ho,hd⟩,hr⟩:=hl;have hL:L∈X.fs:=hs L (by unfold frs;rw [abh,hf];exact aav);obtain ⟨sl,e⟩:=I.base.slot L o ho (I.ok.frf L hL) hL fun z=>I.ok.exfs L z hL;exact ⟨hk,⟨L,_,hf,hn,e,hd⟩,ih (fun b hb=>hs b (by unfold frs;rw [abh,hf];exact aal _ hb)) hr⟩
  exact all X.outer (fun _ hb=>hb) I.ok.funs
theorem Inv.stack (I:Inv X pins σ H s):s.heap.FunFrames X.base X.stack:=by
  rcases I.ok.stk with e|⟨e,hf⟩
  · rw [e];exact I.funs
  · rw [e];obtain ⟨m,hn,_⟩:=I.loc;refine .cons (by rw [I.ok.kind];decide) hf hn ?_ I.funs;exact Heap.get?_none_of_le (aaJ I.ok.bsz I.ok.above)
theorem Inv.stkSub (I:Inv X pins σ H s):∀ b∈frs X.stack,b∈X.env.locals :: X.fs:=fun b hb=>by
  rcases I.ok.stk with e|⟨e,hf⟩
  · rw [e] at hb;exact aal _ hb
  · rw [e] at hb;unfold frs at hb;rw [abh,hf] at hb;exact hb
theorem Inv.stkFree (I:Inv X pins σ H s):∀ b∈frs X.stack,H b=none:=fun b hb=>by
  rcases aaj.mp (I.stkSub b hb) with e|hb
  · rw [e];exact I.free
  · obtain ⟨_,o,ho,_⟩:=I.ok.funs.mem hb;exact I.base.free b o ho (I.ok.frf b hb) fun z=>I.ok.exfs b z hb
theorem Inv.step {g':Array GenState} {t':Nat} {d':Drawn} {ch:List Addr} (I:Inv X pins σ H s)
    (hch:∀ b∈ch,(b∈X.ex∨X.s₀.heap.objs.size≤b)∧b≠X.env.locals∧(∀ x c,X.env.cells.lookup x=some c→c≠b)∧∀ p∈X.pn++pins,p.1≠b)
    (keep:∀ b o,b≠X.env.locals→b∉X.fs→b∉ch→s.heap.get? b=some o→H b=none→h'.get? b=some o)
    (slot:∀ b o,b≠X.env.locals→b∈X.fs→b∉ch→s.heap.get? b=some o→H b=none→∃ sl,h'.get? b=some { o with slots:=sl }) (free:∀ b o,b∉ch→s.heap.get? b=some o→H b=none→H' b=none)
    (there:∀ b o,b∉ch→s.heap.get? b=some o→∃ o',h'.get? b=some o')
    (tups:∀ b xs,H b=some (.tup xs)→H' b=some (.tup xs)) (frzs:∀ b o u,H b=some (.frz o u)→H' b=some (.frz o u)) (tbls:∀ b ps,H b=some (.tbl ps)→∃ more,H' b=some (.tbl (ps++more)))
    (ns:∀ m,s.heap.Ns X.env.locals m→h'.Ns X.env.locals m) (hok:HOk X.prog X.w H' h') (hg:AllBare g') :
    Inv X pins σ H' { s with heap:=h',gens:=g',drawn:=d',toks:=t' }:=by
  have neL:∀ b o,X.s₀.heap.get? b=some o→b≠X.env.locals:=fun b o e=>aaq (aam (aaf e) I.ok.above);have neC:∀ b o,X.s₀.heap.get? b=some o→b∉X.ex→b∉ch:=fun b o e hx hb=>by
    rcases (hch b hb).1 with z|z
    · exact hx z
    · exact absurd (aam (aaf e) z) (aaT _)
  have cellK:∀ x c,X.env.cells.lookup x=some c→∀ v,s.heap.IsCell c v→h'.IsCell c v:=fun x c e v ⟨o,ho,hd⟩=>by
    have nch:c∉ch:=fun z=>(hch c z).2.2.1 x c e rfl;by_cases hc:c∈X.fs
    · obtain ⟨sl,q⟩:=slot c o (I.cne x c e) hc nch ho (I.freeC x c e);exact ⟨_,q,hd⟩
    · exact ⟨o,keep c o (I.cne x c e) hc nch ho (I.freeC x c e),hd⟩
  refine ⟨I.ok,I.os,hg,⟨fun b o e n hb hx=>?_,fun b o e n hb hx=>?_,fun b o e n hx=>?_,fun b o e hx=>?_,fun b xs e=>tups b xs (I.base.tups b xs e),fun b o xs e=>frzs b o xs (I.base.frzs b o xs e),fun b ps e=>?_⟩,?_,fun x c e=>?_,?_,fun x c e=>?_,fun p hp=>?_,hok,I.len⟩
  · exact keep b o (neL b o e) hb (neC b o e hx) (I.base.keep b o e n hb hx) (I.base.free b o e n hx)
  · obtain ⟨sl,e1⟩:=I.base.slot b o e n hb hx;obtain ⟨sl',e2⟩:=slot b _ (neL b o e) hb (neC b o e hx) e1 (I.base.free b o e n hx);exact ⟨sl',e2⟩
  · obtain ⟨o',e1⟩:=I.base.there b o e hx;exact free b o' (neC b o e hx) e1 (I.base.free b o e n hx)
  · obtain ⟨o',e1⟩:=I.base.there b o e hx;exact there b o' (neC b o e hx) e1
  · obtain ⟨m1,e1⟩:=I.base.tbls b ps e;obtain ⟨m2,e2⟩:=tbls b _ e1;exact ⟨m1++m2,by rw [e2,Array.append_assoc]⟩
  · obtain ⟨m,hn,hl⟩:=I.loc;refine ⟨m,ns m hn,fun i x v e1 e2 e3=>?_⟩;obtain ⟨u,r,l⟩:=hl i x v e1 e2 e3;refine ⟨u,r,?_⟩;rcases l with l|⟨k,c,e,z⟩
    · exact .inl l
    · exact .inr ⟨k,c,e,cellK x c e _ z⟩
  · obtain ⟨v,z⟩:=I.cell x c e;exact ⟨v,cellK x c e v z⟩
  · obtain ⟨m,⟨o,_,_,ho,_⟩,_⟩:=I.loc;exact free _ o (fun z=>(hch _ z).2.1 rfl) ho I.free
  · obtain ⟨v,o,ho,hd⟩:=I.cell x c e;exact free c o (fun z=>(hch c z).2.2.1 x c e rfl) ho (I.freeC x c e)
  · obtain ⟨e,n,ne,nf,d⟩:=I.pin p hp;have nch:p.1∉ch:=fun z=>(hch p.1 z).2.2.2 p hp rfl;exact ⟨keep p.1 p.2 ne nf nch e n,free p.1 p.2 nch e n,ne,nf,d⟩
theorem Inv.un {t':Nat} (I:Inv X pins σ H s) (u:Un X.fs [] H H' s.heap h') (hok:HOk X.prog X.w H' h'):Inv X pins σ H' { s with heap:=h',toks:=t' }:=by
  obtain ⟨m,⟨o,es,ep,ho,r⟩,_⟩:=id I.loc;obtain ⟨sl,hL⟩:=u.any ho I.free (by simp);exact I.step (g':=s.gens) (d':=s.drawn) (ch:=[]) (fun _ z=>nomatch z) (fun b o _ hb _ e n=>u.keep b o e n hb (by simp)) (fun b o _ hb _ e n=>u.slot b o e n hb (by simp)) (fun b o _ e n=>u.free b o e n (by simp)) (fun b o _ e=>u.there b o e (by simp)) u.tups u.frzs u.tbls (fun m' hm=>by
    obtain ⟨o',es',ep',ho',r'⟩:=hm;rw [ho] at ho';cases ho';exact ⟨_,es',ep',hL,r'⟩) hok I.bare
theorem Inv.call {g':Array GenState} {t':Nat} {d':Drawn} {ch:List Addr} (I:Inv X pins σ H s) (u:Un (frs X.stack) ch H H' s.heap h') (hok:HOk X.prog X.w H' h') (hg:AllBare g')
    (hch:∀ b∈ch,(b∈X.ex∨X.s₀.heap.objs.size≤b)∧b≠X.env.locals∧(∀ x c,X.env.cells.lookup x=some c→c≠b)∧∀ p∈X.pn++pins,p.1≠b) :
    Inv X pins σ H' { s with heap:=h',gens:=g',drawn:=d',toks:=t' }:=by
  obtain ⟨m,⟨o,es,ep,ho,r⟩,_⟩:=id I.loc;obtain ⟨sl,hL⟩:=u.any ho I.free fun z=>(hch _ z).2.1 rfl;exact I.step (ch:=ch) hch (fun b o hL hb hc e n=>u.keep b o e n (fun z=>(aaj.mp (I.stkSub b z)).elim hL hb) hc) (fun b o _ _ hc e n=>u.any e n hc) (fun b o hc e n=>u.free b o e n hc) (fun b o hc e=>u.there b o e hc) u.tups u.frzs u.tbls (fun m' hm=>by
    obtain ⟨o',es',ep',ho',r'⟩:=hm;rw [ho] at ho';cases ho';exact ⟨_,es',ep',hL,r'⟩) hok hg
theorem Inv.turned {t':Nat} {it:Addr} (I:Inv X pins σ H s) (k:∀ b o,b≠it→s.heap.get? b=some o→h'.get? b=some o) (hn:H it=none) (hL:it≠X.env.locals)
    (h1:it∈X.ex∨X.s₀.heap.objs.size≤it) (h2:∀ x c,X.env.cells.lookup x=some c→c≠it) (h3:∀ p∈X.pn++pins,p.1≠it):Inv X pins σ H { s with heap:=h',toks:=t' }:=by
  have nit:∀ b u,H b=some u→b≠it:=fun b u e z=>by rw [z,hn] at e;cases e
  refine I.step (g':=s.gens) (d':=s.drawn) (ch:=[it]) (fun b hb=>?_) (fun b o _ _ hc e _=>k b o (fun z=>hc (by simp [z])) e) (fun b o _ _ hc e _=>⟨o.slots,k b o (fun z=>hc (by simp [z])) e⟩) (fun _ _ _ _ n=>n)
    (fun b o hc e=>⟨o,k b o (fun z=>hc (by simp [z])) e⟩) (fun _ _ e=>e) (fun _ _ _ e=>e) (fun b ps e=>⟨#[],by rw [e];simp⟩) (fun m hm=>?_) (fun b u e=>?_) I.bare
  · have e:b=it:=by simpa using hb
    subst e;exact ⟨h1,hL,h2,h3⟩
  · obtain ⟨o,es,ep,ho,r⟩:=hm;exact ⟨o,es,ep,k _ o (abt hL) ho,r⟩
  · refine (I.hok b u e).stay (fun c v hc q=>k c v ?_ q) (fun _ q=>q) fun _ _ q=>q;rcases hc with z|z
    · rw [z];exact nit b u e
    · exact nit c _ z
theorem Inv.tok (I:Inv X pins σ H s) (t:Nat):Inv X pins σ H { s with toks:=t }:=I.un (h':=s.heap) (t':=t) Un.refl I.hok
theorem Inv.kept {t':Nat} (I:Inv X pins σ H s) (k:∀ b u,s.heap.get? b=some u→h'.get? b=some u):Inv X pins σ H { s with heap:=h',toks:=t' }:=I.un (Un.kept k) (I.hok.kept k)
theorem Inv.laid {a:Addr} {o:HO} {t':Nat} (I:Inv X pins σ H s) (k:∀ b u,s.heap.get? b=some u→h'.get? b=some u) (hp:s.heap.objs.size≤a) (new:ObjOk X.prog X.w (upd H a o) h' a o) :
    Inv X pins σ (upd H a o) { s with heap:=h',toks:=t' }:=I.un (Un.laid k hp (I.hok.fresh hp)) (I.hok.laid k hp new)
theorem Inv.write {x e:Addr} {o:HO} {t':Nat} (I:Inv X pins σ H s) (mu:Mut (H x)) (he:e=x∨H e=some (.own x)) (k:∀ b u,b≠e→s.heap.get? b=some u→h'.get? b=some u) (heo:∃ u,h'.get? e=some u)
    (new:ObjOk X.prog X.w (upd H x o) h' x o):Inv X pins σ (upd H x o) { s with heap:=h',toks:=t' }:=I.un (Un.write mu he k heo) (I.hok.write mu he k heo new)
theorem Inv.pins_of {pins':List (Addr × Obj)} (I:Inv X pins σ H s) (h:∀ p∈pins',s.heap.get? p.1=some p.2∧H p.1=none∧p.1≠X.env.locals∧p.1∉X.fs∧∀ v,p.2.data≠.cell v):Inv X pins' σ H s :=
  ⟨I.ok,I.os,I.bare,I.base,I.loc,I.cell,I.free,I.freeC,fun p hp=>(aap.mp hp).elim (fun z=>I.pin p (aaz _ z)) (h p),I.hok,I.len⟩
theorem gL {N:List Str} (hN:N.Nodup) {i j:Nat} {x:Str} (a:N[i]?=some x) (b:N[j]?=some x):i=j:=by
  obtain ⟨h1,e1⟩:=aai.mp a;obtain ⟨h2,e2⟩:=aai.mp b;exact (List.getElem_inj hN).mp (e1.trans e2.symm)
theorem mZ {M:Model} {A:Around} {E:Value→Shared→Prop} {i:Nat} {x:Str} {v:V} {u:Value} {Q:Unit→Shared→Prop} (I:Inv X pins σ H s) (hN:X.N.Nodup) (hi:X.N[i]?=some x) (hx:Loc X.env.scope x) (r:RelV v u)
    (h:∀ s',Inv X pins (σ.set i (some v)) H s'→(∃ a,abz a s.heap s'.heap∧(a=X.env.locals∨X.env.cells.lookup x=some a))→Q () s') (hf:X.fn x=true∨X.env.scope.names.lookup x=some .local:=by first|exact .inl rfl|exact .inr rfl|assumption):wpAny M A (storeName X.env x u) Q E s:=by
  obtain ⟨m,hn,hl⟩:=id I.loc;have hcls:(X.env.scope.kind == .class || (X.env.scope.kind == .module && X.env.locals != X.env.globals))=false:=by rw [I.ok.kind];rfl
  have hiσ:i < σ.length:=by rw [I.len];exact (aai.mp hi).1
  have cne:=I.cne;have tracked:∀ {a:Addr} {h':Heap},(∃ o,s.heap.get? a=some o∧H a=none)→abz a s.heap h'→HOk X.prog X.w H h':=fun {a h'} ha hs b ob e=>by
    obtain ⟨_,_,hfree⟩:=ha;refine (I.hok b ob e).stay (fun c w' hc q=>(hs.2 c ?_).trans q) (fun _ q=>q) fun _ _ q=>q;rintro rfl;rcases hc with rfl|hc
    · rw [hfree] at e;cases e
    · rw [hfree] at hc;cases hc
  rcases hx with hk|hk
  · refine wpAny_storeName_local hk hn (fun h' hn' hs=>?_) hcls;obtain ⟨oL,_,_,hoL,_⟩:=id hn;refine h _ ⟨I.ok,I.os,I.bare,⟨fun b o e n hb hx=>?_,fun b o e n hb hx=>?_,I.base.free,fun b o e hx=>?_,I.base.tups,I.base.frzs,I.base.tbls⟩,⟨_,hn',fun j y v' e1 e2 e3=>?_⟩,fun y c e=>?_,I.free,I.freeC,fun p hp=>?_,tracked ⟨oL,hoL,I.free⟩ hs,by simpa using I.len⟩ ⟨_,hs,.inl rfl⟩
    · exact (hs.2 b (aaq (aam (aaf e) I.ok.above))).trans (I.base.keep b o e n hb hx)
    · obtain ⟨sl,e1⟩:=I.base.slot b o e n hb hx;exact ⟨sl,(hs.2 b (aaq (aam (aaf e) I.ok.above))).trans e1⟩
    · obtain ⟨o',e1⟩:=I.base.there b o e hx;exact ⟨o',(hs.2 b (aaq (aam (aaf e) I.ok.above))).trans e1⟩
    · by_cases hj:j=i
      · subst hj;rw [hi] at e1;cases e1;rw [List.getElem?_set_self hiσ] at e2;cases e2;exact ⟨u,r,.inl ⟨hk,by simp⟩⟩
      · rw [List.getElem?_set_ne (abt hj)] at e2;obtain ⟨u',r',q⟩:=hl j y v' e1 e2 e3;refine ⟨u',r',?_⟩;rcases q with ⟨k,e⟩|⟨k,c,e,z⟩
        · refine .inl ⟨k,?_⟩;have : y≠x:=fun e=>hj (gL hN e1 (e ▸ hi));simp [this,e]
        · exact .inr ⟨k,c,e,z.sameBut hs (cne y c e)⟩
    · obtain ⟨w',z⟩:=I.cell y c e;exact ⟨w',z.sameBut hs (cne y c e)⟩
    · obtain ⟨e,n,ne,nf,d⟩:=I.pin p hp;exact ⟨(hs.2 p.1 ne).trans e,n,ne,nf,d⟩
  · have hfn:X.fn x=true:=by
      rcases hf with z|z
      · exact z
      · rw [z] at hk;cases hk
    obtain ⟨c,hc⟩:=I.ok.has x (.inl hk);obtain ⟨w',z⟩:=I.cell x c hc;refine wpAny_storeName_cell I.ok.kind hk hc z (fun h' hc' hs=>?_);obtain ⟨oc,hoc,hocd⟩:=id z;refine h { s with heap:=h' } ⟨I.ok,I.os,I.bare,⟨fun b o e n hb hx=>?_,fun b o e n hb hx=>?_,I.base.free,fun b o e hx=>?_,I.base.tups,I.base.frzs,I.base.tbls⟩,⟨m,hn.sameBut hs (abt (cne x c hc)),fun j y v' e1 e2 e3=>?_⟩,fun y c' e=>?_,I.free,I.freeC,fun p hp=>?_,tracked ⟨oc,hoc,I.freeC x c hc⟩ hs,by simpa using I.len⟩ ⟨c,hs,.inr hc⟩
    · exact (hs.2 b (aaq (aam (aaf e) (I.ok.cab x c hfn hc)))).trans (I.base.keep b o e n hb hx)
    · obtain ⟨sl,e1⟩:=I.base.slot b o e n hb hx;exact ⟨sl,(hs.2 b (aaq (aam (aaf e) (I.ok.cab x c hfn hc)))).trans e1⟩
    · obtain ⟨o',e1⟩:=I.base.there b o e hx;exact ⟨o',(hs.2 b (aaq (aam (aaf e) (I.ok.cab x c hfn hc)))).trans e1⟩
    · by_cases hj:j=i
      · subst hj;rw [hi] at e1;cases e1;rw [List.getElem?_set_self hiσ] at e2;cases e2;exact ⟨u,r,.inr ⟨.inl hk,c,hc,hc'⟩⟩
      · rw [List.getElem?_set_ne (abt hj)] at e2;obtain ⟨u',r',q⟩:=hl j y v' e1 e2 e3;refine ⟨u',r',?_⟩;rcases q with q|⟨k,c',e,z'⟩
        · exact .inl q
        · refine .inr ⟨k,c',e,z'.sameBut hs ?_⟩;rintro rfl;exact hj (gL hN e1 (I.ok.inj _ _ _ e hc ▸ hi))
    · by_cases hcc:c'=c
      · subst hcc;exact ⟨_,hc'⟩
      · obtain ⟨w2,z2⟩:=I.cell y c' e;exact ⟨w2,z2.sameBut hs hcc⟩
    · obtain ⟨e,n,ne,nf,d⟩:=I.pin p hp;refine ⟨(hs.2 p.1 ?_).trans e,n,ne,nf,d⟩;intro q;rw [q,hoc] at e;have q':oc=p.2:=aaM e;exact d w' (by rw [← q'];exact hocd)
theorem dM {M:Model} {A:Around} {E:Value→Shared→Prop} {i:Nat} {x:Str} {v:V} {u:Value} {Q:Unit→Shared→Prop} (I:Inv X pins σ H s) (hN:X.N.Nodup) (hi:X.N[i]?=some x) (hx:Loc X.env.scope x) (r:RelV v u)
    (h:∀ s',Inv X pins (σ.set i (some v)) H s'→Q () s') (hf:X.fn x=true∨X.env.scope.names.lookup x=some .local:=by first|exact .inl rfl|exact .inr rfl|assumption):wpAny M A (storeName X.env x u) Q E s :=
  mZ I hN hi hx r (fun s' I' _=>h s' I') hf
theorem Inv.call' {s':Shared} {ch:List Addr} (I:Inv X pins σ H s) (ho:s'.os=s.os) (u:Un (frs X.stack) ch H H' s.heap s'.heap) (hok:HOk X.prog X.w H' s'.heap) (hg:AllBare s'.gens)
    (hch:∀ b∈ch,(b∈X.ex∨X.s₀.heap.objs.size≤b)∧b≠X.env.locals∧(∀ x c,X.env.cells.lookup x=some c→c≠b)∧∀ p∈X.pn++pins,p.1≠b):Inv X pins σ H' s':=by
  obtain ⟨h',g',d',t',o'⟩:=s';have e:o'=s.os:=ho;subst e;exact I.call (g':=g') (t':=t') (d':=d') u hok hg hch
end
abbrev XK:=Value→Option Addr→Hp→Prop
abbrev St:=List (Option V)
abbrev VK:=V→Hp→Prop
abbrev TE:=St→Hp→VK→Prop
abbrev TT:=St→Hp→(Bool→Hp→Prop)→Prop
abbrev TA:=St→Hp→(List V→Hp→Prop)→Prop
structure Ends where
  nx:St→Hp→Prop
  rt:VK
  bk:St→Hp→Prop:=fun _ _=>False
  ct:St→Hp→Prop:=fun _ _=>False
abbrev TS:=Ends→St→Hp→Prop
def EP (X:Cx) (pins:List (Addr × Obj)) (σ:St) (Q:VK) (u:Value) (s':Shared):Prop:=∃ v H',Inv X pins σ H' s'∧RelV v u∧Q v H'
def TP (X:Cx) (pins:List (Addr × Obj)) (σ:St) (Q:Bool→Hp→Prop) (b:Bool) (s':Shared):Prop:=∃ H',Inv X pins σ H' s'∧Q b H'
def AP (X:Cx) (pins:List (Addr × Obj)) (σ:St) (Q:List V→Hp→Prop) (us:List Value) (s':Shared):Prop:=∃ vs H',Inv X pins σ H' s'∧Vals vs us∧Q vs H'
def SP (X:Cx) (pins:List (Addr × Obj)) (D:Ends) (f:Flow) (s':Shared):Prop :=
  match f with
  | .next=>∃ σ' H',Inv X pins σ' H' s'∧D.nx σ' H'
  | .brk=>∃ σ' H',Inv X pins σ' H' s'∧D.bk σ' H'
  | .cont=>∃ σ' H',Inv X pins σ' H' s'∧D.ct σ' H'
  | .ret u=>∃ v σ' H',Inv X pins σ' H' s'∧RelV v u∧D.rt v H'
def PE (X:Cx) (e:Expr) (t:TE):Prop :=
  ∀ (pins:List (Addr × Obj)) (s:Shared) (σ:St) (H:Hp) (Q:VK),Inv X pins σ H s→t σ H Q→wpAny (model X.prog X.w) X.A (eval e X.env) (EP X pins σ Q) X.xe s
def PT (X:Cx) (e:Expr) (t:TT):Prop :=
  ∀ (pins:List (Addr × Obj)) (s:Shared) (σ:St) (H:Hp) (Q:Bool→Hp→Prop),Inv X pins σ H s→t σ H Q→wpAny (model X.prog X.w) X.A (isTrue e X.env (eval e X.env)) (TP X pins σ Q) X.xe s
def PW (X:Cx) (e:Expr) (t:TT):Prop :=
  ∀ (whole:Sem Value) (pins:List (Addr × Obj)) (s:Shared) (σ:St) (H:Hp) (Q:Bool→Hp→Prop),Inv X pins σ H s→t σ H Q→wpAny (model X.prog X.w) X.A (isTrue e X.env whole) (TP X pins σ Q) X.xe s
theorem PW.pt {X:Cx} {e:Expr} {t:TT} (h:PW X e t):PT X e t:=h _
def PA (X:Cx) (es:List Expr) (t:TA):Prop :=
  ∀ (pos:Pos) (pins:List (Addr × Obj)) (s:Shared) (σ:St) (H:Hp) (Q:List V→Hp→Prop),Inv X pins σ H s→t σ H Q→wpAny (model X.prog X.w) X.A (spliced (backTo pos (starEach es X.env))) (AP X pins σ Q) X.xe s
def PS (X:Cx) (st:Stmt) (t:TS):Prop :=
  ∀ (pins:List (Addr × Obj)) (s:Shared) (σ:St) (H:Hp) (D:Ends),Inv X pins σ H s→t D σ H→wpAny (model X.prog X.w) X.A (exec st X.env) (SP X pins D) X.xe s
def PSs (X:Cx) (st:List Stmt) (t:TS):Prop :=
  ∀ (pins:List (Addr × Obj)) (s:Shared) (σ:St) (H:Hp) (D:Ends),Inv X pins σ H s→t D σ H→wpAny (model X.prog X.w) X.A (execs st X.env) (SP X pins D) X.xe s
theorem thn {α:Type} {t:Sem α} {Q Q':α→Shared→Prop} {M:Model} {A:Around} {E:Value→Shared→Prop} {s:Shared} (h:wpAny M A t Q E s) (hQ:∀ a s,Q a s→Q' a s):wpAny M A t Q' E s:=wpAny_mono h hQ fun _ _ x=>x
open PySem PySem.Spec PyProof.Rows
section
variable {X:Cx}
def rK (i:Nat):TE:=fun σ H Q=>∃ v,σ[i]?=some (some v)∧Q v H
def tC (v:V):TE:=fun _ H Q=>Q v H
theorem sf {i:Nat} {x:Str} {pos:Pos} (hN:X.N[i]?=some x) (hv:Vis X.env.scope x) (hd:(x == ("__debug__":Str))=false:=by decide) (hcd:(x == ("__classdict__":Str))=false:=by decide):PE X (.Name x pos) (rK i):=by
  intro pins s σ H Q I h;obtain ⟨v,e,h⟩:=h;obtain ⟨m,hn,hl⟩:=I.loc;obtain ⟨u,r,l⟩:=hl i x v hN e hv;have fin:EP X pins σ Q u s:=⟨v,H,I,r,h⟩
  rcases l with ⟨hk,hm⟩|⟨hk,c,hc,hcell⟩
  · exact wpAny_Name (wpAny_loadName_local I.ok.kind hk hn hm fin) hd
  · rcases hk with hk|hk
    · exact wpAny_Name (wpAny_loadName_cell I.ok.kind hk hc hcell fin) hd
    · exact wpAny_Name (wpAny_loadName_free I.ok.kind hk hc hcell fin hcd) hd
theorem af {i j pos}:PE X (.Constant (.int i) j pos) (tC (.int i)):=fun _ _ _ H _ I h=>wpAny_Constant_int ⟨.int i,H,I.tok _,⟨_,rfl⟩,h⟩
theorem dY {b j pos}:PE X (.Constant (.bool b) j pos) (tC (.bl b)):=fun _ _ _ H _ I h=>Constant_bool ⟨.bl b,H,I,rfl,h⟩
theorem fS {j pos}:PE X (.Constant .none j pos) (tC .non):=fun _ _ _ H _ I h=>Constant_none ⟨.non,H,I,rfl,h⟩
theorem ay {x j pos}:PE X (.Constant (.str x) j pos) (tC (.str x)):=fun _ _ _ H _ I h=>Calls.Constant_str ⟨.str x,H,I.tok _,⟨_,rfl⟩,h⟩
def Gl (X:Cx) (x:Str):Prop:=X.env.kindOf x=some .globalImplicit
theorem eh {E:Value→Shared→Prop} {pins:List (Addr × Obj)} {s:Shared} {σ:St} {H:Hp} {x:Str} {u:Value} {pos:Pos} {Q:Value→Shared→Prop} (I:Inv X pins σ H s) (hg:Gl X x) (hm:X.mg x=some u) (h:Q u s)
    (hd:(x == ("__debug__":Str))=false:=by decide):wpAny (model X.prog X.w) X.A (eval (.Name x pos) X.env) Q E s :=
  Calls.Name_function_global I.ok.kind hg (Calls.loadGlobal_global (by rw [I.ok.glob];exact I.mod.glob.keeps I.bk) hm h) hd
theorem fW {E:Value→Shared→Prop} {pins:List (Addr × Obj)} {s:Shared} {σ:St} {H:Hp} {x:Str} {u:Value} {pos:Pos} {Q:Value→Shared→Prop} (I:Inv X pins σ H s) (hg:Gl X x) (hm:X.mg x=none) (hv:bootBuiltins x=some u) (h:Q u s)
    (hn:x ≠ "__name__":=by decide) (hd:(x == ("__debug__":Str))=false:=by decide):wpAny (model X.prog X.w) X.A (eval (.Name x pos) X.env) Q E s:=by
  obtain ⟨mb,h1,h2⟩:=I.mod.blt;exact Calls.Name_function_global I.ok.kind hg (Calls.loadGlobal_builtin (by rw [I.ok.glob];exact I.mod.glob.keeps I.bk) hm (by rw [I.ok.blt];exact h1.keeps I.bk) ((h2 x hn).trans hv) h) hd
theorem bV {x:Str} {v:V} {u:Value} {pos:Pos} (hg:Gl X x) (hm:X.mg x=some u) (r:RelV v u) (hd:(x == ("__debug__":Str))=false:=by decide):PE X (.Name x pos) (tC v) :=
  fun _ _ _ H _ I h=>eh I hg hm ⟨v,H,I,r,h⟩ hd
theorem fC {x:Str} {v:V} {u:Value} {pos:Pos} (hg:Gl X x) (hm:X.mg x=none) (hv:bootBuiltins x=some u) (r:RelV v u) (hn:x ≠ "__name__":=by decide) (hd:(x == ("__debug__":Str))=false:=by decide):PE X (.Name x pos) (tC v) :=
  fun _ _ _ H _ I h=>fW I hg hm hv ⟨v,H,I,r,h⟩ hn hd
variable {a b:Expr} {ta tb:TE} {pos:Pos}
def tB (t:TE):TT:=fun σ H Q=>t σ H fun x H1=>∃ c,x=.bl c∧Q c H1
theorem jf {e:Expr} {t:TE} (h:PE X e t) (he:∀ whole,isTrue e X.env whole=(do let v ← whole;standAt e.pos;holding [v] (truthy v)):=by intro _;rfl):PT X e (tB t):=by
  intro pins s σ H Q I hw;refine isTrue_plain (thn (h pins s σ H _ I hw) fun v s1 ⟨x,H1,I1,r1,q1⟩=>?_) (he _);obtain ⟨d,rfl,q⟩:=q1;cases r1;exact wpAny_truthy_bool ⟨H1,I1,q⟩
variable {tA tB':TT} {cM:List Expr}
def uw (t u:TT):TT:=fun σ H Q=>t σ H fun c H1=>if c=true then u σ H1 Q else Q false H1
def tOr (t u:TT):TT:=fun σ H Q=>t σ H fun c H1=>if c=true then Q true H1 else u σ H1 Q
def uh (t:TT):TT:=fun σ H Q=>t σ H fun c H1=>Q (!c) H1
theorem qr (ha:PT X a tA):PW X (.BoolOp .And [a] pos) tA:=by
  intro wh pins s σ H Q I h;refine isTrue_and (thn (ha pins s σ H Q I h) fun c s1 e=>?_);cases c with
  | true=>exact isTrue_and_nil e
  | false=>exact e
theorem oF (ha:PT X a tA):PW X (.BoolOp .Or [a] pos) tA:=by
  intro wh pins s σ H Q I h;refine isTrue_or (thn (ha pins s σ H Q I h) fun c s1 e=>?_);cases c with
  | false=>exact isTrue_or_nil e
  | true=>exact e
theorem rX (ha:PT X a tA) (hb:PW X (.BoolOp .And (b :: cM) pos) tB'):PW X (.BoolOp .And (a :: b :: cM) pos) (uw tA tB'):=by
  intro wh pins s σ H Q I h;refine isTrue_and (thn (ha pins s σ H _ I h) fun c s1 ⟨H1,I1,q1⟩=>?_);cases c with
  | true=>exact hb wh pins s1 σ H1 Q I1 q1
  | false=>exact ⟨H1,I1,q1⟩
theorem oG (ha:PT X a tA) (hb:PW X (.BoolOp .Or (b :: cM) pos) tB'):PW X (.BoolOp .Or (a :: b :: cM) pos) (tOr tA tB'):=by
  intro wh pins s σ H Q I h;refine isTrue_or (thn (ha pins s σ H _ I h) fun c s1 ⟨H1,I1,q1⟩=>?_);cases c with
  | true=>exact ⟨H1,I1,q1⟩
  | false=>exact hb wh pins s1 σ H1 Q I1 q1
theorem gC (ha:PT X a tA):PT X (.UnaryOp .Not a pos) (uh tA):=by
  intro pins s σ H Q I h;exact isTrue_not (ha pins s σ H (fun c H1=>Q (!c) H1) I h)
def tw (ta tb:TE):TE:=fun σ H Q=>ta σ H fun x H1=>∃ c,x=.bl c∧if c=true then tb σ H1 Q else Q (.bl false) H1
def sZ (ta:TE):TE:=fun σ H Q=>ta σ H fun x H1=>∃ c,x=.bl c∧Q (.bl (!c)) H1
theorem oR {op} {t:TE} (h:PE X a t):PE X (.BoolOp op [a] pos) t:=fun pins s σ H Q I hw=>BoolOp_one (h pins s σ H Q I hw)
theorem oW (ha:PE X a ta) (hb:PE X (.BoolOp .And (b :: cM) pos) tb):PE X (.BoolOp .And (a :: b :: cM) pos) (tw ta tb):=by
  intro pins s σ H Q I h;refine BoolOp_and (thn (ha pins s σ H _ I h) fun v s1 ⟨x,H1,I1,r1,q1⟩=>?_);obtain ⟨c,rfl,q1⟩:=q1;cases r1;refine wpAny_truthy_bool ?_;cases c with
  | true=>exact hb pins s1 σ H1 Q I1 q1
  | false=>exact ⟨.bl false,H1,I1,rfl,q1⟩
theorem sg (ha:PE X a ta):PE X (.UnaryOp .Not a pos) (sZ ta):=by
  intro pins s σ H Q I h;refine UnaryOp_ (thn (ha pins s σ H _ I h) fun v s1 ⟨x,H1,I1,r1,q1⟩=>?_);obtain ⟨c,rfl,q1⟩:=q1;cases r1;exact not_of (wpAny_truthy_bool ⟨.bl (!c),H1,I1,rfl,q1⟩)
def tIf (t:TT) (ta tb:TE):TE:=fun σ H Q=>t σ H fun c H1=>if c=true then ta σ H1 Q else tb σ H1 Q
theorem gE {c:Expr} (hc:PT X c tA) (ha:PE X a ta) (hb:PE X b tb):PE X (.IfExp c a b pos) (tIf tA ta tb):=by
  intro pins s σ H Q I h;refine wpAny_IfExp (thn (hc pins s σ H _ I h) fun d s1 ⟨H1,I1,q1⟩=>?_);cases d with
  | true=>exact ha pins s1 σ H1 Q I1 q1
  | false=>exact hb pins s1 σ H1 Q I1 q1
end
open PySem PySem.Spec PyProof.Rows
def SqL (K:aab) (H:Hp) (a:Addr) (xs:List V):Prop :=
  Rd H a (.lst xs) ∨
    ∃ (o:Obj) (its:Array Value) (n:Nat),K.lookup a=some o∧o.cls=.type "list"∧o.dict=none∧o.data=.seq its n∧its.size≤sizeLine∧Vals xs its.toList
def SqT (K:aab) (H:Hp) (a:Addr) (xs:List V):Prop :=
  Rd H a (.tup xs) ∨
    ∃ (o:Obj) (its:Array Value) (n:Nat),K.lookup a=some o∧o.cls=.type "tuple"∧o.data=.seq its n∧its.size≤sizeLine∧Vals xs its.toList
def uP:Value→Option V
  | .none=>some .non
  | .bool b=>some (.bl b)
  | .int i _=>some (.int i)
  | .str x _=>some (.str x)
  | .bytes b _=>some (.byt b)
  | .float b _=>some (.flt b)
  | .ref a=>some (.ref a)
  | .type n=>some (.ty n)
  | _=>none
theorem RelV.abs {x:V} {u:Value} (r:RelV x u):uP u=some x:=by
  cases x with
  | non=>cases r;rfl
  | bl _=>cases r;rfl
  | int _=>obtain ⟨t,rfl⟩:=r;rfl
  | str _=>obtain ⟨t,rfl⟩:=r;rfl
  | byt _=>obtain ⟨t,rfl⟩:=r;rfl
  | flt _=>obtain ⟨t,rfl⟩:=r;rfl
  | ref _=>cases r;rfl
  | ty _=>cases r;rfl
theorem RelV.inj {x y:V} {u:Value} (r:RelV x u) (q:RelV y u):x=y:=aaM (r.abs.symm.trans q.abs)
theorem Vals.inj:∀ {xs ys:List V} {us:List Value},Vals xs us→Vals ys us→xs=ys
  | _,_,_,.nil,.nil=>rfl
  | _,_,_,.cons r t,.cons r' t'=>by rw [r.inj r',Vals.inj t t']
section
variable {X:Cx} {pins:List (Addr × Obj)} {σ:St} {H:Hp} {s:Shared} {a:Addr} {xs ys:List V}
theorem SqL.of {K:aab} (h:H a=some (.lst xs)):SqL K H a xs:=.inl (.inl h)
theorem SqT.of {K:aab} (h:H a=some (.tup xs)):SqT K H a xs:=.inl (.inl h)
theorem Inv.list (I:Inv X pins σ H s) (h:SqL X.K H a xs):∃ its:List Value,Vals xs its∧PlainL s.heap a its.toArray∧xs.length≤sizeLine:=by
  rcases h with h|⟨o,its,n,hk,hc,hd,hs,hz,r⟩
  · obtain ⟨z,its,n,r,e⟩:=h.ok I.hok;exact ⟨its,r,⟨_,n,e,rfl,rfl,rfl⟩,z⟩
  · refine ⟨its.toList,r,⟨o,n,I.kIn a o hk,hc,hd,by simpa using hs⟩,?_⟩;have e:=r.length;simp only [Array.length_toList] at e;lia
theorem Inv.tuple (I:Inv X pins σ H s) (h:SqT X.K H a xs):∃ its:List Value,Vals xs its∧IsTup s.heap a its.toArray∧xs.length≤sizeLine:=by
  rcases h with h|⟨o,its,n,hk,hc,hs,hz,r⟩
  · obtain ⟨z,its,r,p⟩:=h.ok I.hok;exact ⟨its,r,p,z⟩
  · refine ⟨its.toList,r,⟨o,I.kIn a o hk,hc,n,by simpa using hs⟩,?_⟩;have e:=r.length;simp only [Array.length_toList] at e;lia
theorem Inv.list_inj (I:Inv X pins σ H s) (h:SqL X.K H a xs) (h':SqL X.K H a ys):xs=ys:=by
  obtain ⟨its,r,⟨o,n,e,_,_,d⟩,_⟩:=I.list h;obtain ⟨its',r',⟨o',n',e',_,_,d'⟩,_⟩:=I.list h';rw [e] at e';cases e';rw [d] at d';injection d' with d1 _
  have : its=its':=by simpa using congrArg Array.toList d1
  subst this;exact r.inj r'
theorem Inv.tuple_inj (I:Inv X pins σ H s) (h:SqT X.K H a xs) (h':SqT X.K H a ys):xs=ys:=by
  obtain ⟨its,r,⟨o,e,_,n,d⟩,_⟩:=I.tuple h;obtain ⟨its',r',⟨o',e',_,n',d'⟩,_⟩:=I.tuple h';rw [e] at e';cases e';rw [d] at d';injection d' with d1 _
  have : its=its':=by simpa using congrArg Array.toList d1
  subst this;exact r.inj r'
end
abbrev Cx.wish (X:Cx) (E:Value→Shared→Prop):Cx:={ X with xe:=E }
abbrev Cx.nox (X:Cx):Cx:=X.wish fun _ _=>False
theorem Cx.Ok.wish {X:Cx} (ok:X.Ok) (E:Value→Shared→Prop):(X.wish E).Ok :=
  ⟨ok.mod,ok.kind,ok.glob,ok.blt,ok.above,ok.inj,ok.has,ok.cab,ok.hd,ok.frames,ok.stk,ok.exf,ok.bs,ok.bsz,ok.noex,ok.exfs,ok.funs,ok.frf⟩
theorem Cx.Ok.unwish {X:Cx} {E:Value→Shared→Prop} (ok:(X.wish E).Ok):X.Ok :=
  ⟨ok.mod,ok.kind,ok.glob,ok.blt,ok.above,ok.inj,ok.has,ok.cab,ok.hd,ok.frames,ok.stk,ok.exf,ok.bs,ok.bsz,ok.noex,ok.exfs,ok.funs,ok.frf⟩
section
variable {X:Cx} {pins:List (Addr × Obj)} {σ:St} {H:Hp} {s:Shared} {E:Value→Shared→Prop}
theorem Inv.wish (I:Inv X pins σ H s) (E:Value→Shared→Prop):Inv (X.wish E) pins σ H s:=⟨I.ok.wish E,I.os,I.bare,I.base,I.loc,I.cell,I.free,I.freeC,I.pin,I.hok,I.len⟩
theorem Inv.unwish (I:Inv (X.wish E) pins σ H s):Inv X pins σ H s:=⟨I.ok.unwish,I.os,I.bare,I.base,I.loc,I.cell,I.free,I.freeC,I.pin,I.hok,I.len⟩
theorem SP.unwish {D:Ends} {f:Flow} {s':Shared} (h:SP (X.wish E) pins D f s'):SP X pins D f s':=by
  cases f with
  | next=>obtain ⟨σ',H',I,q⟩:=h;exact ⟨σ',H',I.unwish,q⟩
  | brk=>obtain ⟨σ',H',I,q⟩:=h;exact ⟨σ',H',I.unwish,q⟩
  | cont=>obtain ⟨σ',H',I,q⟩:=h;exact ⟨σ',H',I.unwish,q⟩
  | ret u=>obtain ⟨v,σ',H',I,r,q⟩:=h;exact ⟨v,σ',H',I.unwish,r,q⟩
theorem PSs.nox {st:List Stmt} {t:TS} (h:PSs X.nox st t):PSs X st t:=fun pins s σ H D I hw =>
  wpAny_mono (h pins s σ H D (I.wish _) hw) (fun _ _ q=>q.unwish) fun _ _ z=>aa2 z
end
section
variable {X:Cx} {st:Stmt} {cM:List Stmt} {t u:TS} {e:Expr} {te:TE} {pos:Pos}
def s_:TS:=fun D σ H=>D.nx σ H
def ue (t u:TS):TS:=fun D σ H=>t { D with nx:=u D } σ H
theorem bo:PSs X [] s_:=fun _ _ σ H _ I h=>wpAny_execs_nil ⟨σ,H,I,h⟩
theorem ag (h1:PS X st t) (h2:PSs X cM u):PSs X (st :: cM) (ue t u):=by
  intro pins s σ H D I h;refine wpAny_execs_cons (thn (h1 pins s σ H { D with nx:=u D } I h) fun f s1 q=>?_);cases f with
  | next =>
    obtain ⟨σ',H',I',q⟩:=q;exact h2 pins s1 σ' H' D I' q
  | ret v=>exact q
  | brk=>exact q
  | cont=>exact q
theorem am (h1:PS X st t):PSs X [st] t:=by
  intro pins s σ H D I h;refine wpAny_execs_cons (thn (h1 pins s σ H D I h) fun f s1 q=>?_);cases f with
  | next=>exact wpAny_execs_nil q
  | ret v=>exact q
  | brk=>exact q
  | cont=>exact q
theorem Inv.quiet {pins:List (Addr × Obj)} {σ:St} {H:Hp} {s:Shared} (I:Inv X pins σ H s):interactive X.env=false:=by simp [interactive,I.ok.kind]
def tj (te:TE):TS:=fun D σ H=>te σ H fun _ H1=>D.nx σ H1
theorem cz (he:PE X e te) (hs:swapsWith e none pos.line X.env=pure false:=by rfl):PS X (.Expr e pos) (tj te):=by
  intro pins s σ H D I h;exact wpAny_Expr_any (thn (he pins s σ H _ I h) fun v s1 ⟨x,H1,I1,r1,q1⟩=>⟨σ,H1,I1,q1⟩) I.quiet hs
def ug (te:TE):TS:=fun D σ H=>te σ H D.rt
theorem az (he:PE X e te):PS X (.Return (some e) pos) (ug te):=by
  intro pins s σ H D I h;exact wpAny_Return_some (thn (he pins s σ H _ I h) fun v s1 ⟨x,H1,I1,r1,q1⟩=>⟨x,σ,H1,I1,r1,q1⟩)
def uq (c:TT) (t u:TS):TS:=fun D σ H=>c σ H fun b H1=>if b=true then t D σ H1 else u D σ H1
theorem cA {c:Expr} {a b:List Stmt} {tc:TT} (hc:PT X c tc) (ha:PSs X a t) (hb:PSs X b u):PS X (.If c a b pos) (uq tc t u):=by
  intro pins s σ H D I h;refine wpAny_If (thn (hc pins s σ H _ I h) fun d s1 ⟨H1,I1,q1⟩=>?_);cases d with
  | true=>exact ha pins s1 σ H1 D I1 q1
  | false=>exact hb pins s1 σ H1 D I1 q1
end
abbrev TG:=V→St→Hp→(St→Hp→Prop)→Prop
abbrev TGs:=List V→St→Hp→(St→Hp→Prop)→Prop
def PG (X:Cx) (target:Expr) (t:TG):Prop :=
  ∀ (pins:List (Addr × Obj)) (s:Shared) (σ:St) (H:Hp) (v:V) (u:Value) (Q:St→Hp→Prop),Inv X pins σ H s→RelV v u→t v σ H Q →
    wpAny (model X.prog X.w) X.A (assign target X.env u) (fun _ s'=>∃ σ' H',Inv X pins σ' H' s'∧Q σ' H') X.xe s
def PGs (X:Cx) (ts:List Expr) (t:TGs):Prop :=
  ∀ (pins:List (Addr × Obj)) (s:Shared) (σ:St) (H:Hp) (vs:List V) (us:List Value) (Q:St→Hp→Prop),Inv X pins σ H s→Vals vs us→t vs σ H Q →
    wpAny (model X.prog X.w) X.A (assignInOrder ((assignEach ts X.env).map (·.2)) us) (fun _ s'=>∃ σ' H',Inv X pins σ' H' s'∧Q σ' H') X.xe s
abbrev sS:=V→V→V→Hp→(Hp→Prop)→Prop
def t_ (X:Cx) (t:sS):Prop :=
  ∀ (pins:List (Addr × Obj)) (s:Shared) (σ:St) (H:Hp) (o i v:V) (ov iv u:Value) (Q:Hp→Prop),Inv X pins σ H s→RelV o ov→RelV i iv→RelV v u→t o i v H Q →
    wpAny (model X.prog X.w) X.A (setItem ov iv u) (fun _ s'=>∃ H',Inv X pins σ H' s'∧Q H') X.xe s
abbrev TIp:=V→V→Hp→VK→Prop
def PIp (X:Cx) (op:Operator) (t:TIp):Prop :=
  ∀ (pins:List (Addr × Obj)) (s:Shared) (σ:St) (H:Hp) (x y:V) (v u:Value) (Q:VK),Inv X pins σ H s→RelV x v→RelV y u→t x y H Q →
    wpAny (model X.prog X.w) X.A (inplaceOp op v u) (EP X pins σ Q) X.xe s
section
variable {X:Cx} {pos:Pos}
def pH (i:Nat):TG:=fun v σ H Q=>Q (σ.set i (some v)) H
theorem ao {i:Nat} {x:Str} (hN:X.N.Nodup) (hi:X.N[i]?=some x) (hx:Loc X.env.scope x) (hf:X.fn x=true∨X.env.scope.names.lookup x=some .local:=by first|exact .inl rfl|exact .inr rfl|assumption):PG X (.Name x pos) (pH i):=by
  intro pins s σ H v u Q I r h;exact wpAny_assign_Name (dM I hN hi hx r (fun s' I'=>⟨_,H,I',h⟩) hf)
def uN:TGs:=fun vs σ H Q=>vs=[]∧Q σ H
def tZ (t:TG) (u:TGs):TGs:=fun vs σ H Q=>∃ v r,vs=v :: r∧t v σ H fun σ' H'=>u r σ' H' Q
theorem bN:PGs X [] uN:=by
  intro pins s σ H vs us Q I r h;obtain ⟨e,h⟩:=h;subst e;cases r;exact assignInOrder_nil ⟨σ,H,I,h⟩
theorem ap {e:Expr} {es:List Expr} {t:TG} {u:TGs} (h1:PG X e t) (h2:PGs X es u)
    (hs:(assignEach (e :: es) X.env).map (·.2)=assign e X.env :: (assignEach es X.env).map (·.2):=by rfl):PGs X (e :: es) (tZ t u):=by
  intro pins s σ H vs us Q I r h;obtain ⟨v,vr,e1,h⟩:=h;subst e1;cases r with
  | cons r rr =>
    rw [hs];refine assignInOrder_cons (thn (h1 pins s σ H _ _ _ I r h) fun _ s1 ⟨σ1,H1,I1,q1⟩=>?_);exact h2 pins s1 σ1 H1 _ _ Q I1 rr q1
def tY (K:aab) (n:Nat) (t:TGs):TG:=fun v σ H Q=>∃ a xs,v=.ref a∧SqT K H a xs∧xs.length=n∧t xs σ H Q
theorem dk {es:List Expr} {k:Nat} {t:TGs} {n:Nat} (hc:X.calm=true) (h:PGs X es t)
    (hn:(assignEach es X.env).length=n:=by rfl) (hst:(assignEach es X.env).findIdx? (·.1)=none:=by rfl):PG X (.Tuple es k pos) (tY X.K n t):=by
  intro pins s σ H v u Q I r hw;obtain ⟨a,xs,e1,hq,hl,hw⟩:=hw;subst e1;cases r;obtain ⟨its,rv,ht,hz⟩:=I.tuple hq;refine assign_Tuple_tuple (I.ok.hd hc) ht (by simp [hn,← hl,rv.length]) hst fun h' hx=>?_;have I1:Inv X pins σ H { s with heap:=h' }:=I.kept (t':=s.toks) fun b o e=>hx b o (aaq (aaf e)) e;exact h pins _ σ H xs _ Q I1 (by simpa using rv) hw
def uM (to ti:TE) (t:sS):TG:=fun v σ H Q=>to σ H fun o H1=>ti σ H1 fun i H2=>t o i v H2 fun H3=>Q σ H3
theorem oP {o i:Expr} {to ti:TE} {t:sS} (ho:PE X o to) (hi:PE X i ti) (hs:t_ X t)
    (ha:∀ v,assign (.Subscript o i pos) X.env v=(do
      let ov ← holding [v] (eval o X.env)
      let iv ← holding [v,ov] (eval i X.env)
      standAt pos
      holding [v,ov,iv] (setItem ov iv v)
      release [v,ov,iv] []):=by intro _;rfl):PG X (.Subscript o i pos) (uM to ti t):=by
  intro pins s σ H v u Q I r h;rw [ha];refine wpAny_bind (wpAny_holding (thn (ho pins s σ H _ I h) fun ov s1 ⟨x,H1,I1,r1,q1⟩=>?_));refine wpAny_bind (wpAny_holding (thn (hi pins s1 σ H1 _ I1 q1) fun iv s2 ⟨y,H2,I2,r2,q2⟩=>?_));refine wpAny_bind (wpAny_standAt (wpAny_bind (wpAny_holding (thn (hs pins s2 σ H2 x y v ov iv u _ I2 r1 r2 r q2) fun _ s3 ⟨H3,I3,q3⟩=>?_))));exact wpAny_release ⟨σ,H3,I3,q3⟩
def rQ (te:TE) (g:TG):TS:=fun D σ H=>te σ H fun x H1=>g x σ H1 D.nx
theorem dj {tg e:Expr} {te:TE} {g:TG} (he:PE X e te) (hg:PG X tg g) (hs:swapsWithSole [tg] e pos.line X.env=pure false:=by rfl) (hw:swappedStores [tg] e X.env=pure none:=by rfl)
    (h1:(assignEach [tg] X.env).map (·.2)=[assign tg X.env]:=by rfl):PS X (.Assign [tg] e pos) (rQ te g):=by
  intro pins s σ H D I h;refine wpAny_Assign_stores (thn (he pins s σ H _ I h) fun v s1 ⟨x,H1,I1,r1,q1⟩=>?_) hs hw;rw [h1];exact thn (hg pins s1 σ H1 x v _ I1 r1 q1) fun _ s2 q=>q
theorem aC {i:Nat} {x:Str} {e:Expr} {te:TE} {pos':Pos} (hN:X.N.Nodup) (hi:X.N[i]?=some x) (hx:Loc X.env.scope x) (he:PE X e te) (hs:swapsWith e (some (.Name x pos')) pos.line X.env=pure false:=by rfl) (hf:X.fn x=true∨X.env.scope.names.lookup x=some .local:=by first|exact .inl rfl|exact .inr rfl|assumption) :
    PS X (.Assign [.Name x pos'] e pos) (rQ te (pH i)):=by
  intro pins s σ H D I h;refine wpAny_Assign_Name (thn (he pins s σ H _ I h) fun v s1 ⟨y,H1,I1,r1,q1⟩=>?_) hs;exact dM I1 hN hi hx r1 (fun s2 I2=>⟨_,H1,I2,q1⟩) hf
def uv (i:Nat) (te:TE) (ti:TIp):TS:=fun D σ H=>∃ x,σ[i]?=some (some x)∧te σ H fun y H1=>ti x y H1 fun z H2=>D.nx (σ.set i (some z)) H2
theorem lM {i:Nat} {x:Str} {e:Expr} {te:TE} {op:Operator} {ti:TIp} {pos':Pos} (hN:X.N.Nodup) (hi:X.N[i]?=some x) (hx:Loc X.env.scope x) (he:PE X e te) (ho:PIp X op ti) (hf:X.fn x=true∨X.env.scope.names.lookup x=some .local:=by first|exact .inl rfl|exact .inr rfl|assumption) :
    PS X (.AugAssign (.Name x pos') op e pos) (uv i te ti):=by
  intro pins s σ H D I h;obtain ⟨v,e1,h⟩:=h;obtain ⟨m,hn,hl⟩:=I.loc;have vis:Vis X.env.scope x:=by rcases hx with k|k;exact .inl k;exact .inr (.inl k)
  obtain ⟨u,r,l⟩:=hl i x v hi e1 vis;refine wpAny_AugAssign_Name ?_;have go:wpAny (model X.prog X.w) X.A (eval e X.env) (fun w s₂=>wpAny (model X.prog X.w) X.A (inplaceOp op u w) (fun r s₃=>wpAny (model X.prog X.w) X.A (storeName X.env x r) (fun _=>SP X pins D .next) X.xe s₃) X.xe s₂) X.xe s:=by
    refine thn (he pins s σ H _ I h) fun w s1 ⟨y,H1,I1,r1,q1⟩=>?_;refine thn (ho pins s1 σ H1 v y u w _ I1 r r1 q1) fun z s2 ⟨zv,H2,I2,r2,q2⟩=>?_;exact dM I2 hN hi hx r2 (fun s3 I3=>⟨_,H2,I3,q2⟩) hf
  rcases l with ⟨hk,hm⟩|⟨hk,c,hc,hcell⟩
  · exact wpAny_loadName_local I.ok.kind hk hn hm go
  · rcases hk with hk|hk
    · exact wpAny_loadName_cell I.ok.kind hk hc hcell go
    · rcases hx with k|k
      · have : X.env.scope.names.lookup x=some .free:=hk;rw [k] at this;cases this
      · have : X.env.scope.names.lookup x=some .free:=hk;rw [k] at this;cases this
def ipI (f:Int→Int→Int):TIp:=fun x y H Q=>∃ i j,x=.int i∧y=.int j∧Q (.int (f i j)) H
theorem pA:PIp X .Add (ipI fun i j=>i+j):=by
  intro pins s σ H x y v u Q I r1 r2 h;obtain ⟨i,j,e1,e2,q⟩:=h;subst e1;subst e2;obtain ⟨t,rfl⟩:=r1;obtain ⟨t',rfl⟩:=r2;exact iadd_int ⟨.int _,H,I.tok _,⟨_,rfl⟩,q⟩
theorem sJ:PIp X .Sub (ipI fun i j=>i - j):=by
  intro pins s σ H x y v u Q I r1 r2 h;obtain ⟨i,j,e1,e2,q⟩:=h;subst e1;subst e2;obtain ⟨t,rfl⟩:=r1;obtain ⟨t',rfl⟩:=r2;exact isub_int ⟨.int _,H,I.tok _,⟨_,rfl⟩,q⟩
end
section
variable {X:Cx} {pos:Pos}
def rJ (c:TT) (tb:TS):TS:=fun D σ H=>∃ W:Nat→St→Hp→Prop,(∃ m,W m σ H)∧∀ m σ H,W m σ H →
  c σ H fun b H1=>if b=true then ∃ N:St→Hp→Prop,(∀ σ' H',N σ' H'→∃ m',m' < m∧W m' σ' H')∧tb { D with nx:=N,ct:=N,bk:=D.nx } σ H1 else D.nx σ H1
theorem oJ {c:Expr} {body:List Stmt} {tc:TT} {tb:TS} (hp:PassesOwn (model X.prog X.w) X.A X.env X.xe) (hc:PT X c tc) (hb:PSs X body tb):PS X (.While c body [] pos) (rJ tc tb):=by
  intro pins s σ H D I h;obtain ⟨W,⟨m0,w0⟩,turn⟩:=h;refine wpAny_While (codeAny_whileLoop (fun n s'=>∃ σ' H',Inv X pins σ' H' s'∧W n σ' H') ?_ m0 ⟨σ,H,I,w0⟩);rintro n s1 ⟨σ1,H1,I1,w1⟩;refine wpAny_passesOwn hp (thn (hc pins s1 σ1 H1 _ I1 (turn n σ1 H1 w1)) fun b s2 ⟨H2,I2,q2⟩=>?_);cases b with
  | true =>
    obtain ⟨N,hN,q2⟩:=q2;rw [if_pos rfl];refine wpAny_passesOwn hp (thn (hb pins s2 σ1 H2 _ I2 q2) fun f s3 q3=>?_);cases f with
    | next =>
      obtain ⟨σ3,H3,I3,n3⟩:=q3;obtain ⟨m',hm,w3⟩:=hN σ3 H3 n3;exact ⟨m',hm,σ3,H3,I3,w3⟩
    | cont =>
      obtain ⟨σ3,H3,I3,n3⟩:=q3;obtain ⟨m',hm,w3⟩:=hN σ3 H3 n3;exact ⟨m',hm,σ3,H3,I3,w3⟩
    | brk=>exact q3
    | ret v=>exact q3
  | false =>
    rw [if_neg aae];exact wpAny_execs_nil ⟨σ1,H2,I2,q2⟩
end
structure It where
  go:Nat→Hp→Prop
  yld:Nat→Hp→V→Hp→Prop
  stop:Nat→Hp→Prop
def fI (X:Cx) (pins:List (Addr × Obj)) (H:Hp) (b:Addr):Prop :=
  H b=none∧b≠X.env.locals∧b∉X.fs∧(b∈X.ex∨X.s₀.heap.objs.size≤b)∧(∀ x c,X.env.cells.lookup x=some c→c≠b)∧∀ p∈X.pn++pins,p.1≠b
theorem Inv.fpOk {X:Cx} {pins:List (Addr × Obj)} {σ:St} {H H':Hp} {s:Shared} {b:Addr} (I:Inv X pins σ H s) (hb:s.heap.objs.size≤b) (hn:H' b=none):fI X pins H' b:=by
  refine ⟨hn,aaN (aam I.lt hb),I.nofs hb,.inr (aaJ I.sz hb),fun x c e z=>?_,fun p hp z=>?_⟩
  · obtain ⟨v,q⟩:=I.cell x c e;exact absurd (aam q.lt (by rw [z];exact hb)) (aaT _)
  · exact absurd (aam (aaf (I.pin p hp).1) (by rw [z];exact hb)) (aaT _)
structure Turn (P:Program) (w:World) (K:aab) (tg:Expr) (J:It) (fp:List Addr) (it:Addr) (tn:Nat→Heap→Prop):Prop where
  mem:it∈fp
  obj:∀ i h,tn i h→∀ b∈fp,∃ o,h.get? b=some o∧∀ v,o.data≠.cell v
  keep:∀ i h h',tn i h→(∀ b∈fp,∀ o,h.get? b=some o→h'.get? b=some o)→tn i h'
  item:∀ (X:Cx),X.prog=P→X.w=w→X.K=K→X.calm=true→∀ (i:Nat) (pins:List (Addr × Obj)) (s:Shared) (σ:St) (H:Hp) (E:Value→Shared→Prop),Inv X pins σ H s→(∀ b∈fp,fI X pins H b)→tn i s.heap→J.go i H →
    wpAny (model P w) X.A (pyNext (.ref it)) (fun r s1=>∃ u,r=some u ∧
      wpAny (model P w) X.A (letOwnedTupleGo tg (.ref it) u) (fun _ s2=>∃ x H',Inv X pins σ H' s2∧RelV x u∧J.yld i H x H'∧tn (i+1) s2.heap∧∀ b∈fp,H' b=none) E s1) E s
  done:∀ (X:Cx),X.prog=P→X.w=w→X.K=K→X.calm=true→∀ (i:Nat) (pins:List (Addr × Obj)) (s:Shared) (σ:St) (H:Hp) (E:Value→Shared→Prop),Inv X pins σ H s→(∀ b∈fp,fI X pins H b)→tn i s.heap→J.stop i H →
    wpAny (model P w) X.A (pyNext (.ref it)) (fun r s1=>r=none∧Inv X pins σ H s1) E s
  self:∀ (A:Around) (i:Nat) (s:Shared) (Q:Value→Shared→Prop) (E:Value→Shared→Prop),tn i s.heap→Q (.ref it) s→wpAny (model P w) A (pyIter (.ref it)) Q E s
abbrev TI:=St→Hp→(It→Hp→Prop)→Prop
def PIE (X:Cx) (pins:List (Addr × Obj)) (σ:St) (tg:Expr) (R:It→Hp→Prop) (itv:Value) (s2:Shared):Prop :=
  ∃ (it:Addr) (fp:List Addr) (tn:Nat→Heap→Prop) (J:It) (H':Hp),itv=.ref it∧Inv X pins σ H' s2∧Turn X.prog X.w X.K tg J fp it tn∧tn 0 s2.heap∧(∀ b∈fp,fI X pins H' b)∧R J H'
def PI (X:Cx) (tg iter:Expr) (wi:TI):Prop :=
  ∀ (pins:List (Addr × Obj)) (s:Shared) (σ:St) (H:Hp) (R:It→Hp→Prop),Inv X pins σ H s→wi σ H R →
    wpAny (model X.prog X.w) X.A (eval iter X.env) (fun v s1=>wpAny (model X.prog X.w) X.A (pyIter v) (PIE X pins σ tg R) X.xe s1) X.xe s
theorem mL {M:Model} {A:Around} {E:Value→Shared→Prop} {s:Shared} {tg:Expr} {it:Addr} {u:Value} {o:Obj} {n:String} {vs:Array Value} {Q:Unit→Shared→Prop} (ho:s.heap.get? it=some o) (hc:o.cls=.type n) (hd:o.data=.fields vs)
    (hn:["enumerate","zip","dict_itemiterator","dict_reverseitemiterator","odict_iterator","itertools.zip_longest","itertools.pairwise"].contains n=false) (hQ:Q () s):wpAny M A (letOwnedTupleGo tg (.ref it) u) Q E s:=by
  unfold letOwnedTupleGo;cases tg <;> first
    | exact wpAny_pure hQ
    | (cases u <;> first
        | exact wpAny_pure hQ
        | (refine wpAny_bind (wpAny_load ho ?_)
           rw [hc,hd];show wpAny M A (if (["enumerate","zip","dict_itemiterator","dict_reverseitemiterator","odict_iterator","itertools.zip_longest","itertools.pairwise"].contains n && vs[0]? == some (rawInt _))=true then _ else _) Q E s;rw [if_neg (by intro h;rw [hn,Bool.false_and] at h;cases h)];exact wpAny_pure hQ))
def Itl (K:aab) (a:Addr):It :=
  ⟨fun i H=>∃ xs x,SqL K H a xs∧xs[i]?=some x,fun i H x H'=>H'=H∧∀ xs,SqL K H a xs→xs[i]?=some x,fun i H=>∃ xs,SqL K H a xs∧xs.length≤i⟩
def Itt (K:aab) (a:Addr):It :=
  ⟨fun i H=>∃ xs x,SqT K H a xs∧xs[i]?=some x,fun i H x H'=>H'=H∧∀ xs,SqT K H a xs→xs[i]?=some x,fun i H=>∃ xs,SqT K H a xs∧xs.length≤i⟩
def Itr (lo:Int) (n:Nat):It:=⟨fun i _=>i < n,fun i H x H'=>H'=H∧x=.int (lo+i),fun i _=>n≤i⟩
theorem mY {P:Program} {w:World} {K:aab} {tg:Expr} (a it:Addr):Turn P w K tg (Itl K a) [it] it (fun i h=>h.IsListIter it a i) where
  mem:=by simp
  obj:=fun i h st b hb=>by
    have e:b=it:=by simpa using hb
    subst e;obtain ⟨o,e,c,d⟩:=st;exact ⟨o,e,fun v z=>by rw [d] at z;cases z⟩
  keep:=fun i h h' st k=>st.at fun o e=>k it (by simp) o e
  item:=by
    intro X hP hw hK hc i pins s σ H E I hf st hg;subst hP hw hK;obtain ⟨xs,x,hq,hx⟩:=hg;obtain ⟨its,rv,p,hz⟩:=I.list hq;obtain ⟨u,hu,ru⟩:=rv.get hx;obtain ⟨f0,f1,f2,f3,f4,f5⟩:=hf it (by simp);refine wpAny_pyNext_list_item st p.isList (x:=u) (by simpa using hu) fun h' st' sb=>?_;have I1:Inv X pins σ H { s with heap:=h' }:=I.turned (t':=s.toks) (fun b o hb e=>(sb.2 b hb).trans e) f0 f1 f3 f4 f5;obtain ⟨o,e,c,d⟩:=id st';exact ⟨u,rfl,mL (s:={ s with heap:=h' }) e c d (by decide) ⟨x,H,I1,ru,⟨rfl,fun ys hy=>by rw [I.list_inj hy hq];exact hx⟩,st',fun b hb=>(hf b hb).1⟩⟩
  done:=by
    intro X hP hw hK hc i pins s σ H E I hf st hg;subst hP hw hK;obtain ⟨xs,hq,hx⟩:=hg;obtain ⟨its,rv,p,hz⟩:=I.list hq;obtain ⟨f0,f1,f2,f3,f4,f5⟩:=hf it (by simp);have hl:=rv.length;exact wpAny_pyNext_list_end (I.ok.hd hc) st p.isList (by simp;lia) fun h' eb=>⟨rfl,I.turned (t':=s.toks) (fun b o hb e=>eb b o hb e) f0 f1 f3 f4 f5⟩
  self:=fun _ _ _ _ _ st h=>wpAny_pyIter_listiter st h
theorem lh {P:Program} {w:World} {K:aab} {tg:Expr} (a it:Addr):Turn P w K tg (Itt K a) [it] it (fun i h=>h.IsTupleIter it a i) where
  mem:=by simp
  obj:=fun i h st b hb=>by
    have e:b=it:=by simpa using hb
    subst e;obtain ⟨o,e,c,d⟩:=st;exact ⟨o,e,fun v z=>by rw [d] at z;cases z⟩
  keep:=fun i h h' st k=>st.at fun o e=>k it (by simp) o e
  item:=by
    intro X hP hw hK hc i pins s σ H E I hf st hg;subst hP hw hK;obtain ⟨xs,x,hq,hx⟩:=hg;obtain ⟨its,rv,p,hz⟩:=I.tuple hq;obtain ⟨u,hu,ru⟩:=rv.get hx;obtain ⟨f0,f1,f2,f3,f4,f5⟩:=hf it (by simp);refine wpAny_pyNext_tuple_item st (show s.heap.IsTuple a its.toArray from p) (x:=u) (by simpa using hu) fun h' st' sb=>?_;have I1:Inv X pins σ H { s with heap:=h' }:=I.turned (t':=s.toks) (fun b o hb e=>(sb.2 b hb).trans e) f0 f1 f3 f4 f5;obtain ⟨o,e,c,d⟩:=id st';exact ⟨u,rfl,mL (s:={ s with heap:=h' }) e c d (by decide) ⟨x,H,I1,ru,⟨rfl,fun ys hy=>by rw [I.tuple_inj hy hq];exact hx⟩,st',fun b hb=>(hf b hb).1⟩⟩
  done:=by
    intro X hP hw hK hc i pins s σ H E I hf st hg;subst hP hw hK;obtain ⟨xs,hq,hx⟩:=hg;obtain ⟨its,rv,p,hz⟩:=I.tuple hq;obtain ⟨f0,f1,f2,f3,f4,f5⟩:=hf it (by simp);have hl:=rv.length;exact wpAny_pyNext_tuple_end (I.ok.hd hc) st (show s.heap.IsTuple a its.toArray from p) (by simp;lia) fun h' eb=>⟨rfl,I.turned (t':=s.toks) (fun b o hb e=>eb b o hb e) f0 f1 f3 f4 f5⟩
  self:=fun _ _ _ _ _ st h=>wpAny_pyIter_tupleiter st h
theorem li {P:Program} {w:World} {K:aab} {tg:Expr} (it:Addr) (lo:Int) (n:Nat):Turn P w K tg (Itr lo n) [it] it (fun i h=>IsRangeIter h it (lo+(i:Nat) * 1) ((n:Int) - (i:Nat)) 1) where
  mem:=by simp
  obj:=fun i h st b hb=>by
    have e:b=it:=by simpa using hb
    subst e;exact ⟨_,st,fun v z=>by
      have z':Data.fields _=Data.cell v:=z;cases z'⟩
  keep:=fun i h h' st k=>k it (by simp) _ st
  item:=by
    intro X hP hw hK hc i pins s σ H E I hf st hg;subst hP hw hK;obtain ⟨f0,f1,f2,f3,f4,f5⟩:=hf it (by simp);have W:=Walks.range (prog:=X.prog) (w:=X.w) (I.ok.hd hc) it lo 1 n;refine W.item i s _ _ hg st fun v h' tk hv st' kk=>?_;obtain ⟨t,rfl⟩:=hv;have I1:Inv X pins σ H { s with heap:=h',toks:=tk }:=I.turned (fun b o hb e=>kk b o (by simpa using hb) e) f0 f1 f3 f4 f5;refine ⟨_,rfl,mL (s:={ s with heap:=h',toks:=tk }) (n:="range_iterator") st' rfl rfl (by decide) ⟨.int (lo+i),H,I1,⟨t,?_⟩,⟨rfl,rfl⟩,st',fun b hb=>(hf b hb).1⟩⟩;rw [Int.mul_one]
  done:=by
    intro X hP hw hK hc i pins s σ H E I hf st hg;subst hP hw hK;obtain ⟨f0,f1,f2,f3,f4,f5⟩:=hf it (by simp);exact wpAny_pyNext_range_end (I.ok.hd hc) st (by have : n≤i:=hg;lia) fun h' eb=>⟨rfl,I.turned (t':=s.toks) (fun b o hb e=>eb b o hb e) f0 f1 f3 f4 f5⟩
  self:=fun _ _ _ _ _ st h=>wpAny_pyIter_rangeiter st h
open PySem PySem.Spec PyProof.Rows
section
variable {X:Cx} {tg:Expr}
def tX (K:aab) (tl:TE):TI:=fun σ H R=>tl σ H fun x H1=>∃ a,x=.ref a∧(∃ xs,SqL K H1 a xs)∧R (Itl K a) H1
def tU (K:aab) (tl:TE):TI:=fun σ H R=>tl σ H fun x H1=>∃ a,x=.ref a∧(∃ xs,SqT K H1 a xs)∧R (Itt K a) H1
theorem cN {l:Expr} {tl:TE} (hl:PE X l tl):PI X tg l (tX X.K tl):=by
  intro pins s σ H R I h;refine thn (hl pins s σ H _ I h) fun v s1 ⟨x,H1,I1,r1,q1⟩=>?_;obtain ⟨a,e,⟨xs,hq⟩,q⟩:=q1;subst e;cases r1;obtain ⟨its,rv,p,hz⟩:=I1.list hq;refine wpAny_pyIter_list p.isList ?_;refine ⟨s1.heap.objs.size,[s1.heap.objs.size],_,_,H1,rfl,I1.kept (t':=s1.toks) fun b o e=>aac _ e,mY a _,⟨_,aar _ rfl,rfl,rfl⟩,fun b hb=>?_,q⟩;have e:b=s1.heap.objs.size:=by simpa using hb
  subst e;exact I1.fpOk (aah _) (I1.hok.fresh (aah _))
theorem sd {l:Expr} {tl:TE} (hl:PE X l tl):PI X tg l (tU X.K tl):=by
  intro pins s σ H R I h;refine thn (hl pins s σ H _ I h) fun v s1 ⟨x,H1,I1,r1,q1⟩=>?_;obtain ⟨a,e,⟨xs,hq⟩,q⟩:=q1;subst e;cases r1;obtain ⟨its,rv,p,hz⟩:=I1.tuple hq;refine wpAny_pyIter_tuple (show s1.heap.IsTuple a its.toArray from p) ?_;refine ⟨s1.heap.objs.size,[s1.heap.objs.size],_,_,H1,rfl,I1.kept (t':=s1.toks) fun b o e=>aac _ e,lh a _,⟨_,aar _ rfl,rfl,rfl⟩,fun b hb=>?_,q⟩;have e:b=s1.heap.objs.size:=by simpa using hb
  subst e;exact I1.fpOk (aah _) (I1.hok.fresh (aah _))
theorem j0 {pins:List (Addr × Obj)} {σ:St} {H:Hp} {s:Shared} {R:It→Hp→Prop} {E:Value→Shared→Prop} {lo hi:Int} {t u v:Tok} {tk:Nat} (I:Inv X pins σ H s) (h1:-(2 ^ 62)≤lo) (h2:lo < 2 ^ 62) (h3:-(2 ^ 62)≤hi) (h4:hi < 2 ^ 62)
    (q:R (Itr lo (hi - lo).toNat) H):wpAny (model X.prog X.w) X.A (pyIter (.ref s.heap.objs.size)) (PIE X pins σ tg R) E { s with heap:=s.heap.push { cls:=.type "range",data:=.fields #[.int lo t,.int hi u,.int 1 v] },toks:=tk }:=by
  refine wpAny_pyIter_range (IsRange.new ..) (small_one h1 h2 h3 h4) ?_;have I1:Inv X pins σ H { s with heap:=s.heap.push { cls:=.type "range",data:=.fields #[.int lo t,.int hi u,.int 1 v] },toks:=tk }:=I.kept fun b o e=>aac _ e;refine ⟨(s.heap.push { cls:=.type "range",data:=.fields #[.int lo t,.int hi u,.int 1 v] }).objs.size,[(s.heap.push { cls:=.type "range",data:=.fields #[.int lo t,.int hi u,.int 1 v] }).objs.size],_,_,H,rfl,
    I1.kept (t':=tk) fun b o e=>aac _ e,li _ lo (hi - lo).toNat,?_,fun b hb=>?_,q⟩
  · have e1:lo+((0:Nat):Int) * 1=lo:=by simp
    have e2:(((hi - lo).toNat:Nat):Int) - ((0:Nat):Int)=Builtin.Range.rangeSize lo hi 1:=by rw [rangeSize_one];split <;> lia
    show IsRangeIter _ _ (lo+((0:Nat):Int) * 1) ((((hi - lo).toNat:Nat):Int) - ((0:Nat):Int)) 1;rw [e1,e2];exact aar _ rfl
  · have e:b=(s.heap.push { cls:=.type "range",data:=.fields #[.int lo t,.int hi u,.int 1 v] }).objs.size:=by simpa using hb
    subst e;exact I1.fpOk (aah _) (I1.hok.fresh (aah _))
def tW (ta:TA):TI:=fun σ H R=>ta σ H fun vs H1=>∃ j:Int,vs=[.int j]∧-(2 ^ 62)≤j∧j < 2 ^ 62∧R (Itr 0 j.toNat) H1
def tV (ta:TA):TI:=fun σ H R=>ta σ H fun vs H1=>∃ i j:Int,vs=[.int i,.int j]∧(-(2 ^ 62)≤i∧i < 2 ^ 62∧-(2 ^ 62)≤j∧j < 2 ^ 62)∧R (Itr i (j - i).toNat) H1
theorem cO {a:Expr} {ta:TA} {p pos:Pos} (hg:Gl X "range") (hm:X.mg "range" = none) (ha:PA X [a] ta) (hs:starEach [a] X.env=[(false,eval a X.env)]:=by rfl):PI X tg (.Call (.Name "range" p) [a] [] pos) (tW ta):=by
  intro pins s σ H R I h;refine Call_ (fW I hg hm boot_range (abM (thn (ha pos pins s σ H _ I h) fun us s1 ⟨vs,H1,I1,r1,q1⟩=>?_) hs rfl));obtain ⟨j,e,q1,q2,q⟩:=q1;subst e;cases r1 with
  | cons r rr =>
    cases rr;obtain ⟨t,rfl⟩:=r;exact call_range_1 (j0 I1 (by lia) (by lia) q1 q2 (by simpa using q))
theorem fR {a b:Expr} {ta:TA} {p pos:Pos} (hg:Gl X "range") (hm:X.mg "range" = none) (ha:PA X [a,b] ta) (hs:starEach [a,b] X.env=[(false,eval a X.env),(false,eval b X.env)]:=by rfl) (hs2:starEach [b] X.env=[(false,eval b X.env)]:=by rfl) :
    PI X tg (.Call (.Name "range" p) [a,b] [] pos) (tV ta):=by
  intro pins s σ H R I h;refine Call_ (fW I hg hm boot_range (abM (thn (ha pos pins s σ H _ I h) fun us s1 ⟨vs,H1,I1,r1,q1⟩=>?_) (by rw [hs,hs2]) (by rw [hs2];rfl)));obtain ⟨i,j,e,⟨q1,q2,q3,q4⟩,q⟩:=q1;subst e;cases r1 with
  | cons r rr =>
    cases rr with
    | cons r' rr =>
      cases rr;obtain ⟨t,rfl⟩:=r;obtain ⟨t',rfl⟩:=r';exact call_range_2 (j0 I1 q1 q2 q3 q4 q)
def ut (wi:TI) (g:TG) (tb:TS):TS:=fun D σ H=>wi σ H fun J H1=>∃ W:Nat→Nat→St→Hp→Prop,(∃ m,W 0 m σ H1)∧∀ i m σ H,W i m σ H →
  (J.stop i H∧D.nx σ H)∨(J.go i H∧∃ N:St→Hp→Prop,(∀ σ' H',N σ' H'→∃ m',m' < m∧W (i+1) m' σ' H')∧∀ x H',J.yld i H x H'→g x σ H' fun σ2 H2=>tb { D with nx:=N,ct:=N,bk:=D.nx } σ2 H2)
def aZ (fp:List Addr) (h:Heap):List (Addr × Obj):=fp.filterMap fun b=>(h.get? b).map fun o=>(b,o)
theorem a8 {fp:List Addr} {h:Heap} {b:Addr} {o:Obj} (hb:b∈fp) (e:h.get? b=some o):(b,o)∈aZ fp h:=List.mem_filterMap.mpr ⟨b,hb,by rw [e];rfl⟩
theorem cR {fp:List Addr} {h:Heap} {p:Addr × Obj} (hp:p∈aZ fp h):p.1∈fp∧h.get? p.1=some p.2:=by
  obtain ⟨b,hb,e⟩:=List.mem_filterMap.mp hp;cases q:h.get? b with
  | none=>rw [q] at e;cases e
  | some o =>
    rw [q] at e;have e':(b,o)=p:=aaM e;subst e';exact ⟨hb,q⟩
theorem Inv.pinned {pins:List (Addr × Obj)} {σ:St} {H:Hp} {s:Shared} {fp:List Addr} (I:Inv X pins σ H s) (hf:∀ b∈fp,fI X pins H b) (ho:∀ b∈fp,∃ o,s.heap.get? b=some o∧∀ v,o.data≠.cell v):Inv X (pins++aZ fp s.heap) σ H s :=
  I.pins_of fun p hp=>(aap.mp hp).elim (fun z=>I.pin p (aaa _ z)) fun z=>by
    obtain ⟨hb,e⟩:=cR z;obtain ⟨f0,f1,f2,_⟩:=hf p.1 hb;obtain ⟨o,e',d⟩:=ho p.1 hb;rw [e] at e';cases e';exact ⟨e,f0,f1,f2,d⟩
theorem Inv.unpinned {pins pl:List (Addr × Obj)} {σ:St} {H:Hp} {s:Shared} (I:Inv X (pins++pl) σ H s):Inv X pins σ H s:=I.pins_of fun p hp=>I.pin p (aaa _ (aaz _ hp))
theorem dA {iter:Expr} {body:List Stmt} {wi:TI} {g:TG} {tb:TS} {pos:Pos} (hp:PassesOwn (model X.prog X.w) X.A X.env X.xe) (hc:X.calm=true) (hi:PI X tg iter wi) (hg:PG X tg g) (hb:PSs X body tb)
    (hs:∀ x,foldedSetIterable iter X.env x=pure x:=by intro _;rfl):PS X (.For tg iter body [] pos) (ut wi g tb):=by
  intro pins s σ H D I h;refine wpAny_For (thn (hi pins s σ H _ I h) fun v s1 h1=>thn h1 fun itv s2 h2=>?_) hs;obtain ⟨it,fp,tn,J,H2,e,I2,T,st2,f2,W,⟨m0,w0⟩,turn⟩:=h2;subst e;have stat:∀ {H':Hp},(∀ b∈fp,H' b=none)→∀ b∈fp,fI X pins H' b:=fun hn b hb=>⟨hn b hb,(f2 b hb).2⟩
  refine codeAny_forLoop_any (fun n s'=>∃ i σ' H',Inv X pins σ' H' s'∧tn i s'.heap∧(∀ b∈fp,H' b=none)∧W i n σ' H') ?_ m0 ⟨0,σ,H2,I2,st2,fun b hb=>(f2 b hb).1,w0⟩;rintro n s3 ⟨i,σ3,H3,I3,st3,fr3,w3⟩;rcases turn i n σ3 H3 w3 with ⟨stop,qn⟩|⟨go,N,hN,step⟩
  · refine wpAny_passesOwn hp (thn (T.done X rfl rfl rfl hc i pins s3 σ3 H3 X.xe I3 (stat fr3) st3 stop) fun r s4 ⟨hr,I4⟩=>?_);subst hr;exact wpAny_execs_nil ⟨σ3,H3,I4,qn⟩
  · refine wpAny_passesOwn hp (thn (T.item X rfl rfl rfl hc i pins s3 σ3 H3 X.xe I3 (stat fr3) st3 go) fun r s4 ⟨u,hr,h4⟩=>?_);subst hr;refine wpAny_passesOwn hp (thn h4 fun _ s5 ⟨x,H5,I5,r5,y5,st5,fr5⟩=>?_);have I5':=I5.pinned (stat fr5) (T.obj _ _ st5);refine wpAny_passesOwn hp (thn (hg _ s5 σ3 H5 x u _ I5' r5 (step x H5 y5)) fun _ s6 ⟨σ6,H6,I6,q6⟩=>?_);refine wpAny_passesOwn hp (thn (hb _ s6 σ6 H6 _ I6 q6) fun f s7 q7=>?_);have again:∀ {σ7:St} {H7:Hp},Inv X (pins++aZ fp s5.heap) σ7 H7 s7→N σ7 H7→∃ m,m < n∧∃ i σ' H',Inv X pins σ' H' s7∧tn i s7.heap∧(∀ b∈fp,H' b=none)∧W i m σ' H':=fun {σ7 H7} I7 n7=>by
      obtain ⟨m',hm,w7⟩:=hN σ7 H7 n7;refine ⟨m',hm,i+1,σ7,H7,I7.unpinned,T.keep _ _ _ st5 fun b hb o e=>(I7.pin (b,o) (aaa _ (aaa _ (a8 hb e)))).1,fun b hb=>?_,w7⟩;obtain ⟨o,e,d⟩:=T.obj _ _ st5 b hb;exact (I7.pin (b,o) (aaa _ (aaa _ (a8 hb e)))).2.1
    cases f with
    | next=>obtain ⟨σ7,H7,I7,n7⟩:=q7;exact again I7 n7
    | cont=>obtain ⟨σ7,H7,I7,n7⟩:=q7;exact again I7 n7
    | brk=>obtain ⟨σ7,H7,I7,q7⟩:=q7;exact ⟨σ7,H7,I7.unpinned,q7⟩
    | ret v=>obtain ⟨x7,σ7,H7,I7,r7,q7⟩:=q7;exact ⟨x7,σ7,H7,I7.unpinned,r7,q7⟩
end
theorem kQ {K:aab} {a:Addr} {xs:List V} {g:TG} {tb:TS} {D:Ends} {σ:St} {H:Hp} (Pv:Nat→St→Hp→Prop) (h0:Pv 0 σ H) (hl:∀ i σ H,i≤xs.length→Pv i σ H→SqL K H a xs)
    (hs:∀ i x σ H,xs[i]?=some x→Pv i σ H→g x σ H fun σ2 H2=>tb { D with nx:=Pv (i+1),ct:=Pv (i+1),bk:=D.nx } σ2 H2) (hd:∀ σ H,Pv xs.length σ H→D.nx σ H) :
    ∃ W:Nat→Nat→St→Hp→Prop,(∃ m,W 0 m σ H)∧∀ i m σ H,W i m σ H →
      ((Itl K a).stop i H∧D.nx σ H)∨((Itl K a).go i H∧∃ N:St→Hp→Prop,(∀ σ' H',N σ' H'→∃ m',m' < m∧W (i+1) m' σ' H')∧∀ x H',(Itl K a).yld i H x H'→g x σ H' fun σ2 H2=>tb { D with nx:=N,ct:=N,bk:=D.nx } σ2 H2):=by
  refine ⟨fun i m σ H=>m=xs.length - i∧i≤xs.length∧Pv i σ H,⟨xs.length,by simp,aaQ _,h0⟩,?_⟩;rintro i m σ H ⟨rfl,hi,p⟩;have q:=hl i σ H hi p;by_cases hlt:i < xs.length
  · refine .inr ⟨⟨xs,xs[i],q,by simp [hlt]⟩,Pv (i+1),fun σ' H' p'=>⟨xs.length - (i+1),by lia,rfl,hlt,p'⟩,fun x H' y=>?_⟩;obtain ⟨e,y⟩:=y;subst e;exact hs i x σ _ (y xs q) p
  · have e:i=xs.length:=by lia
    subst e;exact .inl ⟨⟨xs,q,aah _⟩,hd σ H p⟩
theorem iV {lo:Int} {n:Nat} {g:TG} {tb:TS} {D:Ends} {σ:St} {H:Hp} (Pv:Nat→St→Hp→Prop) (h0:Pv 0 σ H)
    (hs:∀ i σ H,i < n→Pv i σ H→g (.int (lo+i)) σ H fun σ2 H2=>tb { D with nx:=Pv (i+1),ct:=Pv (i+1),bk:=D.nx } σ2 H2) (hd:∀ σ H,Pv n σ H→D.nx σ H) :
    ∃ W:Nat→Nat→St→Hp→Prop,(∃ m,W 0 m σ H)∧∀ i m σ H,W i m σ H →
      ((Itr lo n).stop i H∧D.nx σ H)∨((Itr lo n).go i H∧∃ N:St→Hp→Prop,(∀ σ' H',N σ' H'→∃ m',m' < m∧W (i+1) m' σ' H')∧∀ x H',(Itr lo n).yld i H x H'→g x σ H' fun σ2 H2=>tb { D with nx:=N,ct:=N,bk:=D.nx } σ2 H2):=by
  refine ⟨fun i m σ H=>m=n - i∧i≤n∧Pv i σ H,⟨n,by simp,aaQ _,h0⟩,?_⟩;rintro i m σ H ⟨rfl,hi,p⟩;by_cases hlt:i < n
  · refine .inr ⟨hlt,Pv (i+1),fun σ' H' p'=>⟨n - (i+1),by lia,rfl,hlt,p'⟩,fun x H' y=>?_⟩;obtain ⟨e,y⟩:=y;subst e y;exact hs i σ _ hlt p
  · have e:i=n:=by lia
    subst e;exact .inl ⟨aah _,hd σ H p⟩
open PySem PySem.Spec PyProof.Rows
abbrev R2:=V→V→Hp→VK→Prop
def OpR (X:Cx) (f:Value→Value→Sem Value) (r:R2):Prop :=
  ∀ (pins:List (Addr × Obj)) (s:Shared) (σ:St) (H:Hp) (x y:V) (v u:Value) (Q:VK),Inv X pins σ H s→RelV x v→RelV y u→r x y H Q →
    wpAny (model X.prog X.w) X.A (f v u) (EP X pins σ Q) X.xe s
def UnR (X:Cx) (f:Value→Sem Value) (r:V→Hp→VK→Prop):Prop :=
  ∀ (pins:List (Addr × Obj)) (s:Shared) (σ:St) (H:Hp) (x:V) (v:Value) (Q:VK),Inv X pins σ H s→RelV x v→r x H Q →
    wpAny (model X.prog X.w) X.A (f v) (EP X pins σ Q) X.xe s
def df (X:Cx) (f:Value) (r:List V→Hp→VK→Prop):Prop :=
  ∀ (pins:List (Addr × Obj)) (s:Shared) (σ:St) (H:Hp) (xs:List V) (us:List Value) (Q:VK),Inv X pins σ H s→Vals xs us→r xs H Q →
    wpAny (model X.prog X.w) X.A (call f us) (EP X pins σ Q) X.xe s
def uQ (X:Cx) (r:V→Hp→(Bool→Hp→Prop)→Prop):Prop :=
  ∀ (pins:List (Addr × Obj)) (s:Shared) (σ:St) (H:Hp) (x:V) (v:Value) (Q:Bool→Hp→Prop),Inv X pins σ H s→RelV x v→r x H Q →
    wpAny (model X.prog X.w) X.A (truthy v) (TP X pins σ Q) X.xe s
def tOp (r:R2) (ta tb:TE):TE:=fun σ H Q=>ta σ H fun x H1=>tb σ H1 fun y H2=>r x y H2 Q
def tUn (r:V→Hp→VK→Prop) (ta:TE):TE:=fun σ H Q=>ta σ H fun x H1=>r x H1 Q
def rI (C:Int→Int→Prop) (g:Int→Int→V):R2:=fun x y H Q=>∃ i j,x=.int i∧y=.int j∧C i j∧Q (g i j) H
def rI0 (g:Int→Int→V):R2:=fun x y H Q=>∃ i j,x=.int i∧y=.int j∧Q (g i j) H
def rU (g:Int→V):V→Hp→VK→Prop:=fun x H Q=>∃ i,x=.int i∧Q (g i) H
section
variable {X:Cx} {a b c:Expr} {ta tb tc:TE} {pos:Pos}
theorem sR (ha:PE X a ta) (hb:PE X b tb) {pins:List (Addr × Obj)} {s:Shared} {σ:St} {H:Hp} {R:V→V→Hp→Prop} (I:Inv X pins σ H s)
    (h:ta σ H fun x H1=>tb σ H1 fun y H2=>R x y H2) {Q:Value→Shared→Prop} {f:Value→Value→Sem Value}
    (hf:∀ v u s2 x y H2,Inv X pins σ H2 s2→RelV x v→RelV y u→R x y H2→wpAny (model X.prog X.w) X.A (f v u) Q X.xe s2) :
    wpAny (model X.prog X.w) X.A (eval a X.env) (fun v s₁=>wpAny (model X.prog X.w) X.A (eval b X.env) (fun u s₂=>wpAny (model X.prog X.w) X.A (f v u) Q X.xe s₂) X.xe s₁) X.xe s:=by
  refine thn (ha pins s σ H _ I h) fun v s1 ⟨x,H1,I1,r1,q1⟩=>?_;refine thn (hb pins s1 σ H1 _ I1 q1) fun u s2 ⟨y,H2,I2,r2,q2⟩=>?_;exact hf v u s2 x y H2 I2 r1 r2 q2
theorem aq {op:Operator} {r:R2} (ho:OpR X (binaryOp op) r) (ha:PE X a ta) (hb:PE X b tb):PE X (.BinOp a op b pos) (tOp r ta tb):=by
  intro pins s σ H Q I h;exact wpAny_BinOp (sR ha hb I h fun v u s2 x y H2 I2 rx ry q=>ho pins s2 σ H2 x y v u Q I2 rx ry q)
theorem oQ {op:UnaryOp} {r:V→Hp→VK→Prop} (ho:UnR X (unaryOp op) r) (ha:PE X a ta):PE X (.UnaryOp op a pos) (tUn r ta):=by
  intro pins s σ H Q I h;exact UnaryOp_ (thn (ha pins s σ H _ I h) fun v s1 ⟨x,H1,I1,r1,q1⟩=>ho pins s1 σ H1 x v Q I1 r1 q1)
theorem opI {f:Value→Value→Sem Value} {C:Int→Int→Prop} {g:Int→Int→Int}
    (rule:∀ (i j:Int) (t u:Tok) (s:Shared) (Q:Value→Shared→Prop) (E:Value→Shared→Prop),C i j→Q (.int (g i j) s.toks) { s with toks:=s.toks+1 }→wpAny (model X.prog X.w) X.A (f (.int i t) (.int j u)) Q E s) :
    OpR X f (rI C fun i j=>.int (g i j)):=by
  intro pins s σ H x y v u Q I rx ry h;obtain ⟨i,j,rfl,rfl,hc,q⟩:=h;obtain ⟨t,rfl⟩:=rx;obtain ⟨t',rfl⟩:=ry;exact rule i j t t' s _ _ hc ⟨.int (g i j),H,I.tok _,⟨_,rfl⟩,q⟩
theorem tM {f:Value→Value→Sem Value} {g:Int→Int→Int}
    (rule:∀ (i j:Int) (t u:Tok) (s:Shared) (Q:Value→Shared→Prop) (E:Value→Shared→Prop),Q (.int (g i j) s.toks) { s with toks:=s.toks+1 }→wpAny (model X.prog X.w) X.A (f (.int i t) (.int j u)) Q E s) :
    OpR X f (rI0 fun i j=>.int (g i j)):=by
  intro pins s σ H x y v u Q I rx ry h;obtain ⟨i,j,rfl,rfl,q⟩:=h;obtain ⟨t,rfl⟩:=rx;obtain ⟨t',rfl⟩:=ry;exact rule i j t t' s _ _ ⟨.int (g i j),H,I.tok _,⟨_,rfl⟩,q⟩
theorem sq {f:Value→Value→Sem Value} {g:Int→Int→Bool}
    (rule:∀ (i j:Int) (t u:Tok) (s:Shared) (Q:Value→Shared→Prop) (E:Value→Shared→Prop),Q (.bool (g i j)) s→wpAny (model X.prog X.w) X.A (f (.int i t) (.int j u)) Q E s) :
    OpR X f (rI0 fun i j=>.bl (g i j)):=by
  intro pins s σ H x y v u Q I rx ry h;obtain ⟨i,j,rfl,rfl,q⟩:=h;obtain ⟨t,rfl⟩:=rx;obtain ⟨t',rfl⟩:=ry;exact rule i j t t' s _ _ ⟨.bl (g i j),H,I,rfl,q⟩
def uT (i j:Int):Prop:=0 < j∧j < 1073741824
def uS (i j:Int):Prop:=0≤j∧j≤1000000∧i.natAbs < 2 ^ 64
def CMul (i j:Int):Prop:=(-(2 ^ 64) < i∧i < 2 ^ 64)∨(-(2 ^ 64) < j∧j < 2 ^ 64)
theorem CMul.ok {i j:Int} (h:CMul i j):IntMulOk i j:=by
  rcases h with ⟨h1,h2⟩|⟨h1,h2⟩
  · exact .of_left (intBits_le_64 h1 h2)
  · exact .of_right (intBits_le_64 h1 h2)
theorem cq:OpR X (binaryOp .Add) (rI0 fun i j=>.int (i+j)):=tM fun _ _ _ _ _ _ _ q=>add_int q
theorem cc:OpR X (binaryOp .Sub) (rI0 fun i j=>.int (i - j)):=tM fun _ _ _ _ _ _ _ q=>sub_int q
theorem dZ:OpR X (binaryOp .Mult) (rI CMul fun i j=>.int (i * j)):=opI fun _ _ _ _ _ _ _ hc q=>mul_int q hc.ok
theorem d9:OpR X (binaryOp .Mod) (rI (fun _ j=>0 < j) fun i j=>.int (i % j)):=opI fun i j _ _ _ _ _ hc q=>by
  have h1:(0:Int) < j:=hc;exact mod_int' (by lia) (by rw [Int.fmod_eq_emod_of_nonneg i (by lia)];exact q)
theorem dB:OpR X (binaryOp .Pow) (rI uS fun i j=>.int (i ^ j.toNat)):=opI fun _ _ _ _ _ _ _ hc q=>pow_int_small hc.1 hc.2.1 hc.2.2 q
theorem unI {f:Value→Sem Value} {g:Int→Int}
    (rule:∀ (i:Int) (t:Tok) (s:Shared) (Q:Value→Shared→Prop) (E:Value→Shared→Prop),Q (.int (g i) s.toks) { s with toks:=s.toks+1 }→wpAny (model X.prog X.w) X.A (f (.int i t)) Q E s) :
    UnR X f (rU fun i=>.int (g i)):=by
  intro pins s σ H x v Q I rx h;obtain ⟨i,rfl,q⟩:=h;obtain ⟨t,rfl⟩:=rx;exact rule i t s _ _ ⟨.int (g i),H,I.tok _,⟨_,rfl⟩,q⟩
theorem la:UnR X (unaryOp .USub) (rU fun i=>.int (-i)):=unI fun _ _ _ _ _ q=>neg_int q
end
def tE:V→V→Bool
  | .non,.non=>true|.non,.int _=>true|.int _,.non=>true|.non,.bl _=>true|.bl _,.non=>true|.non,.str _=>true|.str _,.non=>true
  | .int _,.int _=>true|.bl _,.bl _=>true|.str _,.str _=>true|.byt _,.byt _=>true
  | .int _,.str _=>true|.str _,.int _=>true|.bl _,.str _=>true|.str _,.bl _=>true
  | _,_=>false
def rEq:R2:=fun x y H Q=>tE x y=true∧Q (.bl (decide (x=y))) H
def rNe:R2:=fun x y H Q=>tE x y=true∧Q (.bl (!decide (x=y))) H
theorem mU {i j:Int}:decide (V.int i=V.int j)=(i == j):=by
  rw [abJ];simp
theorem pX {i j:Bool}:decide (V.bl i=V.bl j)=(i == j):=by
  rw [abJ];simp
theorem mS {i j:Str}:decide (V.str i=V.str j)=(i == j):=by
  rw [abJ];simp
theorem mV {i j:Array UInt8}:decide (V.byt i=V.byt j)=(i.toList == j.toList):=by
  rw [abJ];cases i;cases j;simp
section
variable {X:Cx} {a b c:Expr} {ta tb tc:TE} {pos:Pos}
theorem aJ {pins:List (Addr × Obj)} {σ:St} {H:Hp} {s:Shared} {Q:VK} {k k':Bool} (I:Inv X pins σ H s) (q:Q (.bl k) H) (e:k=k'):EP X pins σ Q (.bool k') s:=by
  subst e;exact ⟨.bl k,H,I,rfl,q⟩
theorem fD:OpR X (compareOp .Eq) rEq:=by
  intro pins s σ H x y v u Q I rx ry h;obtain ⟨hs,q⟩:=h;cases x with
  | non =>
    cases rx;cases y with
    | non=>cases ry;exact PySem.EqNone.eq_none_none (aJ I q (by simp))
    | bl j=>cases ry;exact PySem.EqNone.eq_none_bool (aJ I q (by simp))
    | int j=>obtain ⟨t',rfl⟩:=ry;exact PySem.EqNone.eq_none_int (aJ I q (by simp))
    | str j=>obtain ⟨t',rfl⟩:=ry;exact PySem.EqNone.eq_none_str (aJ I q (by simp))
    | _=>exact absurd (show false=true from hs) aae
  | bl i =>
    cases rx;cases y with
    | non=>cases ry;exact PySem.EqNone.eq_bool_none (aJ I q (by simp))
    | bl j=>cases ry;exact eq_bool (aJ I q pX)
    | str j=>obtain ⟨t',rfl⟩:=ry;exact PySem.EqMixed.eq_bool_str (aJ I q (by simp))
    | _=>exact absurd (show false=true from hs) aae
  | int i =>
    obtain ⟨t,rfl⟩:=rx;cases y with
    | non=>cases ry;exact PySem.EqNone.eq_int_none (aJ I q (by simp))
    | int j=>obtain ⟨t',rfl⟩:=ry;exact eq_int (aJ I q mU)
    | str j=>obtain ⟨t',rfl⟩:=ry;exact PySem.EqMixed.eq_int_str (aJ I q (by simp))
    | _=>exact absurd (show false=true from hs) aae
  | str i =>
    obtain ⟨t,rfl⟩:=rx;cases y with
    | non=>cases ry;exact PySem.EqNone.eq_str_none (aJ I q (by simp))
    | bl j=>cases ry;exact PySem.EqMixed.eq_str_bool (aJ I q (by simp))
    | int j=>obtain ⟨t',rfl⟩:=ry;exact PySem.EqMixed.eq_str_int (aJ I q (by simp))
    | str j=>obtain ⟨t',rfl⟩:=ry;exact eq_str (aJ I q mS)
    | _=>exact absurd (show false=true from hs) aae
  | byt i =>
    obtain ⟨t,rfl⟩:=rx;cases y with
    | byt j=>obtain ⟨t',rfl⟩:=ry;exact PySem.W.eq_bytes (aJ I q mV)
    | _=>exact absurd (show false=true from hs) aae
  | _=>cases y <;> exact absurd (show false=true from hs) aae
theorem kc:OpR X (compareOp .NotEq) rNe:=by
  intro pins s σ H x y v u Q I rx ry h;obtain ⟨hs,q⟩:=h;cases x with
  | non =>
    cases rx;cases y with
    | non=>cases ry;exact PySem.EqNone.ne_none_none (aJ I q (by simp))
    | bl j=>cases ry;exact PySem.EqNone.ne_none_bool (aJ I q (by simp))
    | int j=>obtain ⟨t',rfl⟩:=ry;exact PySem.EqNone.ne_none_int (aJ I q (by simp))
    | str j=>obtain ⟨t',rfl⟩:=ry;exact PySem.EqNone.ne_none_str (aJ I q (by simp))
    | _=>exact absurd (show false=true from hs) aae
  | bl i =>
    cases rx;cases y with
    | non=>cases ry;exact PySem.EqNone.ne_bool_none (aJ I q (by simp))
    | bl j=>cases ry;exact ne_bool (aJ I q (congrArg not pX))
    | str j=>obtain ⟨t',rfl⟩:=ry;exact PySem.EqMixed.ne_bool_str (aJ I q (by simp))
    | _=>exact absurd (show false=true from hs) aae
  | int i =>
    obtain ⟨t,rfl⟩:=rx;cases y with
    | non=>cases ry;exact PySem.EqNone.ne_int_none (aJ I q (by simp))
    | int j=>obtain ⟨t',rfl⟩:=ry;exact ne_int (aJ I q (congrArg not mU))
    | str j=>obtain ⟨t',rfl⟩:=ry;exact PySem.EqMixed.ne_int_str (aJ I q (by simp))
    | _=>exact absurd (show false=true from hs) aae
  | str i =>
    obtain ⟨t,rfl⟩:=rx;cases y with
    | non=>cases ry;exact PySem.EqNone.ne_str_none (aJ I q (by simp))
    | bl j=>cases ry;exact PySem.EqMixed.ne_str_bool (aJ I q (by simp))
    | int j=>obtain ⟨t',rfl⟩:=ry;exact PySem.EqMixed.ne_str_int (aJ I q (by simp))
    | str j=>obtain ⟨t',rfl⟩:=ry;exact ne_str (aJ I q (congrArg not mS))
    | _=>exact absurd (show false=true from hs) aae
  | byt i =>
    obtain ⟨t,rfl⟩:=rx;cases y with
    | byt j=>obtain ⟨t',rfl⟩:=ry;exact PySem.W.ne_bytes (aJ I q (congrArg not mV))
    | _=>exact absurd (show false=true from hs) aae
  | _=>cases y <;> exact absurd (show false=true from hs) aae
theorem q_:OpR X (compareOp .LtE) (rI0 fun i j=>.bl (decide (i≤j))):=sq fun _ _ _ _ _ _ _ q=>le_int q
theorem tL:OpR X (compareOp .Gt) (rI0 fun i j=>.bl (decide (j < i))):=sq fun _ _ _ _ _ _ _ q=>gt_int q
theorem rd:OpR X (compareOp .GtE) (rI0 fun i j=>.bl (decide (j≤i))):=sq fun _ _ _ _ _ _ _ q=>ge_int q
theorem so:OpR X (compareOp .Is) (fun x y H Q=>y=.non∧Q (.bl (decide (x=.non))) H):=by
  intro pins s σ H x y v u Q I rx ry h;obtain ⟨rfl,q⟩:=h;cases ry;refine is_none_gen (aJ I q ?_);cases x <;> first
    | (cases rx;rfl)
    | (obtain ⟨t,rfl⟩:=rx;rfl)
theorem bt (b:Expr) {op:CmpOp} (h:op≠.In:=by decide) (h2:op≠.NotIn:=by decide):behindInMarks op b=false:=by
  have e1:(op == CmpOp.In)=false:=by cases op <;> first|rfl|exact absurd rfl h
  have e2:(op == CmpOp.NotIn)=false:=by cases op <;> first|rfl|exact absurd rfl h2
  cases b <;> simp [behindInMarks,e1,e2]
theorem mz {op:CmpOp} {r:R2} (ho:OpR X (compareOp op) r) (ha:PE X a ta) (hb:PE X b tb) (hm:behindInMarks op b=false):PE X (.Compare a [op] [b] pos) (tOp r ta tb):=by
  intro pins s σ H Q I h;exact wpAny_Compare1 (sR ha hb I h fun v u s2 x y H2 I2 rx ry q=>ho pins s2 σ H2 x y v u Q I2 rx ry q) hm
def qY (t:TE):TT:=fun σ H Q=>t σ H fun x H'=>∃ k,x=.bl k∧Q k H'
theorem aX {op:CmpOp} {r:R2} (ho:OpR X (compareOp op) r) (ha:PE X a ta) (hb:PE X b tb) (hm:behindInMarks op b=false):PT X (.Compare a [op] [b] pos) (qY (tOp r ta tb)):=by
  intro pins s σ H Q I h;refine wpAny_isTrue_Compare1 (thn (ha pins s σ H _ I h) fun v s1 ⟨x,H1,I1,r1,q1⟩=>thn (hb pins s1 σ H1 _ I1 q1) fun u s2 ⟨y,H2,I2,r2,q2⟩ =>
    thn (ho pins s2 σ H2 x y v u _ I2 r1 r2 q2) fun c s3 ⟨z,H3,I3,r3,k,e,q3⟩=>?_) hm
  subst e;cases r3;exact wpAny_truthy_bool ⟨H3,I3,q3⟩
def rO (r r':R2) (ta tb tc:TE):TE:=fun σ H Q=>ta σ H fun x H1=>tb σ H1 fun y H2=>r x y H2 fun z H3=>∃ k,z=.bl k ∧
  (if k=true then tc σ H3 fun w' H4=>r' y w' H4 Q else Q (.bl false) H3)
theorem oH {op op':CmpOp} {r r':R2} (ho:OpR X (compareOp op) r) (ho':OpR X (compareOp op') r') (ha:PE X a ta) (hb:PE X b tb) (hc:PE X c tc)
    (hm:lastMarks [op,op'] [b,c]=false:=by with_unfolding_all rfl):PT X (.Compare a [op,op'] [b,c] pos) (qY (rO r r' ta tb tc)):=by
  intro pins s σ H Q I h;refine isTrue_chain (thn (ha pins s σ H _ I h) fun v s1 ⟨x,H1,I1,r1,q1⟩=>test_link (thn (hb pins s1 σ H1 _ I1 q1) fun u s2 ⟨y,H2,I2,r2,q2⟩ =>
    thn (ho pins s2 σ H2 x y v u _ I2 r1 r2 q2) fun d s3 ⟨z,H3,I3,r3,k,e,q3⟩=>?_)) hm
  subst e;cases r3;refine wpAny_truthy_bool ?_;cases k with
  | false =>
    obtain ⟨k',e',q'⟩:=q3;cases e';exact ite_ff ⟨H3,I3,q'⟩
  | true =>
    refine ite_tt (test_last (thn (hc pins s3 σ H3 _ I3 q3) fun w' s4 ⟨z',H4,I4,r4,q4⟩=>thn (ho' pins s4 σ H4 y z' u w' _ I4 r2 r4 q4) fun d' s5 ⟨z2,H5,I5,r5,k2,e2,q5⟩=>?_));subst e2;cases r5;exact wpAny_truthy_bool ⟨H5,I5,q5⟩
def t8 (K:aab) (x:V) (H:Hp) (k:Bool):Prop :=
  match x with
  | .non=>k=false
  | .bl b=>k=b
  | .int i=>k=(i != 0)
  | .str y=>y.length≤sizeLine∧k=((y.length:Int) != 0)
  | .byt y=>y.size≤sizeLine∧k=((y.size:Int) != 0)
  | .ref p=>(∃ xs,SqL K H p xs∧k=!xs.isEmpty)∨(∃ xs,SqT K H p xs∧k=!xs.isEmpty)∨∃ kvs,H p=some (.dK kvs)∧k=!kvs.isEmpty
  | _=>False
theorem l4 {κ:Type} {kvs:List (κ × V)} {vs:List (κ × Value)} (r:KV kvs vs):(!vs.isEmpty)=!kvs.isEmpty:=by
  cases r <;> rfl
theorem gY {xs:List V} {its:List Value} (r:Vals xs its):(!its.toArray.isEmpty)=!xs.isEmpty:=by
  cases r <;> simp
theorem fj:(sizeLine:Nat) < 2 ^ 63:=by rw [sizeLine_eq];decide
theorem rH:uQ X (fun x H Q=>∃ k,t8 X.K x H k∧Q k H):=by
  intro pins s σ H x v Q I rx h;obtain ⟨k,e,q⟩:=h;have hl:=fj;have hs:sizeLine=16777216:=sizeLine_eq;cases x with
  | non =>
    cases rx;have e':k=false:=e;subst e';exact truthy_none ⟨H,I,q⟩
  | bl b =>
    cases rx;have e':k=b:=e;subst e';exact wpAny_truthy_bool ⟨H,I,q⟩
  | int i =>
    obtain ⟨t,rfl⟩:=rx;have e':k=(i != 0):=e;subst e';exact PySem.P.truthy_int ⟨H,I,q⟩
  | str y =>
    obtain ⟨t,rfl⟩:=rx;obtain ⟨hy,e'⟩:y.length≤sizeLine∧k=((y.length:Int) != 0):=e;subst e';exact PySem.P.truthy_str (by lia) ⟨H,I.tok _,q⟩
  | byt y =>
    obtain ⟨t,rfl⟩:=rx;obtain ⟨hy,e'⟩:y.size≤sizeLine∧k=((y.size:Int) != 0):=e;subst e';exact PySem.W.truthy_bytes (by lia) ⟨H,I.tok _,q⟩
  | ref p =>
    cases rx;have e':(∃ xs,SqL X.K H p xs∧k=!xs.isEmpty)∨(∃ xs,SqT X.K H p xs∧k=!xs.isEmpty)∨∃ kvs,H p=some (.dK kvs)∧k=!kvs.isEmpty:=e;rcases e' with ⟨xs,hx,e'⟩|⟨xs,hx,e'⟩|⟨kvs,hx,e'⟩
    · subst e';obtain ⟨its,r,pl,hz⟩:=I.list hx;have hlen:=r.length;exact wpAny_truthy_list pl.isList (by simp only [aag];lia) ⟨H,I.tok _,by rw [gY r];exact q⟩
    · subst e';obtain ⟨its,r,pl,hz⟩:=I.tuple hx;have hlen:=r.length;exact truthy_tuple pl (by simp only [aag];lia) ⟨H,I.tok _,by rw [gY r];exact q⟩
    · subst e';obtain ⟨hz,hS,vs,r,m⟩:kvs.length≤sizeLine∧(p == sysModules)=false∧∃ vs,KV kvs vs∧s.heap.DictOf (aK X.prog X.w) p vs:=I.hok p _ hx;have hlen:kvs.length=vs.length:=abk r;exact wpAny_truthy_dict hS m (by lia) ⟨H,I.tok _,by rw [l4 r];exact q⟩
  | _=>exact (show False from e).elim
theorem j6 (ha:PE X a ta) (he:∀ whole,isTrue a X.env whole=(do let v ← whole;standAt a.pos;holding [v] (truthy v))) :
    PT X a (fun σ H Q=>ta σ H fun x H'=>∃ k,t8 X.K x H' k∧Q k H'):=by
  intro pins s σ H Q I h;exact isTrue_plain (thn (ha pins s σ H _ I h) fun v s1 ⟨x,H1,I1,r1,q1⟩=>rH pins s1 σ H1 x v Q I1 r1 q1) (he _)
theorem eK {x:V} {us:List Value} (r:Vals [x] us):∃ u,us=[u]∧RelV x u:=by
  cases r with
  | cons r1 r2=>cases r2;exact ⟨_,rfl,r1⟩
theorem mn {x y:V} {us:List Value} (r:Vals [x,y] us):∃ u w',us=[u,w']∧RelV x u∧RelV y w':=by
  cases r with
  | cons r1 r2 =>
    cases r2 with
    | cons r3 r4=>cases r4;exact ⟨_,_,rfl,r1,r3⟩
theorem oj:df X (.type "int") (fun xs H Q=>(∃ i,xs=[.int i]∧Q (.int i) H)∨∃ k,xs=[.bl k]∧Q (.int (if k then 1 else 0)) H):=by
  intro pins s σ H xs us Q I r h;rcases h with ⟨i,rfl,q⟩|⟨k,rfl,q⟩
  · obtain ⟨u,rfl,t,rfl⟩:=eK r;exact call_int_int ⟨.int i,H,I,⟨_,rfl⟩,q⟩
  · obtain ⟨u,rfl,r1⟩:=eK r;cases r1;exact call_int_bool ⟨.int (if k then 1 else 0),H,I.tok _,⟨_,rfl⟩,q⟩
theorem gh:df X (.builtin "divmod") (fun xs H Q=>∃ i j,xs=[.int i,.int j]∧uT i j∧∀ p,H p=none→Q (.ref p) (upd H p (.tup [.int (i / j),.int (i % j)]))):=by
  intro pins s σ H xs us Q I r h;obtain ⟨i,j,rfl,⟨h1,h2⟩,q⟩:=h;obtain ⟨u,w',rfl,⟨t,rfl⟩,⟨t',rfl⟩⟩:=mn r;refine divmod_int (by lia) ?_ (.inl (PyProof.noPylong_small (by lia)));rw [Int.fdiv_eq_ediv_of_nonneg i (by lia),Int.fmod_eq_emod_of_nonneg i (by lia)];have hn:H s.heap.objs.size=none:=I.hok.fresh (aah _);refine ⟨.ref s.heap.objs.size,_,?_,rfl,q _ hn⟩;refine I.laid (fun b o e=>aac _ e) (aah _) ⟨by simp only [aaB,aaV];rw [sizeLine_eq];decide,[.int (i / j) s.toks,.int (i % j) (s.toks+1)],.cons ⟨_,rfl⟩ (.cons ⟨_,rfl⟩ .nil),?_⟩;exact ⟨_,aar s.heap rfl,rfl,0,rfl⟩
end
open PySem PySem.Spec PyProof.Rows
structure ObjM (h:Heap) (x dx C:Addr) (mA:Str→Option Value):Prop where
  obj:h.get? x=some (PySem.W.instObj C dx)
  ns:h.Ns1 dx mA
  ne:dx≠x
theorem nN {h:Heap} {dx:Addr} {mA:Str→Option Value} (n:h.Ns1 dx mA):∃ od,h.get? dx=some od∧∀ name,PySem.W.lookIn name od=some (mA name):=by
  obtain ⟨o,es,ep,ho,hd,hk,_,hm⟩:=n;refine ⟨o,ho,fun name=>?_⟩;have e:=hm name;unfold nsFind findBy at e;rw [← Array.find?_toList] at e;unfold PySem.W.lookIn;rw [hd];dsimp only;split
  · rename_i y q;rw [q] at e;exact congrArg some e
  · rename_i q;rw [q] at e;have a:es.toList.any (·.refKey)=false:=by
      rw [List.any_eq_false];intro y hy;obtain ⟨z,t,hkey⟩:=hk y (Array.mem_toList_iff.mp hy);simp [DictEntry.refKey,hkey]
    have a':¬ es.toList.any (·.refKey)=true:=by rw [a];exact aae
    rw [if_neg a'];exact congrArg some e
theorem ObjM.look {h:Heap} {x dx C:Addr} {mA:Str→Option Value} (I:ObjM h x dx C mA):∃ od,PySem.W.InstAt h x (PySem.W.instObj C dx) C (some od)∧∀ name,PySem.W.lookIn name od=some (mA name) :=
  let ⟨od,ho,hl⟩:=nN I.ns
  ⟨od,⟨I.obj,rfl,rfl,ho⟩,hl⟩
section
variable {prog:Program} {w:World} {A:Around} {E:Value→Shared→Prop} {s:Shared} {K:aab} {x dx C f:Addr} {mA:Str→Option Value} {name:Str} {v:Value}
end
theorem RelO.some_of {v:V} {o:Option Value} (r:RelO (some v) o):∃ u,o=some u∧RelV v u:=by
  cases o with
  | none=>exact (show False from r).elim
  | some u=>exact ⟨u,rfl,r⟩
section
variable {P:Program} {w:World} {H H':Hp} {h h':Heap} {a C dx:Addr} {fs fs':List (Str × V)}
theorem qP (hok:HOk P w H h) (e:H a=some (.ins C dx fs)):∃ mA,ObjM h a dx C mA∧(∀ f,RelO (fs.lookup f) (mA f))∧PySem.Within mA (fs.map (·.1))∧fs.length≤1000∧H dx=some (.own a):=by
  obtain ⟨d,z,ne,ob,mA,n,r,q⟩:=(show ObjOk P w H h a (.ins C dx fs) from hok a _ e)
  exact ⟨mA,⟨ob,n,ne⟩,r,q,z,d⟩
end
structure Cls (K:aab) (C:Addr):Prop where
  pg:PySem.W.plainGet K C Str.empty=true
  hd:PySem.W.hasDictIn K C=true
  po:PySem.W.plainOver K C=true
  sa:aaZ K (.ref C) "__setattr__" = some (some (.builtin "object.__setattr__"))
theorem Cls.get {K:aab} {C:Addr} (c:Cls K C) (f:Str):PySem.W.plainGet K C f=true:=c.pg
structure Con (K:aab) (C:Addr) (f:Str) (v:V) (u:Value):Prop where
  at_:aaZ K (.ref C) f=some (some u)
  rel:RelV v u
  get:PySem.W.specialIn K u "__get__" = some none
  cp:PySem.W.copiedNames.contains f=false
structure Meth (K:aab) (C:Addr) (m:Str) (f:Addr):Prop where
  at_:aaZ K (.ref C) m=some (some (.ref f))
  fn:PySem.W.isFn K (.ref f)=true
  kp:aaO K (.ref f)=true
section
variable {X:Cx} {pins:List (Addr × Obj)} {σ:St} {H:Hp} {s:Shared} {a C dx:Addr} {fs:List (Str × V)} {f:Str} {v:V} {A:Around} {E:Value→Shared→Prop}
end
section
variable {X:Cx} {o e value:Expr} {f:Str} {pos pos' tpos:Pos} {ta tv:TE}
end
section
variable {X:Cx} {pins:List (Addr × Obj)} {σ:St} {H:Hp} {s:Shared} {A:Around} {E:Value→Shared→Prop} {Q:Value→Shared→Prop} {c:Value} {b:Bool}
inductive TyOf (K:aab) (H:Hp):V→Value→Prop where
  | non:TyOf K H .non (.type "NoneType")
  | bl (x:Bool):TyOf K H (.bl x) (.type "bool")
  | int (i:Int):TyOf K H (.int i) (.type "int")
  | str (x:Str):TyOf K H (.str x) (.type "str")
  | flt (x:UInt64):TyOf K H (.flt x) (.type "float")
  | lst {a:Addr} {xs:List V} (e:H a=some (.lst xs)):TyOf K H (.ref a) (.type "list")
  | frz {a:Addr} {o:Obj} {xs:List V} (e:H a=some (.frz o (.lst xs))):TyOf K H (.ref a) (.type "list")
  | tup {a:Addr} {xs:List V} (e:H a=some (.tup xs)):TyOf K H (.ref a) (.type "tuple")
  | dK {a:Addr} {kvs:List (Key × V)} (e:H a=some (.dK kvs)):TyOf K H (.ref a) (.type "dict")
  | dT {a:Addr} {kvs:List (List Key × V)} (e:H a=some (.dT kvs)):TyOf K H (.ref a) (.type "dict")
  | ins {a C dx:Addr} {fs:List (Str × V)} (e:H a=some (.ins C dx fs)) (cl:Cls K C) (ha:aaZ K (.ref C) "__class__" = some (some (.builtin "object.__class__")))
      (hn:PySem.W.specialIn K (.builtin "object.__class__") "__get__" = some (some (.builtin "getset_descriptor.__get__"))) (htk:PySem.W.takesIn K (.builtin "object.__class__")=some true)
      (hm:PySem.W.mroIn K C (.type "object")=some true):TyOf K H (.ref a) (.ref C)
theorem nX {x:V} {u t:Value} (I:Inv X pins σ H s) (rx:RelV x u) (ty:TyOf X.K H x t) (e:aaC X.K t c=some b) (h:∀ tk,Q (.bool b) { s with toks:=tk }) :
    wpAny (model X.prog X.w) A (call (.builtin "isinstance") [u,c]) Q E s:=by
  cases ty with
  | non=>cases (show u=Value.none from rx);exact aaW PySem.W.kitx_none I.kIn True.intro e (fun z=>nomatch z) h
  | bl y=>cases (show u=Value.bool y from rx);exact aaW PySem.W.kitx_bool I.kIn True.intro e (fun z=>nomatch z) h
  | int i=>obtain ⟨t,q⟩:=(show ∃ t,u=Value.int i t from rx);cases q;exact aaW PySem.W.kitx_int I.kIn True.intro e (fun z=>nomatch z) h
  | str y=>obtain ⟨t,q⟩:=(show ∃ t,u=Value.str y t from rx);cases q;exact aaW PySem.W.kitx_str I.kIn True.intro e (fun z=>nomatch z) h
  | flt y=>obtain ⟨t,q⟩:=(show ∃ t,u=Value.float y t from rx);cases q;exact aaW PySem.W.kitx_float I.kIn True.intro e (fun z=>nomatch z) h
  | @lst a xs ea =>
    cases (show u=Value.ref a from rx);obtain ⟨_,_,n,_,h1⟩:=(show ObjOk X.prog X.w H s.heap a (.lst xs) from I.hok a _ ea)
    exact aaW PySem.W.kitx_list I.kIn ⟨_,h1,rfl⟩ e (fun z=>nomatch z) h
  | @frz a ob xs ea =>
    cases (show u=Value.ref a from rx);obtain ⟨_,_,_,n,_,h1⟩:=(show ObjOk X.prog X.w H s.heap a (.frz ob (.lst xs)) from I.hok a _ ea)
    exact aaW PySem.W.kitx_list I.kIn ⟨_,h1,rfl⟩ e (fun z=>nomatch z) h
  | @tup a xs ea =>
    cases (show u=Value.ref a from rx);obtain ⟨_,_,_,p⟩:=(show ObjOk X.prog X.w H s.heap a (.tup xs) from I.hok a _ ea)
    obtain ⟨o,h1,h2,_⟩:=p;exact aaW PySem.W.kitx_tuple I.kIn ⟨o,h1,h2⟩ e (fun z=>nomatch z) h
  | @dK a kvs ea =>
    cases (show u=Value.ref a from rx);obtain ⟨_,_,vs,_,p⟩:=(show ObjOk X.prog X.w H s.heap a (.dK kvs) from I.hok a _ ea)
    obtain ⟨o,es,ep,h1,h2,_⟩:=p;exact aaW PySem.W.kitx_dict I.kIn ⟨o,h1,h2.1⟩ e (fun z=>nomatch z) h
  | @dT a kvs ea =>
    cases (show u=Value.ref a from rx);obtain ⟨_,_,xs,_,o,es,ep,h1,h2,_⟩:=(show ObjOk X.prog X.w H s.heap a (.dT kvs) from I.hok a _ ea)
    exact aaW PySem.W.kitx_dict I.kIn ⟨o,h1,h2.1⟩ e (fun z=>nomatch z) h
  | @ins a C dx fs ea cl ha hn htk hm =>
    cases (show u=Value.ref a from rx);obtain ⟨mA,O,_⟩:=qP I.hok ea;obtain ⟨od,J,_⟩:=O.look;exact aaW (PySem.W.kitx_own (cl.get _) cl.hd ha hn htk hm) I.kIn J e (fun z=>nomatch z) h
end
open PySem PySem.Spec PyProof.Rows
structure Room (k:Nat) (A:Around):Prop where
  hd:A.handled=none
  dp:A.depth+3 * k+5 < recursionLimit
  un:A.units+16 * k+200 < cLine
  gd:A.guards=some []
theorem Room.mono {j k:Nat} {A:Around} (r:Room k A) (h:j≤k):Room j A:=⟨r.hd,by have:=r.dp;lia,by have:=r.un;lia,r.gd⟩
theorem Room.deeper {k:Nat} {A:Around} (r:Room (k+1) A) (env:Env):Room k (A.deeper env) :=
  ⟨r.hd,by have:=r.dp;show A.depth+1+3 * k+5 < _;lia,by have:=r.un;show A.units+3+16 * k+200 < _;lia,r.gd⟩
theorem Room.in1 {k:Nat} {A:Around} (r:Room (k+1) A):Room k A.in1 :=
  ⟨r.hd,by have:=r.dp;show A.depth+3 * k+5 < _;lia,by have:=r.un;show A.units+1+16 * k+200 < _;lia,r.gd⟩
theorem Room.depth {k:Nat} {A:Around} (r:Room k A):A.depth < recursionLimit:=by have:=r.dp;lia
theorem Room.units {k:Nat} {A:Around} (r:Room k A):A.units+64 < cLine:=by have:=r.un;lia
theorem Room.units0 {k:Nat} {A:Around} (r:Room k A):A.units < cLine:=by have:=r.un;lia
def rL:TA:=fun _ H Q=>Q [] H
def tu (ta:TE) (tr:TA):TA:=fun σ H Q=>ta σ H fun x H1=>tr σ H1 fun xs H2=>Q (x :: xs) H2
section
variable {X:Cx} {e:Expr} {es:List Expr} {te:TE} {t:TA} {pos:Pos}
theorem ad:PA X [] rL:=fun _ _ _ _ H Q I h=>Calls.spliced_nil ⟨[],H,I,.nil,h⟩
theorem aa (ha:PE X e te) (hr:PA X es t) (hs:starEach (e :: es) X.env=(false,eval e X.env) :: starEach es X.env:=by rfl):PA X (e :: es) (tu te t):=by
  intro pos pins s σ H Q I h;rw [hs];show wpAny _ _ (spliced ((false,eval e X.env) :: backTo pos (starEach es X.env))) _ _ s;refine Calls.spliced_cons (thn (ha pins s σ H _ I h) fun u s1 ⟨x,H1,I1,r1,q1⟩=>?_);exact thn (hr pos pins s1 σ H1 _ I1 q1) fun us s2 ⟨xs,H2,I2,r2,q2⟩=>⟨x :: xs,H2,I2,.cons r1 r2,q2⟩
def ud (t:TA):TE:=fun σ H Q=>t σ H fun xs H1=>xs.length≤sizeLine∧∀ p,H1 p=none→Q (.ref p) (upd H1 p (.tup xs))
def ui (t:TA):TE:=fun σ H Q=>t σ H fun xs H1=>xs.length≤sizeLine∧∀ p,H1 p=none→Q (.ref p) (upd H1 p (.lst xs))
theorem bK {x1} (h:PA X es t):PE X (.Tuple es x1 pos) (ud t):=by
  intro pins s σ H Q I hq;refine wpAny_Tuple_spliced (thn (h pos pins s σ H _ I hq) fun us s1 ⟨xs,H1,I1,r,z,q⟩=>⟨by rw [← r.length];exact z,?_⟩);have hf:H1 s1.heap.objs.size=none:=I1.hok.fresh (aah _);refine ⟨.ref s1.heap.objs.size,upd H1 s1.heap.objs.size (.tup xs),I1.laid (t':=s1.toks) (fun b u e=>aac _ e) (aah _) ?_,rfl,q _ hf⟩;exact ⟨z,us,r,⟨_,aar _ rfl,rfl,_,rfl⟩⟩
theorem aD (h:PA X es t):PE X (.List es pos) (ui t):=by
  intro pins s σ H Q I hq;refine wpAny_List_spliced (thn (h pos pins s σ H _ I hq) fun us s1 ⟨xs,H1,I1,r,z,q⟩=>⟨by rw [← r.length];exact z,?_⟩);have hf:H1 s1.heap.objs.size=none:=I1.hok.fresh (aah _);refine ⟨.ref s1.heap.objs.size,upd H1 s1.heap.objs.size (.lst xs),I1.laid (t':=s1.toks) (fun b u e=>aac _ e) (aah _) ?_,rfl,q _ hf⟩;exact ⟨z,us,0,r,aar _ rfl⟩
end
abbrev Sp:=List V→Hp→VK→XK→Prop
abbrev CXT:=List Env→Hp→Shared→XK→Value→Shared→Prop
structure Env0 (P:Program) (w:World) (K:aab) (mg:Str→Option Value) (base:Heap) (A:Around) (outer:List Env) (s:Shared) (H:Hp):Prop where
  frames:A.frames=some outer
  mod:Mod K mg base
  bs:∀ b o,base.get? b=some o→s.heap.get? b=some o∧H b=none
  bsz:base.objs.size≤s.heap.objs.size
  funs:s.heap.FunFrames base outer
  frf:∀ b∈frs outer,H b=none
  hok:HOk P w H s.heap
  bare:AllBare s.gens
def CE (outer:List Env) (P:Program) (w:World) (H:Hp) (s:Shared) (Q:VK) (u:Value) (s':Shared):Prop :=
  ∃ v H',s'.os=s.os∧AllBare s'.gens∧Un (frs outer) [] H H' s.heap s'.heap∧HOk P w H' s'.heap∧RelV v u∧Q v H'
def CR (CX:CXT) (outer:List Env) (P:Program) (w:World) (H:Hp) (s:Shared) (Q:VK) (E:XK) (r:Result) (s':Shared):Prop :=
  match r with
  | .ok (.ret u)=>CE outer P w H s Q u s'
  | .ok _=>False
  | .error e=>CX outer H s E e s'
structure FnOk (P:Program) (w:World) (K:aab) (mg:Str→Option Value) (base:Heap) (CX:CXT) (k:Nat) (f:Addr) (fd:FuncData) (ps:List Str) (sp:Sp):Prop where
  len:∀ vs H Q E,sp vs H Q E→vs.length=ps.length
  run:∀ (A:Around) (outer:List Env) (s:Shared) (H:Hp) (args:Args) (us:List Value) (vs:List V) (Q:VK) (E:XK),Room k A→Env0 P w K mg base A outer s H→BindsTo s fd args (ps.zip us)→Vals vs us→sp vs H Q E →
    codeAny (model P w) A (.call (.ref f) args) (CR CX outer P w H s Q E) s
theorem Env0.in1 {P:Program} {w:World} {K:aab} {mg:Str→Option Value} {base:Heap} {A:Around} {outer:List Env} {s:Shared} {H:Hp} (e:Env0 P w K mg base A outer s H) :
    Env0 P w K mg base A.in1 outer s H:=⟨e.frames,e.mod,e.bs,e.bsz,e.funs,e.frf,e.hok,e.bare⟩
section
variable {X:Cx} {pins:List (Addr × Obj)} {σ:St} {H:Hp} {s s':Shared}
theorem Inv.env0 (I:Inv X pins σ H s):Env0 X.prog X.w X.K X.mg X.base X.A X.stack s H :=
  ⟨I.ok.frames,I.ok.mod,I.bs,aaJ I.ok.bsz I.sz,I.stack,I.stkFree,I.hok,I.bare⟩
theorem Inv.after {Q:VK} {u:Value} (I:Inv X pins σ H s) (h:CE X.stack X.prog X.w H s Q u s'):EP X pins σ Q u s':=by
  obtain ⟨v,H',os,bare,un,hok,r,q⟩:=h;obtain ⟨hh,g,d,t,os'⟩:=s';obtain rfl:os'=s.os:=os;exact ⟨v,H',I.call (h':=hh) (g':=g) (d':=d) (t':=t) (ch:=[]) un hok bare (fun b z=>absurd z (by simp)),r,q⟩
end
def iC (sp:Sp) (dvs:List V) (E:XK) (t:TA):TE:=fun σ H Q=>t σ H fun vs H1=>sp (vs++dvs) H1 Q E
def Binds (K:aab) (fd:FuncData) (ps:List Str) (ds:List Value):Prop :=
  ∀ (s:Shared) (us:List Value),K.In s.heap→(us++ds).length=ps.length→BindsTo s fd ⟨us,[]⟩ (ps.zip (us++ds))
theorem Binds.all {K:aab} {fd:FuncData} {ps:List Str} (h:∀ us:List Value,us.length=ps.length→bindArgs fd ⟨us,[]⟩=pure (ps.zip us)):Binds K fd ps []:=fun s us _ hl=>by
  rw [abZ] at hl ⊢;exact .of_eq (h us hl)
def gb (CX:CXT) (X:Cx) (E:XK):Prop:=∀ (pins:List (Addr × Obj)) (σ:St) (H:Hp) (s:Shared) (e:Value) (s':Shared),Inv X pins σ H s→CX X.stack H s E e s'→X.xe e s'
section
variable {X:Cx} {CX:CXT} {k:Nat} {f C:Addr} {fd:FuncData} {ps:List Str} {sp:Sp} {dvs:List V} {ds:List Value} {E:XK} {x m:Str} {p pos apos:Pos} {e o:Expr} {es:List Expr} {ta:TE} {t:TA}
theorem oy {pins:List (Addr × Obj)} {σ:St} {H:Hp} {s:Shared} {Q:VK} {us:List Value} {vs:List V} (F:FnOk X.prog X.w X.K X.mg X.base CX k f fd ps sp) (hr:Room k X.A) (hb:Binds X.K fd ps ds) (hd:Vals dvs ds) (hx:gb CX X E)
    (I:Inv X pins σ H s) (r:Vals vs us) (h:sp (vs++dvs) H Q E):wpAny (model X.prog X.w) X.A (call (.ref f) us) (EP X pins σ Q) X.xe s:=by
  have r2:Vals (vs++dvs) (us++ds):=r.append hd;have hl:(us++ds).length=ps.length:=by rw [← r2.length];exact F.len _ _ _ _ h
  refine wpAny_call (codeAny_mono (F.run X.A X.stack s H ⟨us,[]⟩ (us++ds) (vs++dvs) Q E hr I.env0 (hb s us I.kIn hl) r2 h) fun r s' hq=>?_);cases r with
  | error e=>exact hx pins σ H s e s' I hq
  | ok fl =>
    cases fl with
    | ret u=>exact I.after hq
    | next=>exact aa2 hq
    | brk=>exact aa2 hq
    | cont=>exact aa2 hq
theorem ji (F:FnOk X.prog X.w X.K X.mg X.base CX k f fd ps sp) (hr:Room k X.A) (hg:Gl X x) (hm:X.mg x=some (.ref f)) (hk:aaO X.K (.ref f)=true) (hb:Binds X.K fd ps ds) (hd:Vals dvs ds) (hx:gb CX X E)
    (ha:PA X (e :: es) t) (hdb:(x == ("__debug__":Str))=false:=by decide) (he:starEach (e :: es) X.env=(false,eval e X.env) :: starEach es X.env:=by rfl) (hpl:(backTo pos (starEach es X.env)).any (·.1)=false:=by rfl) :
    PE X (.Call (.Name x p) (e :: es) [] pos) (iC sp dvs E t):=by
  intro pins s σ H Q I h;refine wpAny_Call_Name_kw (eh I hg hm ?_ hdb);refine PySem.W.callWith_K (h₀:=X.base) I.ok.mod.kin hk (thn (ha pos pins s σ H _ I h) fun us s1 ⟨vs,H1,I1,r,q⟩=>⟨I1.kIn,?_⟩) he hpl;exact oy F hr hb hd hx I1 r q
theorem oV (F:FnOk X.prog X.w X.K X.mg X.base CX k f fd ps sp) (hr:Room k X.A) (hg:Gl X x) (hm:X.mg x=some (.ref f)) (hk:aaO X.K (.ref f)=true) (hb:Binds X.K fd ps ds) (hd:Vals dvs ds) (hx:gb CX X E)
    (hdb:(x == ("__debug__":Str))=false:=by decide):PE X (.Call (.Name x p) [] [] pos) (iC sp dvs E rL):=by
  intro pins s σ H Q I h;refine wpAny_Call_Name_kw (eh I hg hm ?_ hdb);exact PySem.W.callWith_K0 I.kIn hk (oy (us:=[]) F hr hb hd hx I .nil h)
structure Mk (K:aab) (C f:Addr):Prop where
  makes:PySem.W.makesIn K C=true
  init:aaZ K (.ref C) "__init__" = some (some (.ref f))
  fn:PySem.W.isFn K (.ref f)=true
  kp:aaO K (.ref C)=true
end
section
variable {X:Cx} {CX:CXT} {k:Nat} {f C:Addr} {fd:FuncData} {ps ks:List Str} {sp:Sp} {E:XK} {x m:Str} {p pos apos kpos:Pos} {e o:Expr} {es:List Expr} {kws:List Keyword} {te ta:TE} {t tk:TA} {nm:Option Str}
structure KBinds (K:aab) (fd:FuncData) (ps ks:List Str) (g:List Value→List Value→List Value) (gV:List V→List V→List V):Prop where
  to:∀ (s:Shared) (us ws:List Value),K.In s.heap→(g us ws).length=ps.length→BindsTo s fd ⟨us,ks.zip ws⟩ (ps.zip (g us ws))
  rel:∀ {vs:List V} {us:List Value} {zs:List V} {ws:List Value},Vals vs us→Vals zs ws→Vals (gV vs zs) (g us ws)
variable {g:List Value→List Value→List Value} {gV:List V→List V→List V}
end
structure FnScope (N P:List Str) (sc:Scope):Prop where
  kind:sc.kind=.function
  co:sc.isCoroutine=false
  gen:sc.isGenerator=false
  nd:N.Nodup
  pre:N.take P.length=P
  par:∀ x∈P,sc.names.lookup x=some .local∨sc.names.lookup x=some .cell
  nofree:∀ y∈sc.names,y.2≠.free
theorem i5 {kindOf:Str→Option NameKind} {x:Str}:∀ {binds:List (Str × Value)} {m:Str→Option Value},(∀ v,(x,v)∉binds)→bindL kindOf binds m x=m x
  | [],_,_=>rfl
  | (n,v) :: r,m,h=>by
    unfold bindL;rw [i5 fun w hw=>h w (aal _ hw)];split
    · have : x≠n:=by rintro rfl;exact h v aav
      simp [this]
    · rfl
theorem i7 {kindOf:Str→Option NameKind} {x:Str}:∀ {binds:List (Str × Value)} {m:Str→Option Value},(∀ v,(x,v)∉binds)→bindC kindOf binds m x=m x
  | [],_,_=>rfl
  | (n,v) :: r,m,h=>by
    unfold bindC;rw [i7 fun w hw=>h w (aal _ hw)];split
    · rfl
    · have : x≠n:=by rintro rfl;exact h v aav
      simp [this]
theorem i6 {kindOf:Str→Option NameKind} {x:Str} {v:Value}:∀ {P:List Str} {vs:List Value} {i:Nat} {m:Str→Option Value},P.Nodup→P[i]?=some x→vs[i]?=some v→kindOf x=some .local →
    bindL kindOf (P.zip vs) m x=some v
  | [],_,_,_,_,h,_,_=>by simp at h
  | _ :: _,[],_,_,_,_,h,_=>by simp at h
  | p :: P,w :: vs,0,m,nd,h1,h2,hk=>by
    simp at h1 h2;subst h1;subst h2;show bindL kindOf ((p,w) :: P.zip vs) m p=_;unfold bindL;rw [i5 fun v hv=>(acj.mp nd).1 (List.of_mem_zip hv).1,if_pos hk];simp
  | p :: P,w :: vs,i+1,m,nd,h1,h2,hk=>by
    show bindL kindOf ((p,w) :: P.zip vs) m x=_;unfold bindL;exact i6 (i:=i) (acj.mp nd).2 (by simpa using h1) (by simpa using h2) hk
theorem i9 {kindOf:Str→Option NameKind} {x:Str} {v:Value}:∀ {P:List Str} {vs:List Value} {i:Nat} {m:Str→Option Value},P.Nodup→P[i]?=some x→vs[i]?=some v→kindOf x≠some .local →
    bindC kindOf (P.zip vs) m x=some v
  | [],_,_,_,_,h,_,_=>by simp at h
  | _ :: _,[],_,_,_,_,h,_=>by simp at h
  | p :: P,w :: vs,0,m,nd,h1,h2,hk=>by
    simp at h1 h2;subst h1;subst h2;show bindC kindOf ((p,w) :: P.zip vs) m p=_;unfold bindC;rw [i7 fun v hv=>(acj.mp nd).1 (List.of_mem_zip hv).1,if_neg hk];simp
  | p :: P,w :: vs,i+1,m,nd,h1,h2,hk=>by
    show bindC kindOf ((p,w) :: P.zip vs) m x=_;unfold bindC;exact i9 (i:=i) (acj.mp nd).2 (by simpa using h1) (by simpa using h2) hk
def start (N:List Str) (vs:List V):St:=vs.map some++aat (N.length - vs.length) none
def eJ (CX:CXT) (P:Program) (w:World) (K:aab) (mg:Str→Option Value) (base:Heap) (N:List Str) (qual:Str) (scope:Scope) (f:Addr) (cd:Value) (A:Around) (outer:List Env) (s:Shared) (H:Hp) (E:XK):Cx where
  prog:=P
  w:=w
  K:=K
  mg:=mg
  base:=base
  A:=A.deeper (envOfC qual scope s.heap.objs.size f cd)
  N:=N
  s₀:=s
  H₀:=H
  env:=envOfC qual scope s.heap.objs.size f cd
  outer:=outer
  stack:=envOfC qual scope s.heap.objs.size f cd :: outer
  ex:=[]
  calm:=true
  fn:=fun _=>true
  pn:=[]
  xe:=fun e s'=>wpAny (model P w) (A.deeper (envOfC qual scope s.heap.objs.size f cd)) (leaving (envOfC qual scope s.heap.objs.size f cd) e) (fun _ s''=>CX outer H s E e s'') (fun e' s''=>CX outer H s E e' s'') s'
theorem kY {sc:Scope} {n:Nat} {x:Str} (h:sc.names.lookup x=some .cell):∃ c,(cellsFrom n sc.names []).lookup x=some c:=by
  have q:=ab6 sc.names n [] (.inl h);exact aa8.mp q
theorem iT {CX:CXT} {P:Program} {w:World} {K:aab} {mg:Str→Option Value} {base:Heap} {N ps:List Str} {qual:Str} {scope:Scope} {f:Addr} {cd:Value} {A:Around} {outer:List Env} {s s1:Shared} {H:Hp} {E:XK} {us:List Value} {vs:List V}
    (S:FnScope N ps scope) (hd:A.handled=none) (e0:Env0 P w K mg base A outer s H) (hl:vs.length=ps.length) (r:Vals vs us)
    (x:InCallC s s.heap.objs.size (bindL (envOfC qual scope s.heap.objs.size f cd).kindOf (ps.zip us) fun _=>none) (cellsFrom (s.heap.objs.size+1) scope.names []) (bindC (envOfC qual scope s.heap.objs.size f cd).kindOf (ps.zip us) fun _=>none) s1) :
    Inv (eJ CX P w K mg base N qual scope f cd A outer s H E) [] (start N vs) H s1:=by
  have hpl:ps.length≤N.length:=by have:=congrArg List.length S.pre;rw [aaE] at this;lia
  obtain ⟨h1,tk,rfl,hk⟩:=x.done;have noA:∀ b:Addr,b∉(eJ CX P w K mg base N qual scope f cd A outer s H E).ex:=fun b z=>absurd (show b∈([]:List Addr) from z) (by simp);refine ⟨⟨e0.mod,S.kind,rfl,rfl,aah _,fun y z c h1 h2=>?_,fun y hy=>?_,fun y c _ h=>?_,fun _=>hd,Around.frames_deeper e0.frames,.inr ⟨rfl,rfl⟩,fun b z=>absurd z (noA b),e0.bs,e0.bsz,fun b _ _=>noA b,fun b z=>absurd z (noA b),e0.funs,e0.frf⟩,
    rfl,e0.bare,Un.kept hk,⟨_,x.toInCall.ns,fun i y v h1 h2 h3=>?_⟩,fun y c h=>⟨_,x.cell y c h⟩,e0.hok.fresh (aah _),fun y c h=>?_,fun p hp=>absurd (show p∈([]:List (Addr × Obj)) from hp) (by simp),e0.hok.kept hk,?_⟩
  · exact name_of_addr x.apart (aaU h1) (aaU h2)
  · have hy:scope.names.lookup y=some .cell∨scope.names.lookup y=some .free:=hy;rcases hy with hy|hy
    · exact kY hy
    · exact absurd rfl (S.nofree _ (aaU hy))
  · exact Nat.le_of_lt (x.above y c (aaU h))
  · have hi:i < vs.length:=by
      unfold start at h2;by_cases hi:i < vs.length
      · exact hi
      · rw [List.getElem?_append_right (by simpa using hi)] at h2;rw [List.getElem?_replicate] at h2;split at h2 <;> cases h2
    have ha:vs[i]?=some v:=by
      unfold start at h2;rw [List.getElem?_append_left (by simpa using hi),aaY] at h2;cases e:vs[i]? with
      | none=>rw [e] at h2;cases h2
      | some a=>rw [e] at h2;cases h2;rfl
    obtain ⟨u,hu,rv⟩:=r.get ha;have hp:ps[i]?=some y:=by
      rw [← S.pre,abC (by lia)];exact h1
    have ndP:ps.Nodup:=by rw [← S.pre];exact S.nd.sublist (List.take_sublist _ _)
    refine ⟨u,rv,?_⟩;rcases S.par y (aaI hp) with k|k
    · exact .inl ⟨k,i6 ndP hp hu k⟩
    · obtain ⟨c,e⟩:=kY (n:=s.heap.objs.size+1) k;refine .inr ⟨.inl k,c,e,?_⟩;have q:=x.cell y c e;rw [i9 ndP hp hu (by show scope.names.lookup y≠_;rw [k];decide)] at q;exact q
  · exact e0.hok.fresh (Nat.le_of_lt (x.above y c (aaU h)))
  · unfold start;show _=N.length;rw [aao,aan,List.length_replicate];lia
theorem mM {CX:CXT} {P:Program} {w:World} {K:aab} {mg:Str→Option Value} {base:Heap} {k:Nat} {f:Addr} {name qual:Str} {params:Arguments} {body:List Stmt} {scope:Scope} {dV kV doc pm cdv ct oc:Value} {an od:Option Addr}
    {osl:Array (Option Value)} {N ps:List Str} {sp:Sp} (lk:K.lookup f=some ⟨oc,od,.func (aaP name qual params body scope dV kV doc pm an cdv ct),osl⟩) (hcd:aba K cdv qual=true) (S:FnScope N ps scope)
    (len:∀ vs H Q E,sp vs H Q E→vs.length=ps.length)
    (hbody:∀ (A:Around) (outer:List Env) (s:Shared) (H:Hp) (vs:List V) (Q:VK) (E:XK),Room k (A.deeper (envOfC qual scope s.heap.objs.size f cdv))→sp vs H Q E →
      ∃ t,PSs (eJ CX P w K mg base N qual scope f cdv A outer s H E) body t∧t { nx:=fun _ H'=>Q .non H',rt:=Q } (start N vs) H) :
    FnOk P w K mg base CX (k+1) f (aaP name qual params body scope dV kV doc pm an cdv ct) ps sp:=by
  refine ⟨len,fun A outer s H args us vs Q E hr e0 hb r hsp=>?_⟩;have hl:=len _ _ _ _ hsp;have KX:K.In s.heap:=e0.mod.kin.keeps fun b o e=>(e0.bs b o e).1;have lim:s.heap.NoLimit:=e0.mod.nolimit.keeps fun b o e=>(e0.bs b o e).1;have hkind:∀ y∈ps.zip us,scope.names.lookup y.1=some .local∨(scope.names.lookup y.1=some .cell∧((cellsFrom (s.heap.objs.size+1) scope.names []).lookup y.1).isSome=true):=fun ⟨n,v⟩ hy=>by
    rcases S.par n (List.of_mem_zip hy).1 with q|q
    · exact .inl q
    · exact .inr ⟨q,ab6 _ _ _ (.inl q)⟩
  refine codeAny_call_function hr.depth (KX _ _ lk) rfl S.co S.gen rfl (PySem.W.codeRec_of KX hcd) (hb _ _ _ _ ?_);refine wpAny_newFunctionEnv_cells S.kind hkind fun env he s1 x=>?_;subst he;refine ⟨lim.keeps x.toInCall.keep,codeAny_func ?_⟩;obtain ⟨t,ht,hq⟩:=hbody A outer s H vs Q E (hr.deeper _) hsp;have I:Inv (eJ CX P w K mg base N qual scope f cdv A outer s H E) [] (start N vs) H s1:=iT S hr.hd e0 hl r x;refine wpAny_mono (ht [] s1 (start N vs) H _ I hq) (fun fl s' hs=>?_) fun e s' hs=>hs;have fin:∀ {σ':St} {H':Hp} {v:V} {u:Value},Inv (eJ CX P w K mg base N qual scope f cdv A outer s H E) [] σ' H' s'→RelV v u→Q v H'→CE outer P w H s Q u s' :=
    fun {σ' H' v u} J rv q=>⟨v,H',J.os,J.bare,J.base,J.hok,rv,q⟩
  cases fl with
  | ret u =>
    obtain ⟨v,σ',H',J,rv,q⟩:=hs;exact fin J rv q
  | next =>
    obtain ⟨σ',H',J,q⟩:=hs;exact fin (v:=V.non) (u:=Value.none) J rfl q
  | brk =>
    obtain ⟨_,_,_,q⟩:=hs;exact aa2 q
  | cont =>
    obtain ⟨_,_,_,q⟩:=hs;exact aa2 q
open PySem PySem.Spec PyProof.Rows
section
variable {X:Cx} {x:Str} {p pos:Pos} {e:Expr} {es:List Expr} {t:TA} {id T:String} {r:List V→Hp→VK→Prop}
def tCB (r:List V→Hp→VK→Prop) (t:TA):TE:=fun σ H Q=>t σ H fun vs H1=>r vs H1 Q
theorem ax (hc:df X (.builtin id) r) (hg:Gl X x) (hm:X.mg x=none) (hv:bootBuiltins x=some (.builtin id)) (ha:PA X (e :: es) t) (hn:x ≠ "__name__":=by decide) (hdb:(x == ("__debug__":Str))=false:=by decide)
    (he:starEach (e :: es) X.env=(false,eval e X.env) :: starEach es X.env:=by rfl) (hpl:(backTo pos (starEach es X.env)).any (·.1)=false:=by rfl):PE X (.Call (.Name x p) (e :: es) [] pos) (tCB r t):=by
  intro pins s σ H Q I h;refine wpAny_Call_Name_kw (fW I hg hm hv ?_ hn hdb);exact PyProof.Rows.callWith_builtin1 (thn (ha pos pins s σ H _ I h) fun us s1 ⟨vs,H1,I1,r1,q1⟩=>hc pins s1 σ H1 vs us Q I1 r1 q1) he hpl
theorem iN (hc:df X (.type T) r) (hg:Gl X x) (hm:X.mg x=none) (hv:bootBuiltins x=some (.type T)) (ha:PA X (e :: es) t) (hn:x ≠ "__name__":=by decide) (hdb:(x == ("__debug__":Str))=false:=by decide)
    (he:starEach (e :: es) X.env=(false,eval e X.env) :: starEach es X.env:=by rfl) (hpl:(backTo pos (starEach es X.env)).any (·.1)=false:=by rfl):PE X (.Call (.Name x p) (e :: es) [] pos) (tCB r t):=by
  intro pins s σ H Q I h;refine wpAny_Call_Name_kw (fW I hg hm hv ?_ hn hdb);exact abM (thn (ha pos pins s σ H _ I h) fun us s1 ⟨vs,H1,I1,r1,q1⟩=>hc pins s1 σ H1 vs us Q I1 r1 q1) he hpl
end
end L2
namespace HT
open PySem PyProof.Rows
def lexLt:List Int→List Int→Bool
  | [],[]=>false
  | [],_ :: _=>true
  | _ :: _,[]=>false
  | x :: xs,y :: ys=>if x=y then lexLt xs ys else decide (x < y)
theorem lX (x y:Int) (xs ys:List Int):lexLt (x :: xs) (y :: ys)=if x=y then lexLt xs ys else decide (x < y):=rfl
theorem lexLt_nil_nil:lexLt [] []=false:=rfl
theorem gN (y:Int) (ys:List Int):lexLt [] (y :: ys)=true:=rfl
theorem gO (x:Int) (xs:List Int):lexLt (x :: xs) []=false:=rfl
theorem pQ (A:Around) (s:Shared) (a:Int) (t:Tok) (c:Int) (u:Tok):∃ e,SeqAt.EqAt A s (.int a t) (.int c u) e∧(e=true↔a=c) :=
  ⟨(a == c),SeqAt.EqAt.int_int a t c u,by simp⟩
theorem oE (A:Around) (s:Shared) (a:Int) (t:Tok) (c:Int) (u:Tok) (prog:Program) (w:World) (E:Value→Shared→Prop) (Q:Value→Shared→Prop) (h:Q (.bool (decide (a < c))) s) :
    wpAny (model prog w) A (richCompare .Lt (.int a t) (.int c u)) Q E s :=
  (PyProof.Rows.lt_int h:wpAny (model prog w) A (compareOp .Lt (.int a t) (.int c u)) Q E s)
section
open PySem.SeqAt
open PySem.AutoSeq1 (wpAny_loadPart')
open PySem.MeetsSeq PySem.MeetsSeq2 PySem.MeetsSeq3
theorem ib (l b:Addr) (items items2:Array Value) (n n2:Nat) (dd dd2:Option Addr) (sl sl2:Array (Option Value)) (ns ms:List Int) (hi:IntsAre items.toList ns) (hj:IntsAre items2.toList ms) :
    Meets (Builtin.«tuple.__lt__» ⟨[.ref l,.ref b],[]⟩)
      (fun _ R s=>s.heap.get? l=some { cls:=.type "tuple",dict:=dd,data:=.seq items n,slots:=sl }∧s.heap.get? b=some { cls:=.type "tuple",dict:=dd2,data:=.seq items2 n2,slots:=sl2 } ∧
        R (.ok (.ret (.bool (lexLt ns ms)))) s) :=
  .of_wp fun prog w A R s h=>by
    obtain ⟨hp,g,d,tk,os⟩:=s;obtain ⟨hl,hb,h⟩:=h;have f2:=AutoSeq1.sub_tuple_tuple;have z1:items.size=ns.length:=by rw [← hi.length];simp
    have z2:items2.size=ms.length:=by rw [← hj.length];simp
    wp_walk using wpAny_loadPart' hl,wpAny_loadPart' hb,wpAny_forIn_list _ (fun cM b s'=>b.1=none∧s'=⟨hp,g,d,tk,os⟩∧∃ (vs ws:List Value) (ns' ms':List Int),cM=vs.zip ws ∧
      IntsAre vs ns'∧IntsAre ws ms'∧ns'.length+items2.size=ms'.length+items.size∧R (.ok (.ret (.bool (lexLt ns' ms')))) ⟨hp,g,d,tk,os⟩) _
    case turn =>
      rintro ⟨y,x⟩ cM b s' ⟨hb',rfl,vs,ws,ns',ms',hz,hvi,hwi,hlen,hR⟩;cases hvi with
      | nil=>rw [List.zip_nil_left] at hz;cases hz
      | cons a t hvi' =>
        cases hwi with
        | nil=>rw [List.zip_nil_right] at hz;cases hz
        | cons c u hwi' =>
          rw [List.zip_cons_cons] at hz;injection hz with hyx hrest
          injection hyx with hy hx
          subst hy hx;rw [lX] at hR;simp only [aaB] at hlen;obtain ⟨e,he,hiff⟩:=pQ A.in1 ⟨hp,g,d,tk,os⟩ a t c u;refine wpAny_bind (he prog w _ _ ?_);cases e with
          | true =>
            rw [if_pos (hiff.mp rfl)] at hR
            wp_walk
            exact ⟨rfl,rfl,_,_,_,_,hrest,hvi',hwi',by lia,hR⟩
          | false =>
            rw [if_neg (fun q=>absurd (hiff.mpr q) aae)] at hR;have hri:=oE A.in1 ⟨hp,g,d,tk,os⟩ a t c u prog w
            wp_walk using hri
            exact ⟨_,rfl,by simpa using hR⟩
    case fin =>
      rintro ⟨b1,b2⟩ s' ⟨hb',rfl,vs,ws,ns',ms',hz,hvi,hwi,hlen,hR⟩;simp only at hb';subst hb';have hv:lexLt ns' ms'=decide (items.size < items2.size):=by
        cases hvi with
        | nil =>
          cases hwi with
          | nil =>
            simp only [aaV] at hlen;rw [lexLt_nil_nil];exact (decide_eq_false (by lia)).symm
          | cons c u hw =>
            simp only [aaV,aaB] at hlen;rw [gN];exact (decide_eq_true (by lia)).symm
        | cons a t hv =>
          cases hwi with
          | nil =>
            simp only [aaV,aaB] at hlen;rw [gO];exact (decide_eq_false (by lia)).symm
          | cons c u hw =>
            rw [List.zip_cons_cons] at hz;cases hz
      rw [hv] at hR
      wp_walk
      exact ⟨_,rfl,by simpa [Builtin.Tuple.tupleCompareSizes] using hR⟩
    case h =>
      exact ⟨rfl,rfl,items.toList,items2.toList,ns,ms,rfl,hi,hj,by lia,h⟩
end
section
variable {prog:Program} {w:World} {A:Around} {E:Value→Shared→Prop} {s:Shared}
theorem lt_tupInts {l b:Addr} {items items2:Array Value} {ns ms:List Int} {Q:Value→Shared→Prop} (hl:IsTup s.heap l items) (hb:IsTup s.heap b items2) (hi:IntsAre items.toList ns) (hj:IntsAre items2.toList ms)
    (hu:A.units < cLine) (h:Q (.bool (lexLt ns ms)) s):wpAny (model prog w) A (compareOp .Lt (.ref l) (.ref b)) Q E s:=by
  obtain ⟨⟨cls,dd,data,sl⟩,ho,hc,n,hd⟩:=id hl;obtain ⟨⟨cls2,dd2,data2,sl2⟩,ho2,hc2,n2,hd2⟩:=id hb;simp only at hc hd hc2 hd2;subst hc hd hc2 hd2;exact richCompare_meets_room (op:=.Lt) ⟨_,ho,rfl⟩ ⟨_,ho2,rfl⟩ PySem.F.slot_tuple_lt PySem.F.entry_tuple_lt (PySem.F.args_tuple_lt_2 _ _) (ib l b items items2 n n2 dd dd2 sl sl2 ns ms hi hj)
    ⟨ho,ho2,show Value.bool (lexLt ns ms)≠Value.notImplemented∧Q (.bool (lexLt ns ms)) s from ⟨(fun x=>nomatch x),h⟩⟩ hu
def sIx (n d:Nat):Option Int→Nat
  | none=>d
  | some v=>if v < 0 then (v+(n:Int)).toNat else min v.toNat n
end
end HT
namespace L2
open PySem PySem.Spec PyProof.Rows
abbrev TO:=St→Hp→(Option Int→Hp→Prop)→Prop
def PO (X:Cx) (e:Option Expr) (t:TO):Prop :=
  ∀ (pins:List (Addr × Obj)) (s:Shared) (σ:St) (H:Hp) (Q:Option Int→Hp→Prop),Inv X pins σ H s→t σ H Q →
    wpAny (model X.prog X.w) X.A (evalPart e X.env) (fun u s'=>∃ o H',Inv X pins σ H' s'∧IsPart u o∧Q o H') X.xe s
def ql:TO:=fun _ H Q=>Q none H
def sY (t:TE):TO:=fun σ H Q=>t σ H fun x H1=>∃ i,x=.int i∧Q (some i) H1
theorem dF {ns:List Int}:∀ {us:List Value},Vals (ns.map V.int) us→IntsAre us ns:=by
  induction ns with
  | nil=>intro us r;rw [abW] at r;cases r;exact .nil
  | cons n ns ih =>
    intro us r;rw [aaH] at r;cases r with
    | cons r1 r2 =>
      obtain ⟨t,e⟩:=r1;subst e;exact .cons n t (ih r2)
section
variable {X:Cx} {e:Expr} {te:TE} {lo hi:Option Expr} {tl th:TO} {pos p2:Pos}
theorem fA:PO X none ql:=by
  intro pins s σ H Q I h;rw [evalPart_none];exact wpAny_pure ⟨none,H,I,.none,h⟩
theorem fz (h:PE X e te):PO X (some e) (sY te):=by
  intro pins s σ H Q I hw;rw [evalPart_some];refine thn (h pins s σ H _ I hw) fun u s1 ⟨x,H1,I1,r1,q1⟩=>?_;obtain ⟨i,rfl,q⟩:=q1;obtain ⟨t,rfl⟩:=r1;exact ⟨some i,H1,I1,.int i t,q⟩
def SlR (X:Cx) (r:V→Option Int→Option Int→Hp→VK→Prop):Prop :=
  ∀ (pins:List (Addr × Obj)) (s:Shared) (σ:St) (H:Hp) (x:V) (v vl vu:Value) (lo hi:Option Int) (sl:Addr) (Q:VK),Inv X pins σ H s→RelV x v→s.heap.IsSliceOf sl vl vu .none→IsPart vl lo→IsPart vu hi→r x lo hi H Q →
    ∃ T id,typeLookup (.type T) "__getitem__" = pure (some (.builtin id))∧s.TypeIs v T∧wpAny (model X.prog X.w) X.A (getItem v (.ref sl)) (EP X pins σ Q) X.xe s
def tSl (r:V→Option Int→Option Int→Hp→VK→Prop) (te:TE) (tl th:TO):TE:=fun σ H Q=>te σ H fun x H1=>tl σ H1 fun l H2=>th σ H2 fun u H3=>r x l u H3 Q
theorem dX {r:V→Option Int→Option Int→Hp→VK→Prop} (hr:SlR X r) (he:PE X e te) (hl:PO X lo tl) (hu:PO X hi th):PE X (.Subscript e (.Slice lo hi none p2) pos) (tSl r te tl th):=by
  intro pins s σ H Q I h;refine Subscript_ (thn (he pins s σ H _ I h) fun v s1 ⟨x,H1,I1,r1,q1⟩=>?_);refine wpAny_Slice (thn (hl pins s1 σ H1 _ I1 q1) fun vl s2 ⟨l,H2,I2,pl,q2⟩=>thn (hu pins s2 σ H2 _ I2 q2) fun vu s3 ⟨u,H3,I3,pu,q3⟩=>?_);rw [evalPart_none];refine wpAny_pure ?_;have I4:Inv X pins σ H3 { s3 with heap:=s3.heap.push { cls:=.type "slice",data:=.fields #[vl,vu,.none] } }:=I3.kept (t':=s3.toks) fun b ob q=>aac _ q;obtain ⟨T,id,hT,ht,hg⟩:=hr pins { s3 with heap:=s3.heap.push { cls:=.type "slice",data:=.fields #[vl,vu,.none] } } σ H3 x v vl vu l u s3.heap.objs.size Q I4 r1 (Heap.IsSliceOf.new ..) pl pu q3;show wpAny (model X.prog X.w) X.A (subscriptTail e (.Slice lo hi none p2) v (.ref s3.heap.objs.size)) (EP X pins σ Q) X.xe { s3 with heap:=s3.heap.push { cls:=.type "slice",data:=.fields #[vl,vu,.none] } };exact tail_any (ops:=[.ref s3.heap.objs.size,v]) ht hT hg (by with_unfolding_all rfl)
def dH (xs:List V) (lo hi:Option Int):List V:=(xs.drop (HT.sIx xs.length 0 lo)).take (HT.sIx xs.length xs.length hi - HT.sIx xs.length 0 lo)
theorem kW (xs:List V) (lo hi:Option Int):(dH xs lo hi).length≤xs.length:=by
  unfold dH;rw [aaE,aby];lia
end
open PySem PySem.Spec PyProof.Rows
def ixN (n:Nat) (i:Int):Option Nat:=if 0≤i then (if i < n then some i.toNat else none) else if -(n:Int)≤i then some (i+n).toNat else none
def atI {α:Type} (xs:List α) (i:Int):Option α:=(ixN xs.length i).bind fun j=>xs[j]?
theorem mJ {n:Nat} {i:Int} {j:Nat} (h:ixN n i=some j):seqIndex? i n=some j∧j < n∧-(n:Int)≤i∧i < n:=by
  unfold ixN at h;by_cases h0:0≤i
  · rw [if_pos h0] at h;by_cases h1:i < n
    · rw [if_pos h1] at h;have e:i.toNat=j:=aaM h;exact ⟨by rw [seqIndex_of h0 h1,e],by lia,by lia,h1⟩
    · rw [if_neg h1] at h;cases h
  · rw [if_neg h0] at h;by_cases h1:-(n:Int)≤i
    · rw [if_pos h1] at h;have e:(i+n).toNat=j:=aaM h;exact ⟨by rw [seqIndex_neg (by lia) h1,e],by lia,h1,by lia⟩
    · rw [if_neg h1] at h;cases h
theorem jJ {α:Type} {xs:List α} {i:Int} {v:α} (h:atI xs i=some v):∃ j,seqIndex? i xs.length=some j∧xs[j]?=some v∧j < xs.length∧-(xs.length:Int)≤i∧i < xs.length:=by
  unfold atI at h;cases e:ixN xs.length i with
  | none=>rw [e] at h;cases h
  | some j =>
    rw [e] at h;obtain ⟨h1,h2,h3,h4⟩:=mJ e;exact ⟨j,h1,h,h2,h3,h4⟩
theorem fH {α:Type} {xs:List α} {j:Nat} {v:α} (h:xs[j]?=some v):atI xs (j:Int)=some v:=by
  have hj:j < xs.length:=(aai.mp h).1;have e:ixN xs.length (j:Int)=some j:=by
    unfold ixN;rw [if_pos (by lia),if_pos (by lia)];simp
  unfold atI;rw [e];exact h
def qV (b:Expr):Prop:=∀ o i,subscripted b false o i=operate [o,i] (getItem o i)
def IxR (X:Cx) (r:R2):Prop :=
  ∀ (value slice:Expr) (pins:List (Addr × Obj)) (s:Shared) (σ:St) (H:Hp) (x y:V) (v u:Value) (Q:VK),Inv X pins σ H s→RelV x v→RelV y u→r x y H Q →
    subscripted slice false v u=operate [v,u] (getItem v u)→wpAny (model X.prog X.w) X.A (subscriptTail value slice v u) (EP X pins σ Q) X.xe s
def MtR (X:Cx) (id:String) (r:V→List V→Hp→VK→Prop):Prop :=
  ∀ (pins:List (Addr × Obj)) (s:Shared) (σ:St) (H:Hp) (x:V) (xs:List V) (v:Value) (us:List Value) (Q:VK),Inv X pins σ H s→RelV x v→Vals xs us→r x xs H Q →
    wpAny (model X.prog X.w) X.A (call (.builtin id) (v :: us)) (EP X pins σ Q) X.xe s
section
variable {X:Cx} {a b:Expr} {ta tb:TE} {pos:Pos}
theorem a4 {r:R2} (hr:IxR X r) (ha:PE X a ta) (hb:PE X b tb) (hs:qV b):PE X (.Subscript a b pos) (tOp r ta tb):=by
  intro pins s σ H Q I h;exact Subscript_ (sR ha hb I h fun v u s2 x y H2 I2 rx ry q=>hr a b pins s2 σ H2 x y v u Q I2 rx ry q (hs _ _))
def uD (K:aab):R2:=fun x y H Q=>∃ p xs i v,x=.ref p∧y=.int i∧SqL K H p xs∧atI xs i=some v∧Q v H
def rW (K:aab):R2:=fun x y H Q=>∃ p xs i v,x=.ref p∧y=.int i∧SqT K H p xs∧atI xs i=some v∧Q v H
def uC:R2:=fun x y H Q=>∃ z i c,x=.str z∧y=.int i∧z.length≤sizeLine∧atI z.cps.toList i=some c∧Q (.str ⟨#[c]⟩) H
theorem aY:IxR X (uD X.K):=by
  intro value slice pins s σ H x y v u Q I rx ry h hs;obtain ⟨p,xs,i,z,rfl,rfl,hq,he,q⟩:=h;cases rx;obtain ⟨t,rfl⟩:=ry;obtain ⟨its,r,pl,hz⟩:=I.list hq;obtain ⟨j,h1,h2,h3,h4,h5⟩:=jJ he;obtain ⟨w,ew,rw'⟩:=r.get h2;have hl:=r.length;have hn:=fj;have fin:EP X pins σ Q w s:=⟨z,H,I,rw',q⟩
  by_cases h0:0≤i
  · have hj:i.toNat=j:=by
      rw [seqIndex_of h0 h5] at h1;exact aaM h1
    exact item_listR pl.isList h0 (by lia) (by rw [hj];simpa using ew) fin hs
  · have hj:(i+(its.toArray.size:Int)).toNat=j:=by
      rw [seqIndex_neg (by lia) h4] at h1;rw [aag,← hl];exact aaM h1
    exact subscriptTail_builtinR (x:=w) pl.isList.typeIs slot_list_getitem.lookup
      (wpAny_getItem_list_neg (Q:=fun r s'=>r=w∧EP X pins σ Q r s') pl.isList (by lia) (by rw [aag] <;> lia) (by lia) (by rw [hj];simpa using ew) ⟨rfl,fin⟩) hs
theorem dE:IxR X (rW X.K):=by
  intro value slice pins s σ H x y v u Q I rx ry h hs;obtain ⟨p,xs,i,z,rfl,rfl,hq,he,q⟩:=h;cases rx;obtain ⟨t,rfl⟩:=ry;obtain ⟨its,r,pl,hz⟩:=I.tuple hq;obtain ⟨j,h1,h2,h3,h4,h5⟩:=jJ he;obtain ⟨w,ew,rw'⟩:=r.get h2;have hl:=r.length;have hn:=fj;have fin:EP X pins σ Q w s:=⟨z,H,I,rw',q⟩
  exact subscriptTail_builtinR (x:=w) pl.typeIs slot_tuple_getitem.lookup
    (getItem_tuple (j:=j) (Q:=fun r s'=>r=w∧EP X pins σ Q r s') pl (by lia) (by lia) (by rw [aag,← hl];exact h1) (by simpa using ew) ⟨rfl,fin⟩) hs
theorem sI:IxR X uC:=by
  intro value slice pins s σ H x y v u Q I rx ry h hs;obtain ⟨z,i,c,rfl,rfl,hz,he,q⟩:=h;obtain ⟨t,rfl⟩:=rx;obtain ⟨t',rfl⟩:=ry;obtain ⟨j,h1,h2,h3,h4,h5⟩:=jJ he;have hl:z.cps.toList.length=z.length:=by simp [Str.length]
  rw [hl] at h1 h4 h5;have hn:=fj;exact tail_any (typeIs_str s z t) slot_str_getitem.lookup (getItem_str (c:=c) (by
    have e1:decide (i < -(2 ^ 63:Int))=false:=decide_eq_false (by lia);have e2:decide (i ≥ 2 ^ 63)=false:=decide_eq_false (by lia);rw [e1,e2,Bool.or_false]) (by rw [h1];simpa using h2) ⟨.str ⟨#[c]⟩,H,I.tok _,⟨_,rfl⟩,q⟩) hs
theorem lW (its:List Value) (n j:Nat) (u:Value):aa0 (·.setIfInBounds j u) { cls:=.type "list",data:=.seq its.toArray n }={ cls:=.type "list",data:=.seq (its.set j u).toArray n }:=by
  simp [aa0]
theorem Inv.lst {pins:List (Addr × Obj)} {σ:St} {H:Hp} {s:Shared} {p:Addr} {xs:List V} (I:Inv X pins σ H s) (h:H p=some (.lst xs)) :
    ∃ (its:List Value) (n:Nat),Vals xs its∧s.heap.get? p=some { cls:=.type "list",data:=.seq its.toArray n }∧xs.length≤sizeLine:=by
  obtain ⟨z,its,n,r,e⟩:=I.hok p _ h;exact ⟨its,n,r,e,z⟩
theorem Inv.lstUpd {pins:List (Addr × Obj)} {σ:St} {H:Hp} {s:Shared} {p:Addr} {xs ys:List V} {its its':List Value} {n n':Nat} {f:Obj→Obj} (I:Inv X pins σ H s) (h:H p=some (.lst xs))
    (ho:s.heap.get? p=some { cls:=.type "list",data:=.seq its.toArray n }) (hf:f { cls:=.type "list",data:=.seq its.toArray n }={ cls:=.type "list",data:=.seq its'.toArray n' }) (r:Vals ys its') (hz:ys.length≤sizeLine) (t:Nat) :
    Inv X pins σ (upd H p (.lst ys)) { s with heap:=s.heap.update p f,toks:=t }:=by
  have e:(s.heap.update p f).get? p=some { cls:=.type "list",data:=.seq its'.toArray n' }:=by
    rw [Heap.get?_update_self f ho (by rw [hf] <;> rfl),hf]
  refine I.write (x:=p) (e:=p) (by rw [h];trivial) (.inl rfl) (fun b u hb q=>(Heap.get?_update_other _ _ (abt hb)).trans q) ⟨_,e⟩ ?_;exact ⟨hz,its',n',r,e⟩
def tH:V→V→V→Hp→(Hp→Prop)→Prop:=fun o i v H Q=>∃ p xs k j,o=.ref p∧i=.int k∧H p=some (.lst xs)∧ixN xs.length k=some j∧Q (upd H p (.lst (xs.set j v)))
theorem jU:t_ X tH:=by
  intro pins s σ H o i v ov iv u Q I ro ri rv h;obtain ⟨p,xs,k,j,rfl,rfl,hp,hj,q⟩:=h;cases ro;obtain ⟨t,rfl⟩:=ri;obtain ⟨its,n,r,ho,hz⟩:=I.lst hp;obtain ⟨h1,h2,h3,h4⟩:=mJ hj;have hl:=r.length;have hn:=fj;have I':Inv X pins σ (upd H p (.lst (xs.set j v))) { s with heap:=s.heap.update p (aa0 (·.setIfInBounds j u)) } :=
    I.lstUpd hp ho (lW its n j u) (r.set rv j) (by rw [List.length_set];exact hz) s.toks
  by_cases h0:0≤k
  · have hk:k.toNat=j:=by
      rw [seqIndex_of h0 h4] at h1;exact aaM h1
    exact PySem.W.ki_setAt ho h0 (by lia) (by rw [aag,← hl];exact h4) (by rw [hk];exact ⟨_,I',q⟩)
  · have hk:(k+(its.toArray.size:Int)).toNat=j:=by
      rw [seqIndex_neg (by lia) h3] at h1;rw [aag,← hl];exact aaM h1
    exact PySem.W.ki_setBack ho (by lia) (by rw [aag,← hl];exact h3) (by lia) (by rw [hk];exact ⟨_,I',q⟩)
theorem jb (lo hi:Option Int) (n:Nat):(sliceBounds lo hi none n).1=((HT.sIx n 0 lo:Nat):Int)∧(sliceBounds lo hi none n).2.1=((HT.sIx n n hi:Nat):Int)∧(sliceBounds lo hi none n).2.2=1:=by
  refine ⟨?_,?_,rfl⟩
  · cases lo with
    | none=>simp [sliceBounds,HT.sIx]
    | some i =>
      simp only [sliceBounds,HT.sIx,Option.getD_none,show (1:Int) > 0 by decide,if_true];by_cases h:i < 0
      · simp only [h,if_true] <;> lia
      · simp only [h,if_false] <;> lia
  · cases hi with
    | none=>simp [sliceBounds,HT.sIx]
    | some i =>
      simp only [sliceBounds,HT.sIx,Option.getD_none,show (1:Int) > 0 by decide,if_true];by_cases h:i < 0
      · simp only [h,if_true] <;> lia
      · simp only [h,if_false] <;> lia
theorem ic (its:List Value) (lo hi:Option Int):slicePick its.toArray lo hi none=((its.drop (HT.sIx its.length 0 lo)).take (HT.sIx its.length its.length hi - HT.sIx its.length 0 lo)).toArray:=by
  obtain ⟨h1,h2,h3⟩:=jb lo hi its.toArray.size;unfold slicePick;rw [h1,h2,h3];simp only [sliceRange_one,pick_run,aag] <;> rfl
def tG (K:aab):V→Option Int→Option Int→Hp→VK→Prop:=fun x lo hi H Q=>∃ a xs,x=.ref a∧SqL K H a xs∧∀ p,H p=none→Q (.ref p) (upd H p (.lst (dH xs lo hi)))
theorem gq:SlR X (tG X.K):=by
  intro pins s σ H x v vl vu lo hi sl Q I rx hs pl pu h;obtain ⟨a,xs,rfl,hx,q⟩:=h;cases rx;obtain ⟨its,r,ht,hz⟩:=I.list hx;have hlen:=r.length;refine ⟨"list",_,slot_list_getitem.lookup,ht.isList.typeIs,?_⟩;refine wpAny_getItem_list_slice ht.isList hs pl pu .none (by simp) ?_ (by rw [aag] <;> lia);rw [ic,← hlen];refine ⟨.ref s.heap.objs.size,_,I.laid (t':=s.toks) (o:=.lst (dH xs lo hi)) (fun b ob q=>aac _ q) (aah _) ?_,rfl,q _ (I.hok.fresh (aah _))⟩;exact ⟨aaJ (kW xs lo hi) hz,_,0,(r.drop (HT.sIx xs.length 0 lo)).take (HT.sIx xs.length xs.length hi - HT.sIx xs.length 0 lo),aar _ rfl⟩
def d_:V→Bool
  | .non=>true
  | .bl _=>true
  | .int _=>true
  | .str _=>true
  | _=>false
def eqV:V→V→Bool
  | .non,.non=>true
  | .bl a,.bl b=>a == b
  | .bl a,.int b=>(if a then 1 else 0) == b
  | .int a,.bl b=>a == (if b then 1 else 0)
  | .int a,.int b=>a == b
  | .str a,.str b=>a == b
  | _,_=>false
theorem pT {A:Around} {s:Shared} {y x:V} {u v:Value} (ry:RelV y u) (rx:RelV x v) (fy:d_ y=true) (fx:d_ x=true):SeqAt.EqAt A s u v (eqV y x):=by
  cases y with
  | non =>
    cases ry;cases x with
    | non=>cases rx;exact SeqAt.EqAt.same _
    | bl b=>cases rx;exact SeqAt.EqAt.none_bool b
    | int b=>obtain ⟨t,rfl⟩:=rx;exact SeqAt.EqAt.none_int b t
    | str b=>obtain ⟨t,rfl⟩:=rx;exact SeqAt.EqAt.none_str b t
    | _=>exact absurd (show false=true from fx) aae
  | bl a =>
    cases ry;cases x with
    | non=>cases rx;exact SeqAt.EqAt.bool_none a
    | bl b=>cases rx;exact SeqAt.EqAt.bool_bool a b
    | int b=>obtain ⟨t,rfl⟩:=rx;exact SeqAt.EqAt.bool_int a b t
    | str b=>obtain ⟨t,rfl⟩:=rx;exact SeqAt.EqAt.bool_str a b t
    | _=>exact absurd (show false=true from fx) aae
  | int a =>
    obtain ⟨t',rfl⟩:=ry;cases x with
    | non=>cases rx;exact SeqAt.EqAt.int_none a t'
    | bl b=>cases rx;exact SeqAt.EqAt.int_bool a t' b
    | int b=>obtain ⟨t,rfl⟩:=rx;exact SeqAt.EqAt.int_int a t' b t
    | str b=>obtain ⟨t,rfl⟩:=rx;exact SeqAt.EqAt.int_str a t' b t
    | _=>exact absurd (show false=true from fx) aae
  | str a =>
    obtain ⟨t',rfl⟩:=ry;cases x with
    | non=>cases rx;exact SeqAt.EqAt.str_none a t'
    | bl b=>cases rx;exact SeqAt.EqAt.str_bool a t' b
    | int b=>obtain ⟨t,rfl⟩:=rx;exact SeqAt.EqAt.str_int a t' b t
    | str b=>obtain ⟨t,rfl⟩:=rx;exact SeqAt.EqAt.str_str a t' b t
    | _=>exact absurd (show false=true from fx) aae
  | _=>exact absurd (show false=true from fy) aae
def eqU (x:V) (u:Value):Bool:=match u with
  | .none=>eqV .non x
  | .bool b=>eqV (.bl b) x
  | .int i _=>eqV (.int i) x
  | .str z _=>eqV (.str z) x
  | _=>false
theorem pP {x y:V} {u:Value} (r:RelV y u) (f:d_ y=true):eqU x u=eqV y x:=by
  cases y with
  | non=>cases r;rfl
  | bl b=>cases r;rfl
  | int i=>obtain ⟨t,rfl⟩:=r;rfl
  | str z=>obtain ⟨t,rfl⟩:=r;rfl
  | _=>exact absurd (show false=true from f) aae
theorem jK {x:V}:∀ {xs:List V} {us:List Value},Vals xs us→xs.all d_=true→us.any (eqU x)=xs.any fun y=>eqV y x
  | _,_,.nil,_=>rfl
  | y :: xs,u :: us,.cons r t,f=>by
    rw [List.all_cons,abe] at f;rw [abY,abY,pP r f.1,jK t f.2]
theorem gM {A:Around} {s:Shared} {x:V} {v:Value} (rx:RelV x v) (fx:d_ x=true):∀ {xs:List V} {us:List Value},Vals xs us→xs.all d_=true→∀ u∈us,SeqAt.EqAt A s u v (eqU x u)
  | _,_,.nil,_=>fun u hu=>by cases hu
  | y :: xs,u :: us,.cons r t,f=>fun u' hu=>by
    rw [List.all_cons,abe] at f;rcases aaj.mp hu with rfl|hu
    · rw [pP r f.1];exact pT r rx f.1 fx
    · exact gM rx fx t f.2 u' hu
def inV (x:V) (xs:List V):Bool:=xs.any fun y=>eqV y x
def rIn (K:aab) (neg:Bool):R2:=fun x y H Q=>∃ p xs,y=.ref p∧(SqL K H p xs∨SqT K H p xs)∧d_ x=true∧xs.all d_=true∧Q (.bl (if neg then !inV x xs else inV x xs)) H
theorem nA:OpR X (compareOp .In) (rIn X.K false):=by
  intro pins s σ H x y v u Q I rx ry h;obtain ⟨p,xs,rfl,hq,fx,fs,q⟩:=h;cases ry;rcases hq with hq|hq
  · obtain ⟨its,r,pl,hz⟩:=I.list hq;refine SeqAt.in_listAt (eqU x) pl.isList (fun w hw=>gM rx fx r fs w (by simpa using hw)) ⟨.bl _,H,I,rfl,?_⟩;rw [show its.toArray.any (eqU x)=its.any (eqU x) by simp,jK r fs];exact q
  · obtain ⟨its,r,pl,hz⟩:=I.tuple hq;refine SeqAt.in_tupleAt (eqU x) pl (fun w hw=>gM rx fx r fs w (by simpa using hw)) ⟨.bl _,H,I,rfl,?_⟩;rw [show its.toArray.any (eqU x)=its.any (eqU x) by simp,jK r fs];exact q
theorem bc:df X (.builtin "len") (fun xs H Q=>∃ p ys,xs=[.ref p]∧(SqL X.K H p ys∨SqT X.K H p ys)∧Q (.int ys.length) H):=by
  intro pins s σ H xs us Q I r h;obtain ⟨p,ys,rfl,hq,q⟩:=h;obtain ⟨u,rfl,rx⟩:=eK r;cases rx;have hn:=fj;rcases hq with hq|hq
  · obtain ⟨its,r',pl,hz⟩:=I.list hq;have hlen:=r'.length;exact Calls.call_len_list pl.isList (by simp only [aag] <;> lia) ⟨.int ys.length,H,I.tok _,⟨s.toks+1,by rw [aag,hlen]⟩,q⟩
  · obtain ⟨its,r',pl,hz⟩:=I.tuple hq;have hlen:=r'.length;exact len_tuple pl (by simp only [aag] <;> lia) ⟨.int ys.length,H,I.tok _,⟨s.toks+1,by rw [aag,hlen]⟩,q⟩
theorem jI:df X (.builtin "len") (fun xs H Q=>∃ z,xs=[.str z]∧z.length≤sizeLine∧Q (.int z.length) H):=by
  intro pins s σ H xs us Q I r h;obtain ⟨z,rfl,hz,q⟩:=h;obtain ⟨u,rfl,t,rfl⟩:=eK r;have hn:=fj;exact len_str (by lia) ⟨.int z.length,H,I.tok _,⟨_,rfl⟩,q⟩
theorem iy:df X (.type "tuple") (fun xs H Q=>∃ p ys,xs=[.ref p]∧((SqL X.K H p ys∧∀ l,H l=none→Q (.ref l) (upd H l (.tup ys)))∨(SqT X.K H p ys∧Q (.ref p) H))):=by
  intro pins s σ H xs us Q I r h;obtain ⟨p,ys,rfl,h⟩:=h;obtain ⟨u,rfl,rx⟩:=eK r;cases rx;rcases h with ⟨hq,q⟩|⟨hq,q⟩
  · obtain ⟨its,r',pl,hz⟩:=I.list hq;have hlen:=r'.length;refine call_tuple_list pl.isList (fun h' kp=>?_) (by simp only [aag] <;> lia);have I1:Inv X pins σ H { s with heap:=h' }:=I.kept (t':=s.toks) kp;have I2:Inv X pins σ (upd H h'.objs.size (.tup ys)) { s with heap:=h'.push { cls:=.type "tuple",data:=.seq its.toArray } } :=
      I1.laid (t':=s.toks) (fun b o e=>aac _ e) (aah _) (show ObjOk X.prog X.w _ _ _ (.tup ys) from ⟨hz,its,r',IsTup.new _ _⟩)
    exact ⟨.ref h'.objs.size,_,I2,rfl,q _ (I1.hok.fresh (aah _))⟩
  · obtain ⟨its,r',pl,hz⟩:=I.tuple hq;exact call_tuple_same pl ⟨.ref p,H,I,rfl,q⟩
def tyV (K:aab) (T:String) (x:V) (H:Hp):Prop:=match x with
  | .str _=>T = "str"
  | .int _=>T = "int"
  | .ref p=>(T = "list"∧∃ xs,SqL K H p xs)∨(T = "tuple"∧∃ o,K.lookup p=some o∧o.cls=.type "tuple"∧o.dict=none) ∨
      (T = "dict"∧((∃ kvs,H p=some (.dK kvs))∨∃ kvs,H p=some (.dT kvs)))∨(T = "set"∧∃ S n,H p=some (.set S n))
  | _=>False
theorem rF {pins:List (Addr × Obj)} {σ:St} {H:Hp} {s:Shared} {T:String} {x:V} {v:Value} (I:Inv X pins σ H s) (r:RelV x v) (ty:tyV X.K T x H) :
    s.TypeIs v T∧∀ a,v=.ref a→∃ ob,s.heap.get? a=some ob∧ob.dict=none:=by
  cases x with
  | str z =>
    obtain ⟨t,rfl⟩:=r;cases (show T = "str" from ty);exact ⟨typeIs_str s z t,fun _ e=>nomatch e⟩
  | int i =>
    obtain ⟨t,rfl⟩:=r;cases (show T = "int" from ty);exact ⟨typeIs_int s i t,fun _ e=>nomatch e⟩
  | ref p =>
    cases r;rcases ty with ⟨rfl,xs,hq⟩|⟨rfl,o,hk,hc,hd⟩|⟨rfl,hk⟩|⟨rfl,S,n,hk⟩
    · obtain ⟨its,_,pl,_⟩:=I.list hq;refine ⟨pl.isList.typeIs,fun a e=>?_⟩;cases e;obtain ⟨o,n,e,c,hd,_⟩:=pl;exact ⟨o,e,hd⟩
    · refine ⟨⟨o,I.kIn p o hk,hc⟩,fun a e=>?_⟩;cases e;exact ⟨o,I.kIn _ o hk,hd⟩
    · have z:∃ o,s.heap.get? p=some o∧o.ExactDict:=by
        rcases hk with ⟨kvs,hk⟩|⟨kvs,hk⟩
        · obtain ⟨_,_,_,_,o,_,_,e,ex,_⟩:=I.hok p _ hk;exact ⟨o,e,ex⟩
        · obtain ⟨_,_,_,_,o,_,_,e,ex,_⟩:=I.hok p _ hk;exact ⟨o,e,ex⟩
      obtain ⟨o,e,ex⟩:=z;refine ⟨⟨o,e,ex.1⟩,fun a e2=>?_⟩;cases e2;exact ⟨o,e,ex.2.1⟩
    · obtain ⟨o,_,_,_,e,ex,_⟩:=I.hok p _ hk;refine ⟨⟨o,e,ex.1⟩,fun a e2=>?_⟩;cases e2;exact ⟨o,e,ex.2.1⟩
  | _=>exact aa2 ty
def tBM (K:aab) (T:String) (r:V→List V→Hp→VK→Prop) (to:TE) (t:TA):TE:=fun σ H Q=>to σ H fun x H1=>tyV K T x H1∧t σ H1 fun xs H2=>r x xs H2 Q
variable {o e:Expr} {es:List Expr} {to:TE} {t:TA} {name:Str} {apos cpos:Pos} {T id:String} {r:V→List V→Hp→VK→Prop}
theorem gG (pa:PlainAttrs T) (slot:Slot T name id) (hty:typeOf (.builtin id)=pure (.type "method_descriptor")) (hm:MtR X id r) (ho:PE X o to) (ha:PA X (e :: es) t)
    (hbase:attributeBase o name X.env (eval o X.env)=eval o X.env:=by rfl)
    (hfew:((backTo cpos (starEach (e :: es) X.env)).all (fun x=>!x.1) && (backToKw cpos (keywordEach [] X.env)).all (fun x=>x.1.isSome)
      && decide ((e :: es).length+([]:List Keyword).length+(if ([]:List Keyword).isEmpty then 0 else 1) < 30))=true:=by rfl)
    (hline:(apos.endLine == cpos.line)=true:=by rfl) (hs:starEach (e :: es) X.env=(false,eval e X.env) :: starEach es X.env:=by rfl) (hplain:(backTo cpos (starEach es X.env)).any (·.1)=false:=by rfl) :
    PE X (.Call (.Attribute o name apos) (e :: es) [] cpos) (tBM X.K T r to t):=by
  intro pins s σ H Q I h;refine wpAny_Call_method_late hbase hfew hline rfl (thn (ho pins s σ H _ I h) fun v s1 ⟨x,H1,I1,r1,ty,q1⟩=>?_);obtain ⟨h1,h2⟩:=rF I1 r1 ty;refine ⟨T,id,pa,slot,hty,h1,h2,?_⟩;have hA:=ha cpos pins s1 σ H1 _ I1 q1;rw [hs] at hA ⊢;refine Calls.callWith_builtin (by show (false || (backTo cpos (starEach es X.env)).any (·.1))=false;rw [hplain] <;> rfl) (Calls.evalArgs_plain ?_);exact thn hA fun us s2 ⟨vs,H2,I2,r2,q2⟩=>hm pins s2 σ H2 x vs v us Q I2 r1 r2 q2
end
open PySem PySem.Spec PyProof.Rows
def MtM (X:Cx) (id:String) (r:V→List V→Hp→VK→Prop):Prop :=
  ∀ (pins:List (Addr × Obj)) (s:Shared) (σ:St) (H:Hp) (x:V) (xs:List V) (v:Value) (us:List Value) (Q:VK),Inv X pins σ H s→RelV x v→Vals xs us→r x xs H Q →
    wpAny (model X.prog X.w) X.A (call (.builtin id) (v :: us)) (EP X pins σ Q) X.xe s
theorem Vals.one:∀ {x:V} {us:List Value},Vals [x] us→∃ u,us=[u]∧RelV x u
  | _,_,.cons r .nil=>⟨_,rfl,r⟩
theorem Vals.rep {xs:List V} {us:List Value} (h:Vals xs us):∀ k:Nat,Vals (aat k xs).flatten (aat k us).flatten
  | 0=>.nil
  | k+1=>by
    rw [abi,abi,abN,abN];exact Vals.append h (Vals.rep h k)
theorem iW (its:List Value):∀ (k:Nat) (acc:List Value),
    List.foldl (fun x1 x2=>x1++x2) acc.toArray (aat k its.toArray)=(acc++(aat k its).flatten).toArray
  | 0,acc=>by simp
  | k+1,acc=>by
    have e:acc.toArray++its.toArray=(acc++its).toArray:=by simp
    have e2:(acc++its)++(aat k its).flatten=acc++(aat (k+1) its).flatten:=by
      rw [abi,abN,abB]
    rw [← e2,← iW its k (acc++its),← e,abi,List.foldl_cons]
section
variable {X:Cx} {pins:List (Addr × Obj)} {σ:St} {H:Hp} {s:Shared} {l b:Addr} {xs ys zs:List V}
theorem Inv.lset {its its':List Value} {n:Nat} {f:Array Value→Array Value} {t':Nat} (I:Inv X pins σ H s) (hH:H l=some (.lst xs))
    (e:s.heap.get? l=some { cls:=.type "list",data:=.seq its.toArray n }) (hf:f its.toArray=its'.toArray) (hv:Vals ys its') (hz:ys.length≤sizeLine) :
    Inv X pins σ (upd H l (.lst ys)) { s with heap:=s.heap.update l (aa0 f),toks:=t' }:=by
  have q:=PySem.IsL.update e f;rw [hf] at q;refine I.write (x:=l) (e:=l) (by rw [hH];exact trivial) (.inl rfl) (fun b' u hb hu=>(Heap.get?_update_other s.heap (aa0 f) (abt hb)).trans hu) ⟨_,q⟩ ?_;exact ⟨hz,its',_,hv,q⟩
theorem Inv.lnew {its:List Value} {t':Nat} (I:Inv X pins σ H s) (hv:Vals ys its) (hz:ys.length≤sizeLine) :
    Inv X pins σ (upd H s.heap.objs.size (.lst ys)) { s with heap:=s.heap.push { cls:=.type "list",data:=.seq its.toArray },toks:=t' } :=
  I.laid (fun _ _ q=>aac _ q) (aah _) ⟨hz,its,0,hv,aar _ rfl⟩
theorem Inv.fresh (I:Inv X pins σ H s):H s.heap.objs.size=none:=I.hok.fresh (aah _)
theorem Inv.lstM (I:Inv X pins σ H s) (hH:H l=some (.lst xs)):xs.length≤sizeLine∧∃ (its:List Value) (n:Nat),Vals xs its∧xs.length=its.length∧s.heap.get? l=some { cls:=.type "list",data:=.seq its.toArray n }:=by
  obtain ⟨z,its,n,r,e⟩:=I.hok l _ hH;exact ⟨z,its,n,r,r.length,e⟩
theorem o5 {n:Nat} (h:n≤sizeLine):abV n=false:=by
  unfold abV;exact decide_eq_false (by lia)
end
section
variable {X:Cx}
def qq:V→List V→Hp→VK→Prop:=fun x vs H Q=>∃ l xs y,x=.ref l∧vs=[y]∧H l=some (.lst xs)∧xs.length < sizeLine∧Q .non (upd H l (.lst (xs++[y])))
theorem dq:MtM X "list.append" qq:=by
  intro pins s σ H x vs v us Q I rx rv h;obtain ⟨l,xs,y,rfl,rfl,hH,hz,q⟩:=h;cases rx;obtain ⟨u,rfl,ru⟩:=rv.one;obtain ⟨z,its,n,r,hl,e⟩:=I.lstM hH;refine call_meets F.slot_list_append ⟨_,e,rfl⟩ F.entry_list_append (F.args_list_append_2 _ _) (PySem.list_append l its.toArray n u (by rw [aag];lia)) ⟨e,?_⟩;refine ⟨.non,_,I.lset (its':=its++[u]) hH e (by simp) (r.append (.cons ru .nil)) ?_,rfl,q⟩;rw [aao,abL];lia
def uG:R2:=fun x y H Q=>∃ l b xs zs,x=.ref l∧y=.ref b∧H l=some (.lst xs)∧H b=some (.lst zs)∧xs.length+zs.length≤sizeLine∧∀ p,H p=none→Q (.ref p) (upd H p (.lst (xs++zs)))
theorem dl:OpR X (binaryOp .Add) uG:=by
  intro pins s σ H x y v u Q I rx ry h;obtain ⟨l,b,xs,zs,rfl,rfl,hH,hB,hz,q⟩:=h;cases rx;cases ry;obtain ⟨z,its,n,r,hl,e⟩:=I.lstM hH;obtain ⟨z2,its2,n2,r2,hl2,e2⟩:=I.lstM hB;refine PySem.P.add_list e e2 ?_ (by rw [aag,aag];lia);have ea:its.toArray++its2.toArray=(its++its2).toArray:=by simp
  rw [ea];exact ⟨.ref _,_,I.lnew (t':=s.toks) (r.append r2) (by rw [aao];lia),rfl,q _ I.fresh⟩
def uB:R2:=fun x y H Q=>∃ l k xs,x=.ref l∧y=.int k∧H l=some (.lst xs)∧-(2 ^ 63)≤k∧k < 2 ^ 63∧xs.length * k.toNat≤sizeLine ∧
  ∀ p,H p=none→Q (.ref p) (upd H p (.lst (aat k.toNat xs).flatten))
theorem mG {α:Type} (xs:List α) (k:Nat):(aat k xs).flatten.length=k * xs.length:=by
  induction k with
  | zero=>simp
  | succ k ih=>rw [abi,abN,aao,ih,Nat.succ_mul,Nat.add_comm]
theorem oZ:OpR X (binaryOp .Mult) uB:=by
  intro pins s σ H x y v u Q I rx ry h;obtain ⟨l,k,xs,rfl,rfl,hH,h1,h2,hz,q⟩:=h;cases rx;obtain ⟨t,rfl⟩:=ry;obtain ⟨z,its,n,r,hl,e⟩:=I.lstM hH;have hlen:its.toArray.size * k.toNat≤sizeLine:=by rw [aag,← hl];exact hz
  have hcap:¬ its.toArray.size * k.toNat > (2 ^ 63 - 1) / 8:=by
    have : (sizeLine:Nat)≤(2 ^ 63 - 1) / 8:=by decide
    lia
  have hfit:¬ (!Builtin.List.listFitsIndex k)=true:=by
    rw [fitsIndex_both h1 h2];exact aae
  have hlong:¬ abV (its.toArray.size * k.toNat)=true:=by
    rw [o5 hlen];exact aae
  have hnew:List.foldl (fun x1 x2=>x1++x2) #[] (aat (if its.toArray.isEmpty=true then 0 else k.toNat) its.toArray)=(aat k.toNat its).flatten.toArray:=by
    have f0:∀ m:Nat,List.foldl (fun x1 x2=>x1++x2) #[] (aat m its.toArray)=(aat m its).flatten.toArray:=fun m=>by
      have:=iW its m [];rw [List.nil_append] at this;exact this
    rw [f0];cases its with
    | nil=>simp
    | cons a r'=>rw [if_neg (by simp)]
  refine wpAny_binaryOp_repeat_ref (T:="list") (U:="int") (by decide) ⟨_,e,rfl⟩ (fun s'=>typeIs_int s' k t) noFill_list_mul F.fills_int_mul F.slot_int_rmul repeat_list F.slot_int_index.lookup
    (call_meets F.slot_int_rmul (typeIs_int s k t) F.entry_int_rmul (F.args_int_rmul_2 _ _) (int___rmul___int_list k t l its.toArray n)
      ⟨e,rfl,⟨_,e,rfl⟩,call_meets F.slot_list_mul ⟨_,e,rfl⟩ F.entry_list_mul (F.args_list_mul_2 _ _) (AutoListH.list___mul___list_int_3 l its.toArray n k t hfit hcap hlong) ⟨e,?_⟩⟩)
  rw [hnew];exact ⟨.ref _,_,I.lnew (t':=s.toks) (r.rep k.toNat) (by rw [mG,Nat.mul_comm];exact hz),rfl,q _ I.fresh⟩
end
section
variable {prog:Program} {w:World} {A:Around} {E:Value→Shared→Prop} {s:Shared}
end
section
variable {X:Cx}
end
end L2
namespace Att
open PySem PySem.W PySem.Calls PyProof.Rows
theorem gn {P:Params} {h:Heap}:∀ (ns:List Int) (vs:List Value),WellAll P h vs (ns.map WData.int)→IntsAre vs ns:=by
  intro ns
  induction ns with
  | nil =>
    intro vs w;rw [abW] at w;cases w;exact .nil
  | cons n ns ih =>
    intro vs w;rw [aaH] at w;cases w with
    | cons a b =>
      cases a;exact .cons _ _ (ih _ b)
theorem m_ {l:OpenLaw} {n:Nat} (hn:l.most=some n) {P:Params} {h:Heap} {args:List WData} {vals:List Value}
    (hpre:l.row.toRowW.claim.pre args=true) (hwl:WellAll P h vals args) :
    ∃ a vs ns,vals=[Value.ref a]∧args=[WData.list (ns.map WData.int)]∧h.get? a=some { cls:=.type "list",data:=.seq vs.toArray }∧IntsAre vs ns∧ns.length≤n:=by
  have hsh:WShape.hasAll [] args [.list .int]=true:=(pre_splitW hpre).1;have hc:l.pre.holds [] { args:=args }=true:=(pre_splitW hpre).2;obtain ⟨d,r,rfl,h1,h2⟩:=hasAllW_cons hsh;obtain rfl:=hasAllW_nil h2;obtain ⟨xs,rfl,h3⟩:=hasW_list h1;obtain ⟨ns,rfl⟩:=items_int h3;have hlen:ns.length≤n:=by
    unfold OpenLaw.pre at hc;have h4:(WTm.not (.lt (.lit (.int (n:Int))) (.len (.arg 0)))).holds [] { args:=[.list (ns.map .int)] }=true:=by
      have h4:=(holds_andW hc).1;rw [hn] at h4;exact h4
    have h5:=condW_of h4 (w_not (w_lt w_lit (w_len_list (w_arg rfl))));rw [aan] at h5;refine Nat.le_of_not_lt fun q=>?_;have q':(n:Int) < ((ns.length:Nat):Int):=by lia
    first
      | (rw [decide_eq_true q'] at h5;exact absurd h5 (by decide))
      | (simp at h5;lia)
  cases hwl with
  | cons w1 w2 =>
    cases w2;cases w1 with
    | list ho hall=>exact ⟨_,_,ns,rfl,rfl,ho,gn ns _ hall,hlen⟩
theorem nh (l:OpenLaw) (args:List WData):l.row.toRowW.claim.post args (.bool true) args=true :=
  postW_of (r:=l.row.toRowW) (X:=(true == true))
    (show WShape.has [] (.bool true) .bool=true by first|rfl|decide|simp [WShape.has,WShape.arms,WShape.armsAll])
    (show (WTm.eq .res (.lit (.bool true))).value [] { args:=args,res:=some (.bool true),after:=args }=some (.bool (true == true)) from w_eq_bool (w_res rfl) w_lit) rfl
theorem attach_call {l:OpenLaw} {n:Nat} {q:Program} {loose:List Str} {XP:(Str→Option Value)→Heap→Prop} {YP:World→Heap→Prop} {d:DefRec}
    (hn:l.most=some n) (hdf:d.params.defaults=[])
    (call:∀ (w:World) (s₀ s₁:Shared) (mg mb:Str→Option Value) (fa:Addr) (o:Obj) (pm cd doc:Value) (a:Addr) (vs:List Value) (ns:List Int),
      Ground q loose [] XP w s₀ mg mb s₁.heap→YP w s₁.heap →
      s₁.heap.get? fa=some o→o.data=.func (docDef d.name d.params d.body d.scope pm cd doc)→s₁.heap.CodeRec cd d.name→mg d.name=some (.ref fa) →
      s₁.heap.get? a=some { cls:=.type "list",data:=.seq vs.toArray }→IntsAre vs ns→ns.length≤n→s₁.gens=#[] →
      codeAny (model l.prog w) callerA (.call (.ref fa) ⟨[.ref a],[]⟩) (fun r s'=>r=.ok (.ret (.bool true))∧OldK s₁.heap s'.heap∧s'.os=s₁.os∧AllBare s'.gens) s₁) :
    WalkO q loose XP YP l.row.toRowW d [] (fun f vs=>PySem.call f vs):=by
  intro w s₀ s₁ mg mb G Y fa o pm cd doc dV kV ho hd hcd hD hmg hg args vals as hpre hlay hrd hwl hlo;obtain rfl:dV=.none:=Dflts.none hD hdf;obtain rfl:kV=.none:=Dflts.noKw hD;obtain ⟨a,vs,ns,rfl,rfl,hobj,hints,hlen⟩:=m_ hn hpre hwl;refine enter_call (codeAny_mono (call w s₀ s₁ mg mb fa o pm cd doc a vs ns G Y ho (fd_plain hd) hcd hmg hobj hints hlen hg) fun r s' hq=>?_);obtain ⟨rfl,h2,h3,h4⟩:=hq;exact ⟨.inl ⟨.bool true,.bool true,[],rfl,fun _=>rfl,.bool true,nh l _,fun _=>⟨List.Pairwise.nil,fun _ hm=>(nomatch hm)⟩⟩,h2,h3,h4⟩
section
variable {prog:Program} {w:World} {A:Around} {E:Value→Shared→Prop} {s:Shared} {K:Frag}
end
end Att
namespace L2
open PySem PySem.Spec PyProof.Rows
theorem iA:∀ {vs:List Value} {ns:List Int},IntsAre vs ns→Vals (ns.map V.int) vs
  | _,_,.nil=>.nil
  | _,_,.cons n t h=>.cons ⟨t,rfl⟩ (iA h)
def uR (H:Hp):Prop:=∀ b,H b=none∨∃ o xs,H b=some (.frz o (.lst xs))
open PySem PySem.Spec PyProof.Rows
open PySem PySem.Spec PyProof.Rows
def bi (s:Stmt):Arguments:=match s with
  | .FunctionDef _ a _ _ _ _ _ _ _ _=>a
  | _=>{ posonlyargs:=[],args:=[],vararg:=none,kwonlyargs:=[],kw_defaults:=[],kwarg:=none,defaults:=[] }
def aQ (s:Stmt):List Stmt:=match s with
  | .FunctionDef _ _ b _ _ _ _ _ _ _=>b
  | _=>[]
def ai (s:Stmt):Scope:=match s with
  | .FunctionDef _ _ _ _ _ _ sc _ _ _=>sc
  | _=>{ kind:=.function,names:=[],isGenerator:=false,isCoroutine:=false }
abbrev CX0:CXT:=fun _ _ _ _ _ _=>False
abbrev E0:XK:=fun _ _ _=>False
theorem oX {X:Cx}:gb CX0 X E0:=fun _ _ _ _ _ _ _ h=>h.elim
structure Fun (K:aab) (x qual:Str) (st:Stmt) (f:Addr) (fd:FuncData):Prop where
  ex:∃ (oc:Value) (od:Option Addr) (kV doc pm:Value) (an:Option Addr) (cdv ct:Value) (osl:Array (Option Value)),
    fd=aaP x qual (bi st) (aQ st) (ai st) .none kV doc pm an cdv ct∧K.lookup f=some ⟨oc,od,.func fd,osl⟩∧aba K cdv qual=true
  kp:aaO K (.ref f)=true
section
variable {P:Program} {w:World} {K:aab} {mg:Str→Option Value} {base:Heap}
theorem Fun.ok {x qual:Str} {st:Stmt} {f:Addr} {fd:FuncData} {N ps:List Str} {k:Nat} {sp:Sp} (F:Fun K x qual st f fd) (S:FnScope N ps (ai st)) (len:∀ vs H Q E,sp vs H Q E→vs.length=ps.length)
    (hbody:∀ (cdv:Value) (A:Around) (outer:List Env) (s:Shared) (H:Hp) (vs:List V) (Q:VK) (E:XK),Room k (A.deeper (envOfC qual (ai st) s.heap.objs.size f cdv))→sp vs H Q E →
      ∃ t,PSs (eJ CX0 P w K mg base N qual (ai st) f cdv A outer s H E).nox (aQ st) t∧t { nx:=fun _ H'=>Q .non H',rt:=Q } (start N vs) H):FnOk P w K mg base CX0 (k+1) f fd ps sp:=by
  obtain ⟨oc,od,kV,doc,pm,an,cdv,ct,osl,rfl,lk,hcd⟩:=F.ex;refine mM lk hcd S len fun A outer s H vs Q E hr hsp=>?_;obtain ⟨t,h,q⟩:=hbody cdv A outer s H vs Q E hr hsp;exact ⟨t,h.nox,q⟩
theorem Fun.binds {x qual:Str} {st:Stmt} {f:Addr} {fd:FuncData} {ps:List Str} (F:Fun K x qual st f fd)
    (h:∀ (kV doc pm:Value) (an:Option Addr) (cdv ct:Value) (us:List Value),us.length=ps.length→bindArgs (aaP x qual (bi st) (aQ st) (ai st) .none kV doc pm an cdv ct) ⟨us,[]⟩=pure (ps.zip us)):Binds K fd ps []:=by
  obtain ⟨oc,od,kV,doc,pm,an,cdv,ct,osl,rfl,lk,hcd⟩:=F.ex;exact .all (h kV doc pm an cdv ct)
theorem pI {x qual:Str} {st:Stmt} {f:Addr} {oc:Value} {od an:Option Addr} {osl:Array (Option Value)} {kV doc pm cdv ct:Value} (l:K.lookup f=some ⟨oc,od,.func (aaP x qual (bi st) (aQ st) (ai st) .none kV doc pm an cdv ct),osl⟩)
    (c:aba K cdv qual=true) (k:aaO K (.ref f)=true):Fun K x qual st f (aaP x qual (bi st) (aQ st) (ai st) .none kV doc pm an cdv ct):=⟨⟨oc,od,kV,doc,pm,an,cdv,ct,osl,rfl,l,c⟩,k⟩
end
theorem aU {n:Nat} (h:n≤1000):n < sizeLine:=ab1 h (by decide)
section
variable {X:Cx}
theorem pv (i:Nat) {x:Str} {pos:Pos} (hN:X.N[i]?=some x:=by rfl) (hv:Vis X.env.scope x:=by first|exact Or.inl rfl|exact Or.inr (Or.inl rfl)|exact Or.inr (Or.inr rfl)) (hd:(x == ("__debug__":Str))=false:=by decide)
    (hcd:(x == ("__classdict__":Str))=false:=by decide):PE X (.Name x pos) (rK i):=sf hN hv hd hcd
end
theorem bH {A B:Prop} (h:B):if false=true then A else B:=by
  rw [if_neg aae];exact h
theorem eI {A B:Prop} (h:A):if true=true then A else B:=by
  rw [if_pos rfl];exact h
theorem iq {c A B:Prop} [Decidable c] (h1:c→A) (h2:¬ c→B):if c then A else B:=by
  by_cases h:c
  · rw [if_pos h];exact h1 h
  · rw [if_neg h];exact h2 h
theorem tS {c A B:Prop} [Decidable c] (hc:c) (h:B):if (!decide c)=true then A else B:=by
  rw [decide_eq_true hc];exact bH h
def Same (H H':Hp):Prop:=∀ b o,H b=some o→H' b=some o
theorem Same.refl (H:Hp):Same H H:=fun _ _ h=>h
theorem Same.trans {H H1 H2:Hp} (a:Same H H1) (b:Same H1 H2):Same H H2:=fun c o h=>b c o (a c o h)
theorem Same.free {H H':Hp} (e:Same H H') {l:Addr} (h:H' l=Option.none):H l=Option.none:=by
  cases q:H l with
  | none=>rfl
  | some o =>
    rw [e l o q] at h;cases h
theorem Same.seq {K:aab} {H H':Hp} {a:Addr} {xs:List V} (e:Same H H') (h:SqL K H a xs):SqL K H' a xs:=by
  rcases h with (h|⟨o,h⟩)|h
  · exact .inl (.inl (e _ _ h))
  · exact .inl (.inr ⟨o,e _ _ h⟩)
  · exact .inr h
open PySem PySem.Spec PyProof.Rows
section
variable {κ:Type} [DecidableEq κ]
def cx (kvs:List (κ × V)) (k:κ):Option V:=(kvs.find? fun kv=>decide (kv.1=k)).map (·.2)
def cX (kvs:List (κ × V)) (k:κ) (v:V):List (κ × V) :=
  if (kvs.any fun kv=>decide (kv.1=k))=true then kvs.map (fun kv=>if kv.1=k then (kv.1,v) else kv) else kvs++[(k,v)]
theorem bO {p:κ × V} {r:List (κ × V)} {k:κ} (e:p.1=k):cx (p :: r) k=some p.2:=by simp [cx,abv,e]
theorem bP {p:κ × V} {r:List (κ × V)} {k:κ} (e:¬ p.1=k):cx (p :: r) k=cx r k:=by simp [cx,abv,e]
theorem fk (k:κ):∀ kvs:List (κ × V),(kvs.any fun kv=>decide (kv.1=k))=(cx kvs k).isSome
  | []=>rfl
  | p :: r=>by
    rw [abY];by_cases e:p.1=k
    · simp only [bO e,decide_eq_true e,Bool.true_or,Option.isSome_some]
    · rw [bP e,decide_eq_false e,Bool.false_or];exact fk k r
theorem jO (k j:κ) (y:V):∀ kvs:List (κ × V),cx (kvs.map fun kv=>if kv.1=k then (kv.1,y) else kv) j=(cx kvs j).map fun x=>if j=k then y else x
  | []=>rfl
  | p :: r=>by
    have ih:=jO k j y r;rw [aaH];by_cases h:p.1=k
    · rw [if_pos h];by_cases e:p.1=j
      · rw [bO (p:=(p.1,y)) e,bO e,ab2,if_pos (e.symm.trans h)]
      · rw [bP (p:=(p.1,y)) e,bP e,ih]
    · rw [if_neg h];by_cases e:p.1=j
      · rw [bO (p:=p) e,bO e,ab2,if_neg (fun z=>h (e.trans z))]
      · rw [bP (p:=p) e,bP e,ih]
theorem iB (k j:κ) (y:V):∀ kvs:List (κ × V),cx kvs k=none→cx (kvs++[(k,y)]) j=if j=k then some y else cx kvs j
  | [],_=>by
    by_cases e:k=j
    · rw [if_pos e.symm];exact bO (p:=(k,y)) e
    · rw [if_neg (fun z=>e z.symm)];exact bP (p:=(k,y)) e
  | p :: r,hn=>by
    rw [abx];have hk:¬ p.1=k:=fun z=>by rw [bO z] at hn;cases hn
    rw [bP hk] at hn;have ih:=iB k j y r hn;by_cases e:p.1=j
    · rw [bO e,bO e,if_neg (fun z=>hk (e.trans z))]
    · rw [bP e,bP e,ih]
theorem jN (kvs:List (κ × V)) (k j:κ) (y:V):cx (cX kvs k y) j=if j=k then some y else cx kvs j:=by
  unfold cX;by_cases a:(kvs.any fun kv=>decide (kv.1=k))=true
  · rw [if_pos a,jO];rw [fk] at a;by_cases e:j=k
    · obtain ⟨x,hx⟩:=aa8.mp a;rw [if_pos e,e,hx,ab2,if_pos rfl]
    · rw [if_neg e];cases cx kvs j with
      | none=>rfl
      | some x=>rw [ab2,if_neg e]
  · rw [if_neg a];refine iB k j y kvs ?_;rw [fk] at a;cases q:cx kvs k with
    | none=>rfl
    | some x=>rw [q] at a;exact (a rfl).elim
theorem cD (kvs:List (κ × V)) (k:κ) (v:V):(cX kvs k v).length≤kvs.length+1:=by
  unfold cX;split
  · rw [aan];lia
  · rw [aao,aaB,aaV];lia
theorem RelO.isSome_eq {o:Option V} {u:Option Value} (r:RelO o u):o.isSome=u.isSome:=by
  cases o with
  | none=>cases u with
    | none=>rfl
    | some _=>exact (show False from r).elim
  | some _=>cases u with
    | none=>exact (show False from r).elim
    | some _=>rfl
theorem KV.val {kvs:List (κ × V)} {vs:List (κ × Value)} (r:KV kvs vs) (k:κ):RelO (cx kvs k) (valueAt vs k):=by
  unfold KV at r
  induction r with
  | nil=>exact True.intro
  | @cons p q ps qs h t ih =>
    obtain ⟨h1,h2⟩:=h;by_cases e:p.1=k
    · have e':q.1=k:=h1.symm.trans e;have b:valueAt (q :: qs) k=some q.2:=by simp [valueAt,abv,e']
      rw [bO e,b];exact h2
    · have e':¬ q.1=k:=fun z=>e (h1.trans z);have b:valueAt (q :: qs) k=valueAt qs k:=by simp [valueAt,abv,e']
      rw [bP e,b];exact ih
theorem KV.any {kvs:List (κ × V)} {vs:List (κ × Value)} (r:KV kvs vs) (k:κ):(kvs.any fun kv=>decide (kv.1=k))=vs.any fun kv=>decide (kv.1=k):=by
  unfold KV at r
  induction r with
  | nil=>rfl
  | cons h t ih=>rw [abY,abY,ih,h.1]
theorem KV.repl {kvs:List (κ × V)} {vs:List (κ × Value)} (r:KV kvs vs) (k:κ) {y:V} {u:Value} (ry:RelV y u) :
    KV (kvs.map fun kv=>if kv.1=k then (kv.1,y) else kv) (vs.map fun kv=>if kv.1=k then (kv.1,u) else kv):=by
  unfold KV at r ⊢
  induction r with
  | nil=>exact .nil
  | @cons p q ps qs h t ih =>
    rw [aaH,aaH];refine .cons ?_ ih;obtain ⟨h1,h2⟩:=h;by_cases e:p.1=k
    · rw [if_pos e,if_pos (h1.symm.trans e)];exact ⟨h1,ry⟩
    · rw [if_neg e,if_neg (fun z=>e (h1.trans z))];exact ⟨h1,h2⟩
theorem KV.put {kvs:List (κ × V)} {vs:List (κ × Value)} (r:KV kvs vs) (k:κ) {y:V} {u:Value} (ry:RelV y u):KV (cX kvs k y) (stored vs k u):=by
  unfold cX stored;rw [r.any k];by_cases e:(vs.any fun kv=>decide (kv.1=k))=true
  · rw [if_pos e,if_pos e];exact r.repl k ry
  · rw [if_neg e,if_neg e];exact Paired.snoc r ⟨rfl,ry⟩
theorem KV.length {kvs:List (κ × V)} {vs:List (κ × Value)} (r:KV kvs vs):kvs.length=vs.length:=abk r
end
theorem kI {P:Program} {w:World} {k:Key} {u:Value} (r:RelV (kV k) u):(aK P w).is k u=true:=by
  cases k with
  | inl i=>obtain ⟨t,e⟩:=(show ∃ t,u=Value.int i t from r);subst e;exact kz P w i t
  | inr x=>obtain ⟨t,e⟩:=(show ∃ t,u=Value.str x t from r);subst e;exact kw P w x t
theorem iS {P:Program} {w:World}:∀ {ks:List Key} {us:List Value},Vals (ks.map kV) us→ItemsAre (aK P w) ks us
  | [],_,r=>by rw [abW] at r;cases r;exact .nil
  | k :: ks,_,r=>by
    rw [aaH] at r;cases r with
    | cons h t=>exact .cons (kI h) (iS t)
abbrev KT (H:Hp):List (List Key × V)→List (List Key × Addr × Value)→Prop:=Paired fun p q=>p.1=q.1∧H q.2.1=some (.tup (p.1.map kV))∧RelV p.2 q.2.2
theorem KT.val {H:Hp} {kvs:List (List Key × V)} {xs:List (List Key × Addr × Value)} (r:KT H kvs xs) (k:List Key):RelO (cx kvs k) ((atKey xs k).map (·.2)):=by
  induction r with
  | nil=>exact True.intro
  | @cons p q ps qs h t ih =>
    obtain ⟨h1,_,h2⟩:=h;by_cases e:p.1=k
    · have e':q.1=k:=h1.symm.trans e;have b:atKey (q :: qs) k=some q.2:=by simp [atKey,abv,e']
      rw [bO e,b];exact h2
    · have e':¬ q.1=k:=fun z=>e (h1.trans z);have b:atKey (q :: qs) k=atKey qs k:=by simp [atKey,abv,e']
      rw [bP e,b];exact ih
theorem KT.repl {H:Hp} {kvs:List (List Key × V)} {xs:List (List Key × Addr × Value)} (r:KT H kvs xs) (k:List Key) {y:V} {u:Value} (ry:RelV y u) :
    KT H (kvs.map fun kv=>if kv.1=k then (kv.1,y) else kv) (xs.map (putAt k u)):=by
  induction r with
  | nil=>exact .nil
  | @cons p q ps qs h t ih =>
    rw [aaH,aaH];refine .cons ?_ ih;obtain ⟨h1,h2,h3⟩:=h;unfold putAt;by_cases e:p.1=k
    · rw [if_pos e,if_pos (h1.symm.trans e)];exact ⟨h1,h2,ry⟩
    · rw [if_neg e,if_neg (fun z=>e (h1.trans z))];exact ⟨h1,h2,h3⟩
theorem KT.put {H:Hp} {kvs:List (List Key × V)} {xs:List (List Key × Addr × Value)} (r:KT H kvs xs) (k:List Key) {b:Addr} {y:V} {u:Value} (hb:H b=some (.tup (k.map kV))) (ry:RelV y u) :
    KT H (cX kvs k y) (storedH xs k b u):=by
  have e:(kvs.any fun kv=>decide (kv.1=k))=(atKey xs k).isSome:=by
    rw [fk,(r.val k).isSome_eq,Option.isSome_map]
  unfold cX storedH;rw [e];by_cases q:(atKey xs k).isSome=true
  · rw [if_pos q,if_pos q];exact r.repl k ry
  · rw [if_neg q,if_neg q];exact Paired.snoc r ⟨rfl,hb,ry⟩
theorem KT.keeps {H H':Hp} {kvs:List (List Key × V)} {xs:List (List Key × Addr × Value)} (r:KT H kvs xs) (ht:∀ b ys,H b=some (.tup ys)→H' b=some (.tup ys)):KT H' kvs xs :=
  Paired.mapP r fun _ _ z=>⟨z.1,ht _ _ z.2.1,z.2.2⟩
section
variable {P:Program} {w:World} {H:Hp} {h:Heap} {a:Addr}
theorem qZ {u:HO} (ok:HOk P w H h) (e:Rd H a u):ObjOk P w H h a u:=e.ok ok
theorem pW {kvs:List (Key × V)} (ok:HOk P w H h) (e:Rd H a (.dK kvs)):kvs.length≤sizeLine∧(a == sysModules)=false∧∃ vs,KV kvs vs∧h.DictOf (aK P w) a vs :=
  show ObjOk P w H h a (.dK kvs) from qZ ok e
theorem mR {kvs:List (Key × V)} (ok:HOk P w H h) (e:H a=some (.dK kvs)):kvs.length≤sizeLine∧(a == sysModules)=false∧∃ vs,KV kvs vs∧h.DictOf (aK P w) a vs:=pW ok (.inl e)
theorem jy {ks:List Key} (ok:HOk P w H h) (e:H a=some (.tup (ks.map kV))):(tupleKind (aK P w)).is h ks a:=by
  obtain ⟨_,its,r,o,h1,h2,n,h3⟩:=(show ObjOk P w H h a (.tup (ks.map kV)) from ok a _ e)
  exact ⟨o,its.toArray,n,h1,h2,h3,by simpa using iS r⟩
theorem pV {kvs:List (List Key × V)} (ok:HOk P w H h) (e:Rd H a (.dT kvs)):kvs.length≤sizeLine∧(a == sysModules)=false ∧
    ∃ xs,KT H kvs xs∧h.DictOfH (tupleKind (aK P w)) a xs:=by
  obtain ⟨z,y,xs,r,o,es,ep,h1,h2,h3,h4,h5⟩:=(show ObjOk P w H h a (.dT kvs) from qZ ok e)
  refine ⟨z,y,xs,r,o,es,ep,h1,h2,h3,h4,fun x hx=>?_,h5⟩;have all:∀ {l:List (List Key × V)} {m:List (List Key × Addr × Value)},KT H l m→∀ x∈m,(tupleKind (aK P w)).is h x.1 x.2.1:=by
    intro l m q
    induction q with
    | nil=>intro x hx;exact nomatch hx
    | @cons p q ps qs hq t ih =>
      intro x hx;rcases aaj.mp hx with e|hx
      · subst e;exact jy ok (by rw [← hq.1];exact hq.2.1)
      · exact ih x hx
  exact all r x hx
theorem rp {kvs:List (List Key × V)} (ok:HOk P w H h) (e:H a=some (.dT kvs)):kvs.length≤sizeLine∧(a == sysModules)=false ∧
    ∃ xs,KT H kvs xs∧h.DictOfH (tupleKind (aK P w)) a xs:=pV ok (.inl e)
end
def DGet (H:Hp) (a:Addr) (y:V) (r:Option V):Prop :=
  (∃ kvs k,Rd H a (.dK kvs)∧y=kV k∧r=cx kvs k)∨∃ kvs k b,Rd H a (.dT kvs)∧y=.ref b∧H b=some (.tup (k.map kV))∧r=cx kvs k
def DPut (H:Hp) (a:Addr) (y v:V) (H':Hp):Prop :=
  (∃ kvs k,H a=some (.dK kvs)∧y=kV k∧kvs.length < sizeLine∧H'=upd H a (.dK (cX kvs k v))) ∨
  ∃ kvs k b,H a=some (.dT kvs)∧y=.ref b∧H b=some (.tup (k.map kV))∧kvs.length < sizeLine∧H'=upd H a (.dT (cX kvs k v))
theorem DGet.t {H:Hp} {a b:Addr} {kvs:List (List Key × V)} {k:List Key} (e:H a=some (.dT kvs)) (eb:H b=some (.tup (k.map kV))):DGet H a (.ref b) (cx kvs k):=.inr ⟨kvs,k,b,.inl e,rfl,eb,rfl⟩
theorem DPut.t {H:Hp} {a b:Addr} {kvs:List (List Key × V)} {k:List Key} {v:V} (e:H a=some (.dT kvs)) (eb:H b=some (.tup (k.map kV))) (hl:kvs.length < sizeLine) :
    DPut H a (.ref b) v (upd H a (.dT (cX kvs k v))):=.inr ⟨kvs,k,b,e,rfl,eb,hl,rfl⟩
section
variable {X:Cx} {pins:List (Addr × Obj)} {σ:St} {H:Hp} {s:Shared} {a:Addr} {y v:V} {u r:Value} {o:Option V} {A:Around} {E:Value→Shared→Prop}
theorem Inv.big (I:Inv X pins σ H s):sysModules < s.heap.objs.size:=by
  have h:mainGlobals < s.heap.objs.size:=(I.mod.glob.keeps I.bk).lt;exact Nat.lt_trans (by decide) h
theorem n9 {Q:Value→Shared→Prop} (hu:A.units+1 < cLine) (I:Inv X pins σ H s) (g:DGet H a y (some v)) (ry:RelV y u) (h:∀ w' s',Inv X pins σ H s'→RelV v w'→Q w' s') :
    wpAny (model X.prog X.w) A (getItem (.ref a) u) Q E s:=by
  rcases g with ⟨kvs,k,e,ey,l⟩|⟨kvs,k,b,e,ey,eb,l⟩
  · subst ey;obtain ⟨z,hd,vs,rel,dd⟩:=pW I.hok e;obtain ⟨w',hw,rw'⟩:=RelO.some_of (v:=v) (o:=valueAt vs k) (by rw [l];exact rel.val k);exact wpAny_getItem_of (kI ry) dd.mapOf hw (h w' _ (I.tok _) rw')
  · subst ey;cases (show u=Value.ref b from ry);obtain ⟨z,hd,xs,rel,dd⟩:=pV I.hok e;obtain ⟨w',hw,rw'⟩:=RelO.some_of (v:=v) (o:=(atKey xs k).map (·.2)) (by rw [l];exact rel.val k);obtain ⟨p,hp,hp2⟩:=ab5.mp hw;refine wpAny_getItem_heap (tupleKind_room_in1 hu) (jy I.hok eb) dd hp ?_;rw [hp2];exact h w' _ (I.tok _) rw'
theorem fG {h':Heap} {t':Nat} {ob:HO} (I:Inv X pins σ H s) (mu:Mut (H a)) (hs:abz a s.heap h') (he:∃ q,h'.get? a=some q) (new:ObjOk X.prog X.w (upd H a ob) h' a ob) :
    Inv X pins σ (upd H a ob) { s with heap:=h',toks:=t' } :=
  I.write (x:=a) (e:=a) mu (.inl rfl) (fun b q hb z=>(hs.2 b hb).trans z) he new
theorem l_ {P:Program} {w:World} {H':Hp} {h':Heap} {kvs:List (Key × V)} {vs:List (Key × Value)} (z:kvs.length≤sizeLine) (hd:(a == sysModules)=false) (rel:KV kvs vs) (dd:h'.DictOf (aK P w) a vs) :
    ObjOk P w H' h' a (.dK kvs):=⟨z,hd,vs,rel,dd⟩
theorem n8 {H':Hp} {Q:Unit→Shared→Prop} (hu:A.units+1 < cLine) (I:Inv X pins σ H s) (g:DPut H a y v H') (ry:RelV y u) (rv:RelV v r) (h:∀ s',Inv X pins σ H' s'→Q () s') :
    wpAny (model X.prog X.w) A (setItem (.ref a) u r) Q E s:=by
  rcases g with ⟨kvs,k,e,ey,l,eH⟩|⟨kvs,k,b,e,ey,eb,l,eH⟩
  · subst ey eH;obtain ⟨z,hd,vs,rel,dd⟩:=mR I.hok e;have hz:vs.length≤sizeLine:=by rw [← rel.length];exact z
    have hl:(cX kvs k v).length≤sizeLine:=by have:=cD kvs k v;lia
    refine wpAny_setItem_pairs (hsz:=hz) (kI ry) dd fun h' dd' hs=>h _ ?_;have he:∃ q,h'.get? a=some q:=let ⟨q,_,_,hq,_⟩:=dd';⟨q,hq⟩;exact fG I (by rw [e];exact True.intro) hs he (l_ hl hd (rel.put k rv) dd')
  · subst ey eH;cases (show u=Value.ref b from ry);obtain ⟨z,hd,xs,rel,dd⟩:=rp I.hok e;have hz:xs.length≤sizeLine:=by rw [← abk rel];exact z
    have hl:(cX kvs k v).length≤sizeLine:=by have:=cD kvs k v;lia
    refine wpAny_setItem_heap (hsz:=hz) (tupleKind_room_in1 hu) (jy I.hok eb) dd fun h' dd' hs=>h _ ?_;obtain ⟨q,es,ep,hq,h2,h3,h4,_,h5⟩:=dd';refine fG I (by rw [e];exact True.intro) hs ⟨q,hq⟩ ⟨hl,hd,_,(rel.put k eb rv).keeps fun c ys ec=>?_,q,es,ep,hq,h2,h3,h4,h5⟩;rw [aj (rh ec e (fun z=>nomatch z))];exact ec
end
section
variable {X:Cx} {pins:List (Addr × Obj)} {σ:St} {H:Hp} {s:Shared} {a:Addr} {kvs:List (Key × V)} {k:Key} {u:Value} {A:Around} {E:Value→Shared→Prop}
end
def ua (i:Expr):Prop:=∀ ov iv,subscripted i false ov iv=operate [ov,iv] (getItem ov iv)
theorem qm {prog:Program} {w:World} {A:Around} {E:Value→Shared→Prop} {s:Shared} {env:Env} {value slice:Expr} {pos:Pos} {T id:String} {Q:Value→Shared→Prop}
    (hl:typeLookup (.type T) "__getitem__" = pure (some (.builtin id))) (hs:ua slice)
    (h:wpAny (model prog w) A (eval value env) (fun o s₁=>wpAny (model prog w) A (eval slice env) (fun i s₂=>s₂.TypeIs o T∧wpAny (model prog w) A (getItem o i) Q E s₂) E s₁) E s) :
    wpAny (model prog w) A (eval (.Subscript value slice pos) env) Q E s:=by
  refine Subscript_ (wpAny_mono h (fun o s₁ h₁=>wpAny_mono h₁ (fun i s₂ h₂=>?_) fun _ _ x=>x) fun _ _ x=>x);obtain ⟨hT,h₂⟩:=h₂;unfold subscriptTail;refine wpAny_bind ?_;rw [getitemInPython_of_ne hT.not_modules];refine wpAny_bind (wpAny_specialOf hT hl ?_);have fin:wpAny (model prog w) A (subscripted slice false o i) (fun r s₃=>wpAny (model prog w) A (letTemporaryGo value o r >>= fun _=>pure r) Q E s₃) E s₂:=by
    rw [hs o i];exact wpAny_operating (wpAny_mono h₂ (fun r s₃ h₃=>wpAny_bind (wpAny_letTemporaryGo (wpAny_pure h₃))) fun _ _ x=>x)
  first
    | exact wpAny_pure (wpAny_bind fin)
    | exact wpAny_bind (wpAny_pure (wpAny_bind fin))
    | exact wpAny_bind fin
theorem kT {X:Cx} {pins:List (Addr × Obj)} {σ:St} {H:Hp} {s:Shared} {a:Addr} {y:V} {o:Option V} (I:Inv X pins σ H s) (g:DGet H a y o):s.TypeIs (.ref a) "dict":=by
  rcases g with ⟨kvs,k,e,_,_⟩|⟨kvs,k,b,e,_,_,_⟩
  · obtain ⟨_,_,vs,_,dd⟩:=pW I.hok e;exact dd.typeIs
  · obtain ⟨_,_,xs,_,dd⟩:=pV I.hok e;exact dd.typeIs
def tq (td ty:TE):TE:=fun σ H Q=>td σ H fun x H1=>ty σ H1 fun y H2=>∃ a v,x=.ref a∧DGet H2 a y (some v)∧Q v H2
def tF (td ty tv:TE):TS:=fun D σ H=>tv σ H fun v H1=>td σ H1 fun x H2=>ty σ H2 fun y H3=>∃ a H4,x=.ref a∧DPut H3 a y v H4∧D.nx σ H4
section
variable {X:Cx} {o i e value:Expr} {pos pos' tpos:Pos} {td ty tv:TE}
theorem jh (hu:X.A.units+1 < cLine) (ho:PE X o td) (hi:PE X i ty) (hs:ua i):PE X (.Subscript o i pos) (tq td ty):=by
  intro pins s σ H Q I h;refine qm PySem.F.slot_dict_getitem.lookup hs (thn (ho pins s σ H _ I h) fun u s1 ⟨x,H1,I1,rx,q1⟩=>thn (hi pins s1 σ H1 _ I1 q1) fun iv s2 ⟨y,H2,I2,ry,a,v,ex,g,q2⟩=>?_);subst ex;obtain rfl:u=Value.ref a:=rx;exact ⟨kT I2 g,n9 hu I2 g ry fun w' s3 I3 rw'=>⟨v,H2,I3,rw',q2⟩⟩
theorem qv (hu:X.A.units+1 < cLine) (ho:PE X o td) (hi:PE X i ty) (hv:PE X value tv) (hs:swapsWith value (some (.Subscript o i pos')) pos.line X.env=pure false) :
    PS X (.Assign [.Subscript o i pos'] value pos) (tF td ty tv):=by
  intro pins s σ H D I h;refine wpAny_Assign_Subscript (thn (hv pins s σ H _ I h) fun r s1 ⟨v,H1,I1,rv,q1⟩=>thn (ho pins s1 σ H1 _ I1 q1) fun u s2 ⟨x,H2,I2,rx,q2⟩=>thn (hi pins s2 σ H2 _ I2 q2) fun iv s3 ⟨y,H3,I3,ry,a,H4,ex,g,q3⟩=>?_) hs;subst ex;obtain rfl:u=Value.ref a:=rx;exact n8 hu I3 g ry rv fun s4 I4=>⟨σ,H4,I4,q3⟩
end
theorem g8 {P:Program} {w:World} {H:Hp} (h:Heap) (hb:sysModules < h.objs.size):ObjOk P w H (h.push { cls:=.type "dict",data:=.dict #[] }) h.objs.size (.dK []) :=
  ⟨aaQ _,beq_eq_false_iff_ne.mpr (abt (aaq hb)),[],.nil,Heap.DictOf.new h⟩
theorem kS {P:Program} {w:World} {H:Hp} (h:Heap) (hb:sysModules < h.objs.size):ObjOk P w H (h.push { cls:=.type "dict",data:=.dict #[] }) h.objs.size (.dT []) :=
  ⟨aaQ _,beq_eq_false_iff_ne.mpr (abt (aaq hb)),[],.nil,_,#[],0,aar _ rfl,⟨rfl,rfl,rfl⟩,rfl,rfl,List.nodup_nil⟩
def rN:TE:=fun _ H Q=>∀ p,H p=none→Q (.ref p) (upd H p (.dK []))
def rM:TE:=fun _ H Q=>∀ p,H p=none→Q (.ref p) (upd H p (.dT []))
section
variable {X:Cx} {pos:Pos}
theorem gF:PE X (.Dict [] [] pos) rN:=fun pins s σ H Q I h =>
  wpAny_Dict_empty ⟨.ref s.heap.objs.size,_,I.laid (a:=s.heap.objs.size) (o:=.dK []) (t':=s.toks) (fun _ _ q=>aac _ q) (aah _) (g8 s.heap I.big),rfl,h _ (I.hok.fresh (aah _))⟩
theorem oU:PE X (.Dict [] [] pos) rM:=fun pins s σ H Q I h =>
  wpAny_Dict_empty ⟨.ref s.heap.objs.size,_,I.laid (a:=s.heap.objs.size) (o:=.dT []) (t':=s.toks) (fun _ _ q=>aac _ q) (aah _) (kS s.heap I.big),rfl,h _ (I.hok.fresh (aah _))⟩
end
def lq:List (TE × TE)→St→Hp→(List (V × V)→Hp→Prop)→Prop
  | [],_,H,Q=>Q [] H
  | (tk,tv) :: r,σ,H,Q=>tk σ H fun x H1=>tv σ H1 fun y H2=>lq r σ H2 fun ps H3=>Q ((x,y) :: ps) H3
abbrev VV:List (V × V)→List (Value × Value)→Prop:=Paired fun p q=>RelV p.1 q.1∧RelV p.2 q.2
def PPs (X:Cx) (pos:Pos) (keys:List (Option Expr)) (values:List Expr) (trs:List (TE × TE)):Prop :=
  ∀ (pins:List (Addr × Obj)) (s:Shared) (σ:St) (H:Hp) (Q:List (V × V)→Hp→Prop),Inv X pins σ H s→lq trs σ H Q →
    wpAny (model X.prog X.w) X.A (evalPairs (pairTrees keys values X.env pos)) (fun vs s'=>∃ ps H',Inv X pins σ H' s'∧VV ps vs∧Q ps H') X.xe s
theorem qx {X:Cx} {pos:Pos}:PPs X pos [] [] []:=fun pins s σ H Q I h=>pairTrees_nil_walk ⟨[],H,I,.nil,h⟩
theorem oN {X:Cx} {pos:Pos} {k v:Expr} {ks:List (Option Expr)} {vs:List Expr} {tk tv:TE} {trs:List (TE × TE)} (hk:PE X k tk) (hv:PE X v tv) (hr:PPs X pos ks vs trs) :
    PPs X pos (some k :: ks) (v :: vs) ((tk,tv) :: trs):=fun pins s σ H Q I h =>
  pairTrees_cons_walk (thn (hk pins s σ H _ I h) fun u s1 ⟨x,H1,I1,rx,q1⟩=>thn (hv pins s1 σ H1 _ I1 q1) fun w2 s2 ⟨y,H2,I2,ry,q2⟩ =>
    thn (hr pins s2 σ H2 _ I2 q2) fun ws s3 ⟨ps,H3,I3,rel,q3⟩=>⟨(x,y) :: ps,H3,I3,.cons ⟨rx,ry⟩ rel,q3⟩)
def fV (kvs more:List (Key × V)):List (Key × V):=more.foldl (fun acc kv=>cX acc kv.1 kv.2) kvs
theorem KV.merge:∀ {more:List (Key × V)} {rs:List (Key × Value)} {kvs:List (Key × V)} {vs:List (Key × Value)},KV more rs→KV kvs vs→KV (fV kvs more) (merged vs rs):=by
  intro more rs kvs vs r;unfold KV at r
  induction r generalizing kvs vs with
  | nil=>intro q;exact q
  | @cons p q ps qs h t ih =>
    intro r0;have e:KV (cX kvs p.1 p.2) (stored vs q.1 q.2):=by
      have:=r0.put p.1 h.2;rw [← h.1];exact this
    exact ih e
theorem eV:∀ (more kvs:List (Key × V)),(fV kvs more).length≤kvs.length+more.length
  | [],kvs=>by show kvs.length≤kvs.length+0;lia
  | p :: r,kvs=>by
    have h1:=eV r (cX kvs p.1 p.2);have h2:=cD kvs p.1 p.2;show (fV (cX kvs p.1 p.2) r).length≤_;rw [aaB];lia
theorem hV {P:Program} {w:World}:∀ {kvs:List (Key × V)} {ws:List (Value × Value)},VV (kvs.map fun kv=>(kV kv.1,kv.2)) ws→∃ rs,Carries (aK P w) ws rs∧KV kvs rs
  | [],_,r=>by rw [abW] at r;cases r;exact ⟨[],True.intro,.nil⟩
  | p :: kvs,_,r=>by
    rw [aaH] at r;cases r with
    | @cons a b as bs h t =>
      obtain ⟨rs,c,q⟩:=hV (P:=P) (w:=w) t;obtain ⟨b1,b2⟩:=b;exact ⟨(p.1,b2) :: rs,⟨kI h.1,rfl,c⟩,.cons ⟨rfl,h.2⟩ q⟩
def tm (trs:List (TE × TE)):TE:=fun σ H Q=>∀ p,H p=none→lq trs σ (upd H p (.dK [])) fun ps H2=>H2 p=some (.dK [])∧∃ kvs:List (Key × V),ps=kvs.map (fun kv=>(kV kv.1,kv.2))∧kvs.length≤15∧Q (.ref p) (upd H2 p (.dK (fV [] kvs)))
theorem qz {X:Cx} {pos:Pos} {keys:List (Option Expr)} {values:List Expr} {trs:List (TE × TE)} (h:PPs X pos keys values trs) (hall:keys.all (·.isSome)=true) (hl:keys.length=values.length) (h0:keys≠[])
    (h15:keys.length≤15):PE X (.Dict keys values pos) (tm trs):=by
  intro pins s σ H Q I q;have hn:=I.hok.fresh (aah s.heap.objs.size);have I1:=I.laid (a:=s.heap.objs.size) (o:=.dK []) (h':=s.heap.push { cls:=.type "dict",data:=.dict #[] }) (t':=s.toks) (fun _ _ q=>aac _ q) (aah _) (g8 s.heap I.big);refine wpAny_Dict_walk (knd:=aK X.prog X.w) hall hl h0 h15 (thn (h pins _ σ _ _ I1 (q _ hn)) fun ws s2 ⟨ps,H2,I2,rel,e,kvs,ep,lk,q2⟩=>?_);subst ep;obtain ⟨rs,c,rk⟩:=hV (P:=X.prog) (w:=X.w) rel;obtain ⟨z,hd,vs0,r0,dd⟩:=mR I2.hok e;cases r0;refine ⟨rs,c,dd,fun h' dd' hs=>⟨.ref s.heap.objs.size,_,?_,rfl,q2⟩⟩;have hz:(fV [] kvs).length≤sizeLine:=by
    have h1:=eV kvs [];rw [aaV] at h1;rw [sizeLine_eq];lia
  have he:∃ q,h'.get? s.heap.objs.size=some q:=let ⟨q,_,_,hq,_⟩:=dd';⟨q,hq⟩;exact fG I2 (by rw [e];exact True.intro) hs he (l_ hz hd (rk.merge .nil) dd')
structure M1 (X:Cx) (o:Expr) (m:Str) (apos:Pos) (e:Expr) (cpos:Pos):Prop where
  base:attributeBase o m X.env (eval o X.env)=eval o X.env
  few:((backTo cpos (starEach [e] X.env)).all (fun x=>!x.1) && (backToKw cpos (keywordEach [] X.env)).all (fun x=>x.1.isSome)
    && decide (([e]:List Expr).length+([]:List Keyword).length+(if ([]:List Keyword).isEmpty then 0 else 1) < 30))=true
  line:(apos.endLine == cpos.line)=true
  trees:backTo cpos (starEach [e] X.env)=[(false,eval e X.env)]
structure M2 (X:Cx) (o:Expr) (m:Str) (apos:Pos) (e f:Expr) (cpos:Pos):Prop where
  base:attributeBase o m X.env (eval o X.env)=eval o X.env
  few:((backTo cpos (starEach [e,f] X.env)).all (fun x=>!x.1) && (backToKw cpos (keywordEach [] X.env)).all (fun x=>x.1.isSome)
    && decide (([e,f]:List Expr).length+([]:List Keyword).length+(if ([]:List Keyword).isEmpty then 0 else 1) < 30))=true
  line:(apos.endLine == cpos.line)=true
  trees:backTo cpos (starEach [e,f] X.env)=[(false,eval e X.env),(false,eval f X.env)]
section
variable {X:Cx} {pins:List (Addr × Obj)} {σ:St} {H:Hp} {s:Shared} {a:Addr} {y d:V} {u r:Value} {o:Option V} {A:Around} {E:Value→Shared→Prop}
end
section
variable {X:Cx} {o e f:Expr} {apos cpos:Pos} {td ty tx:TE}
end
section
variable {X:Cx} {pins:List (Addr × Obj)} {σ:St} {H:Hp} {s:Shared} {a:Addr} {kvs:List (Key × V)} {A:Around} {E:Value→Shared→Prop}
end
section
variable {X:Cx} {pins:List (Addr × Obj)} {σ:St} {H:Hp} {s:Shared} {a:Addr} {y:V} {u:Value} {A:Around} {E:Value→Shared→Prop}
end
open PySem PySem.Spec PyProof.Rows
section
variable {X:Cx}
end
section
variable {κ:Type} [DecidableEq κ]
end
end L2
set_option maxHeartbeats 4000000
namespace L2
open PySem PySem.Spec PyProof.Rows
theorem Inv.adopt {X:Cx} {pins:List (Addr × Obj)} {σ:St} {H:Hp} {s:Shared} {a:Addr} {o:HO} (I:Inv X pins σ H s) (hn:H a=none) (hs:X.s₀.heap.objs.size≤a) (hL:a≠X.env.locals) (hC:∀ x c,X.env.cells.lookup x=some c→c≠a) (hp:∀ p∈X.pn++pins,p.1≠a)
    (new:ObjOk X.prog X.w (upd H a o) s.heap a o):Inv X pins σ (upd H a o) s:=by
  have ne:∀ b u,X.s₀.heap.get? b=some u→b≠a:=fun b u e=>aaq (aam (aaf e) hs);refine ⟨I.ok,I.os,I.bare,⟨I.base.keep,I.base.slot,fun b u e n hx=>?_,I.base.there,fun b xs e=>?_,fun b u xs e=>?_,fun b ps e=>?_⟩,I.loc,I.cell,?_,fun x c e=>?_,fun p hq=>?_,fun b u e=>?_,I.len⟩
  · rw [aj (ne b u e)];exact I.base.free b u e n hx
  · have q:=I.base.tups b xs e;rw [aj (ak q hn)];exact q
  · have q:=I.base.frzs b u xs e;rw [aj (ak q hn)];exact q
  · obtain ⟨m,q⟩:=I.base.tbls b ps e;exact ⟨m,by rw [aj (ak q hn)];exact q⟩
  · rw [aj (abt hL)];exact I.free
  · rw [aj (hC x c e)];exact I.freeC x c e
  · obtain ⟨h1,h2,h3⟩:=I.pin p hq;exact ⟨h1,by rw [aj (hp p hq)];exact h2,h3⟩
  · by_cases hb:b=a
    · subst hb;rw [ac] at e;cases e;exact new
    · rw [aj hb] at e;exact (I.hok b u e).stay (fun c v _ q=>q) (fun c q=>by rw [aj (ak q hn)];exact q) fun c xs q=>by rw [aj (ak q hn)];exact q
def CellsIn (E:Env):List (Str × Addr)→Prop
  | []=>True
  | p :: r=>E.cells.lookup p.1=some p.2∧CellsIn E r
theorem CellsIn.get {E:Env}:∀ {cl:List (Str × Addr)} {x:Str} {c:Addr},CellsIn E cl→cl.lookup x=some c→E.cells.lookup x=some c:=by
  intro cl x c h e;have hm:=aaU e;clear e
  induction cl with
  | nil=>exact nomatch hm
  | cons p r ih =>
    rcases aaj.mp hm with q|q
    · have:=h.1;rw [← q] at this;exact this
    · exact ih h.2 q
def CapOk (XE:Env) (sc:Scope) (XN:List Str):List Str→List (Option Nat)→Prop
  | [],[]=>True
  | _ :: n,none :: c=>CapOk XE sc XN n c
  | x :: n,some i :: c=>(XN[i]?=some x∧(XE.kindOf x=some .cell∨XE.kindOf x=some .free)∧(sc.names.lookup x=some .cell∨sc.names.lookup x=some .free))∧CapOk XE sc XN n c
  | _,_=>False
def sQ (σ:St) (o:Option Nat):Option V:=match o with
  | none=>none
  | some i=>(σ[i]?).join
def aI (cap:List (Option Nat)) (σ:St):St:=cap.map (sQ σ)
theorem CapOk.len {XE:Env} {sc:Scope} {XN:List Str}:∀ {n:List Str} {c:List (Option Nat)},CapOk XE sc XN n c→c.length=n.length
  | [],[],_=>rfl
  | _ :: _,none :: _,h=>congrArg (·+1) (CapOk.len (n:=_) (c:=_) h)
  | _ :: _,some _ :: _,h=>congrArg (·+1) (CapOk.len h.2)
  | [],_ :: _,h=>(show False from h).elim
  | _ :: _,[],h=>(show False from h).elim
theorem CapOk.get {XE:Env} {sc:Scope} {XN:List Str} {σ:St}:∀ {n:List Str} {c:List (Option Nat)} {j:Nat} {x:Str} {v:V},CapOk XE sc XN n c→n[j]?=some x→(aI c σ)[j]?=some (some v) →
    ∃ i:Nat,XN[i]?=some x∧σ[i]?=some (some v)∧(XE.kindOf x=some .cell∨XE.kindOf x=some .free)∧(sc.names.lookup x=some .cell∨sc.names.lookup x=some .free)
  | [],[],_,_,_,_,h,_=>by simp at h
  | y :: n,none :: c,0,x,v,_,_,e=>by simp [aI,sQ] at e
  | y :: n,none :: c,j+1,x,v,h,h1,e=>CapOk.get (n:=n) (c:=c) (j:=j) h (by simpa using h1) (by simpa [aI] using e)
  | y :: n,some i :: c,0,x,v,h,h1,e=>by
    simp at h1;subst h1;refine ⟨i,h.1.1,?_,h.1.2⟩;simp only [aI,sQ,aaH,List.getElem?_cons_zero] at e;cases q:σ[i]? with
    | none=>rw [q] at e;simp at e
    | some w=>rw [q] at e;simp at e;rw [e]
  | y :: n,some i :: c,j+1,x,v,h,h1,e=>CapOk.get (n:=n) (c:=c) (j:=j) h.2 (by simpa using h1) (by simpa [aI] using e)
  | [],_ :: _,_,_,_,h,_,_=>(show False from h).elim
  | _ :: _,[],_,_,_,h,_,_=>(show False from h).elim
def ah (X:Cx) (scope:Scope) (cl:List (Str × Addr)) (NY:List Str) (fp:List Addr) (s:Shared) (H:Hp) (C:Addr):Cx where
  prog:=X.prog
  w:=X.w
  K:=X.K
  mg:=X.mg
  base:=X.base
  A:=X.A
  N:=NY
  s₀:=s
  H₀:=H
  env:=compEnvC scope cl C X.env
  outer:=X.stack
  stack:=X.stack
  ex:=fp
  fn:=fun _=>false
  calm:=X.calm
  pn:=[]
  xe:=fun _ _=>False
def gp (X:Cx) (ifs:List Expr) (t:TT):Prop :=
  ∀ (pins:List (Addr × Obj)) (s:Shared) (σ:St) (H:Hp) (Q:Bool→Hp→Prop),Inv X pins σ H s→t σ H Q →
    wpAny (model X.prog X.w) X.A (forIn ifs true fun c r=>if r=true then do let ok ← isTrue c X.env (eval c X.env);pure (ForInStep.yield ok) else pure (ForInStep.yield r)) (TP X pins σ Q) X.xe s
theorem bY {X:Cx}:gp X [] (fun _ H Q=>Q true H):=fun _ _ _ H _ I h=>wpAny_tests_nil ⟨H,I,h⟩
theorem gD {X:Cx} {c:Expr} {t:TT} (h:PT X c t):gp X [c] t:=fun pins s σ H Q I q=>wpAny_tests_one (h pins s σ H Q I q)
theorem iY {prog:Program} {w:World} {A:Around} {R:Result→Shared→Prop} {s:Shared} {elt target iter:Expr} {ifs:List Expr} {scope:Scope} {pos:Pos} {it acc:Value} {env:Env} (J:Nat→Shared→Prop)
    (turn:∀ n s,J n s→wpAny (model prog w) A (pyNext it) (fun r s₁=>match r with
      | none=>R (.ok .next) s₁
      | some v=>wpAny (model prog w) A (letOwnedTupleGo target it v) (fun _ s₁'=>wpAny (model prog w) A (assign target env v) (fun _ s₂ =>
          wpAny (model prog w) A (forIn ifs true fun c r=>if r=true then do let ok ← isTrue c env (eval c env);pure (ForInStep.yield ok) else pure (ForInStep.yield r)) (fun ok s₃ =>
            if ok=true then wpAny (model prog w) A (eval elt env) (fun x s₄ =>
              wpAny (model prog w) A (call (.builtin "list.append") [acc,x]) (fun _ s₅=>∃ m,m < n∧J m s₅) (fun _ _=>False) s₄) (fun _ _=>False) s₃
            else ∃ m,m < n∧J m s₃) (fun _ _=>False) s₂) (fun _ _=>False) s₁') (fun _ _=>False) s₁) (fun _ _=>False) s)
    (n:Nat) (h:J n s) :
    codeAny (model prog w) A (.compLoop (.ListComp elt [⟨target,iter,ifs,0⟩] scope pos) 0 it acc env) R s:=by
  refine codeAny_loop rfl J (fun n s hI=>?_) n h;show wpAny _ A ((compTurn (.ListComp elt [⟨target,iter,ifs,0⟩] scope pos) 0 it acc env).onRaise (fun x=>do noteFrame x env;theTreesLotGoes x)) _ _ s;refine wpAny_noted ?_;rw [compTurn_list];refine wpAny_bind (wpAny_standAt (wpAny_bind (wpAny_mono (turn n s hI) (fun r s₁ h₁=>?_) fun _ _ h'=>h'.elim)));cases r with
  | none=>exact wpAny_pure h₁
  | some v =>
    refine wpAny_bind (wpAny_mono h₁ (fun _ s₁' h₁'=>?_) fun _ _ h'=>h'.elim);refine wpAny_bind (wpAny_mono h₁' (fun _ s₂ h₂=>wpAny_bind (wpAny_mono h₂ (fun ok s₃ h₃=>?_) fun _ _ h'=>h'.elim)) fun _ _ h'=>h'.elim);cases ok with
    | false=>exact wpAny_pure ⟨rfl,h₃⟩
    | true =>
      exact wpAny_bind (wpAny_bind (wpAny_mono h₃ (fun x s₄ h₄=>wpAny_bind (wpAny_mono h₄ (fun _ s₅ h₅=>wpAny_pure (wpAny_pure ⟨rfl,h₅⟩)) fun _ _ h'=>h'.elim)) fun _ _ h'=>h'.elim))
abbrev qW (cap:List (Option Nat)) (g:TG) (tt:TT) (te:TE) (σ:St) (Q:VK) (J:It) (H1:Hp):Prop:=∃ W:Nat→Nat→List V→Hp→Prop,(∃ m,W 0 m [] H1)∧∀ i m ys H,W i m ys H →
  (J.stop i H∧∀ p,H p=none→Q (.ref p) (upd H p (.lst ys))) ∨
  (J.go i H∧ys.length < sizeLine∧∀ x H',J.yld i H x H'→g x (aI cap σ) H' fun σ2 H2=>tt σ2 H2 fun b H3=>if b=true then te σ2 H3 fun v H4=>∃ m',m' < m∧W (i+1) m' (ys++[v]) H4 else ∃ m',m' < m∧W (i+1) m' ys H3)
def tLc (cap:List (Option Nat)) (wi:TI) (g:TG) (tt:TT) (te:TE):TE:=fun σ H Q=>wi σ H (qW cap g tt te σ Q)
section
variable {X:Cx}
theorem iM {elt tg iter:Expr} {ifs:List Expr} {scope:Scope} {pos:Pos} {cl:List (Str × Addr)} {NY:List Str} {cap:List (Option Nat)} {wi:TI} {g:TG} {tt:TT} {te:TE} (hc:X.calm=true) (hi:PI X tg iter wi)
    (hclos:closureFor scope X.env=pure cl) (hci:CellsIn X.env cl) (hcap:CapOk X.env (relabel scope X.env) X.N NY cap)
    (hb:∀ fp s H C,PG (ah X scope cl NY fp s H C) tg g∧gp (ah X scope cl NY fp s H C) ifs tt∧PE (ah X scope cl NY fp s H C) elt te)
    (hkind:scope.kind=.function:=by rfl) (hnc:(scope.names.all fun y=>y.2 != .cell)=true:=by rfl)
    (hnames:(scope.names.all fun y=>y.2 != .local || scope.names.lookup y.1 == some .local)=true:=by rfl)
    (hhas:((relabel scope X.env).names.all fun p=>(p.2 != .cell && p.2 != .free) || (cl.lookup p.1).isSome)=true:=by rfl)
    (hs:∀ x,foldedSetIterable iter X.env x=pure x:=by intro _;rfl) :
    PE X (.ListComp elt [⟨tg,iter,ifs,0⟩] scope pos) (tLc cap wi g tt te):=by
  have hnc':∀ y∈scope.names,y.2≠.cell:=fun y hy=>by
    have q:=aaD.mp hnc y hy;simpa using q
  have hnames':∀ y∈scope.names,y.2=.local→scope.names.lookup y.1=some .local:=fun y hy e=>by
    have q:=aaD.mp hnames y hy;rw [e] at q;simpa using q
  intro pins s σ H Q I h;rw [eval_ListComp];refine wpAny_comprehension_free (use:=none) rfl hs hclos hkind hnames' (wpAny_mono (hi pins s σ H _ I h) (fun v s1 h1=>wpAny_mono h1 (fun itv s2 h2=>?_) fun _ _ e=>e) fun _ _ e=>e);obtain ⟨it,fp,tn,J,H2,e,I2,T,st2,f2,W,⟨m0,w0⟩,turn⟩:=h2;subst e;refine wpAny_newObj_type (wpAny_newFunctionEnv hnc' (by intro y hy;simp at hy) (fun h₁ hns₁ hsb₁=>?_) hkind);dsimp only at hns₁ hsb₁ ⊢;generalize hH2:s2.heap.push { cls:=.type "list",dict:=none,data:=.seq ([]:List Value).toArray }=G2 at hns₁ hsb₁ ⊢;have hC:G2.objs.size=s2.heap.objs.size+1:=by rw [← hH2,abP]
  have hDC:s2.heap.objs.size≠G2.objs.size:=by rw [hC];exact aaq (abQ _)
  have hDlt:s2.heap.objs.size≤G2.objs.size:=by rw [hC];exact abU _
  have below:∀ b,b < s2.heap.objs.size→b≠G2.objs.size∧b≠s2.heap.objs.size:=fun b hb=>⟨by rw [hC];exact aaq (abj hb),aaq hb⟩
  have old:∀ b o,s2.heap.get? b=some o→h₁.get? b=some o:=fun b o e=>hsb₁.extBut b o (below b (aaf e)).1 (aac _ (hH2 ▸ aac _ e));have hacc:h₁.get? s2.heap.objs.size=some { cls:=.type "list",data:=.seq ([]:List Value).toArray 0 }:=hsb₁.extBut _ _ hDC (aac _ (hH2 ▸ aar _ rfl));have fpl:∀ b∈fp,b < s2.heap.objs.size:=fun b hb=>by
    obtain ⟨o,e,_⟩:=T.obj _ _ st2 b hb;exact aaf e
  have freshD:H2 s2.heap.objs.size=none:=I2.hok.fresh (aah _);have freshC:H2 G2.objs.size=none:=I2.hok.fresh hDlt;have cellLt:∀ x c,X.env.cells.lookup x=some c→c < s2.heap.objs.size:=fun x c e=>by
    obtain ⟨v,q⟩:=I2.cell x c e;exact q.lt
  have hclX:∀ x c,cl.lookup x=some c→X.env.cells.lookup x=some c:=fun x c e=>hci.get e;obtain ⟨hbg,hbt,hbe⟩:=hb fp s2 H2 G2.objs.size;have okY:(ah X scope cl NY fp s2 H2 G2.objs.size).Ok:=by
    refine ⟨I2.ok.mod,hkind,I2.ok.glob,I2.ok.blt,hDlt,fun x y c e1 e2=>I2.ok.inj x y c (hclX x c e1) (hclX y c e2),fun x hx=>?_,fun x c hf _=>?_,I2.ok.hd,I2.ok.frames,.inl rfl,fun b hb=>⟨(below b (fpl b hb)).1,fun x c e z=>?_⟩,I2.bs,
      aaJ I2.ok.bsz I2.sz,fun b o e hb=>?_,fun b hb hz=>?_,I2.stack,I2.stkFree⟩
    · have hx':(relabel scope X.env).names.lookup x=some .cell∨(relabel scope X.env).names.lookup x=some .free:=hx;have key:∀ k,(relabel scope X.env).names.lookup x=some k→(k=.cell∨k=.free)→∃ c,cl.lookup x=some c:=fun k e hk=>by
        have q:=aaD.mp hhas (x,k) (aaU e);have q':(cl.lookup x).isSome=true:=by
          rcases hk with rfl|rfl <;> simpa using q
        exact aa8.mp q'
      rcases hx' with e|e
      · exact key _ e (.inl rfl)
      · exact key _ e (.inr rfl)
    · exact absurd (show false=true from hf) aae
    · exact (f2 b hb).2.2.2.2.1 x c (hclX x c e) z
    · rcases (f2 b hb).2.2.2.1 with z|z
      · exact I2.ok.noex b o e z
      · exact absurd (aam (aaf (I2.ok.bs b o e).1) z) (aaT _)
    · rcases aaj.mp (I2.stkSub b hz) with z|z
      · exact (f2 b hb).2.1 z
      · exact (f2 b hb).2.2.1 z
  have fpYs:∀ {H':Hp} {n:Nat} {its:List Value},(∀ b∈fp,H' b=none)→∀ b∈fp,fI (ah X scope cl NY fp s2 H2 G2.objs.size) [(s2.heap.objs.size,{ cls:=.type "list",data:=.seq its.toArray n })] H' b:=fun {H' n its} hn b hb=>by
    refine ⟨hn b hb,(below b (fpl b hb)).1,fun hz=>?_,.inl hb,fun x c e=>(f2 b hb).2.2.2.2.1 x c (hclX x c e),fun p hp=>?_⟩
    · rcases aaj.mp (I2.stkSub b hz) with z|z
      · exact (f2 b hb).2.1 z
      · exact (f2 b hb).2.2.1 z
    · have e:p=(s2.heap.objs.size,{ cls:=.type "list",data:=.seq its.toArray n }):=by simpa [ah] using hp
      rw [e];exact abt (below b (fpl b hb)).2
  have nostk:∀ b,s2.heap.objs.size≤b→b∉frs X.stack:=fun b hb hz=>by
    rcases aaj.mp (I2.stkSub b hz) with z|z
    · have:=I2.lt;rw [← z] at this;exact absurd (aam this hb) (aaT _)
    · exact I2.nofs hb z
  have IY0:Inv (ah X scope cl NY fp s2 H2 G2.objs.size) [(s2.heap.objs.size,{ cls:=.type "list",data:=.seq ([]:List Value).toArray 0 })] (aI cap σ) H2 { s2 with heap:=h₁,toks:=s2.toks+([]:List (Str × Value)).length }:=by
    refine ⟨okY,rfl,I2.bare,Un.kept old,⟨_,hns₁,fun j x v e1 e2 e3=>?_⟩,fun x c e=>?_,freshC,fun x c e=>I2.freeC x c (hclX x c e),fun p hp=>?_,I2.hok.kept old,?_⟩
    · obtain ⟨i,h1,h2,h3,h4⟩:=CapOk.get (σ:=σ) hcap e1 e2;obtain ⟨m,hn,hl⟩:=I2.loc;have vis:Vis X.env.scope x:=by rcases h3 with z|z;exact .inr (.inl z);exact .inr (.inr z)
      obtain ⟨u,r,l⟩:=hl i x v h1 h2 vis;refine ⟨u,r,.inr ⟨h4,?_⟩⟩;rcases l with ⟨k,_⟩|⟨_,c,e,z⟩
      · rcases h3 with z|z <;> (rw [k] at z;cases z)
      · obtain ⟨c',e'⟩:=okY.has x h4;have e':cl.lookup x=some c':=e';have e'':=hclX x c' e';rw [e] at e'';cases e'';obtain ⟨o,ho,hd⟩:=z;exact ⟨c,e',o,old _ _ ho,hd⟩
    · obtain ⟨v,o,ho,hd⟩:=I2.cell x c (hclX x c e);exact ⟨v,o,old _ _ ho,hd⟩
    · have e:p=(s2.heap.objs.size,{ cls:=.type "list",data:=.seq ([]:List Value).toArray 0 }):=by simpa [ah] using hp
      rw [e];exact ⟨hacc,freshD,hDC,nostk _ (aah _),fun v z=>by cases z⟩
    · show (aI cap σ).length=NY.length;unfold aI;rw [aan];exact hcap.len
  have hcY:(ah X scope cl NY fp s2 H2 G2.objs.size).calm=true:=hc;have stW:tn 0 h₁:=T.keep _ _ _ st2 fun b _ o e=>old b o e;have loop:∀ s₃:Shared,s₃={ s2 with heap:=h₁,toks:=s2.toks+([]:List (Str × Value)).length } →
      codeAny (model X.prog X.w) X.A (.compLoop (.ListComp elt [⟨tg,iter,ifs,0⟩] scope pos) 0 (.ref it) (.ref s2.heap.objs.size) (compEnvC scope cl G2.objs.size X.env))
        (compPost (model X.prog X.w) X.A X.xe none (EP X pins σ Q) (.ref s2.heap.objs.size) G2.objs.size) s₃:=by
    rintro s₃ rfl;refine iY (fun n s'=>∃ i ys its k H',Inv (ah X scope cl NY fp s2 H2 G2.objs.size) [(s2.heap.objs.size,{ cls:=.type "list",data:=.seq its.toArray k })] (aI cap σ) H' s'∧Vals ys its∧ys.length≤sizeLine∧tn i s'.heap∧(∀ b∈fp,H' b=none)∧W i n ys H') ?_ m0
      ⟨0,[],[],0,H2,IY0,.nil,aaQ _,stW,fun b hb=>(f2 b hb).1,w0⟩
    rintro n s3 ⟨i,ys,its,k,H3,I3,rv,hz,st3,fr3,w3⟩;rcases turn i n ys H3 w3 with ⟨stop,qn⟩|⟨go,hlt,step⟩
    · refine wpAny_mono (T.done (ah X scope cl NY fp s2 H2 G2.objs.size) rfl rfl rfl hcY i _ s3 _ H3 (fun _ _=>False) I3 (fpYs fr3) st3 stop) (fun r s4 ⟨hr,I4⟩=>?_) fun _ _ z=>z;subst hr;obtain ⟨m,hnC,_⟩:=id I4.loc;have hnC:s4.heap.Ns G2.objs.size m:=hnC;refine ⟨m,hnC,fun h' hsb=>?_⟩;have pD:=(I4.pin (s2.heap.objs.size,{ cls:=.type "list",data:=.seq its.toArray k }) (by simp [ah]))
      have un:Un (frs X.stack) fp H2 H3 s2.heap s4.heap:=I4.base;have I5:Inv X pins σ H3 s4:=I2.call' (ch:=fp) I4.os un I4.hok I4.bare fun b hb=>⟨(f2 b hb).2.2.2.1,(f2 b hb).2.1,(f2 b hb).2.2.2.2.1,(f2 b hb).2.2.2.2.2⟩
      have cC:H3 G2.objs.size=none:=I4.free;have szX:X.s₀.heap.objs.size≤s2.heap.objs.size:=I2.sz;have I6:Inv X pins σ H3 { s4 with heap:=h' }:=I5.turned (t':=s4.toks) (it:=G2.objs.size) (fun b o hb e=>hsb.extBut b o hb e) cC (aaN (aam I2.lt hDlt)) (.inr (aaJ szX hDlt))
        (fun x c e z=>absurd (cellLt x c e) (by rw [z];exact ab8.mpr hDlt)) (fun p hp z=>absurd (aaf (I2.pin p hp).1) (by rw [z];exact ab8.mpr hDlt))
      have I7:Inv X pins σ (upd H3 s2.heap.objs.size (.lst ys)) { s4 with heap:=h' }:=I6.adopt pD.2.1 szX (aaN I2.lt) (fun x c e=>aaq (cellLt x c e)) (fun p hp=>aaq (aaf (I2.pin p hp).1))
        ⟨hz,its,k,rv,hsb.extBut _ _ hDC pD.1⟩
      exact ⟨.ref s2.heap.objs.size,_,I7,rfl,qn _ pD.2.1⟩
    · refine wpAny_mono (T.item (ah X scope cl NY fp s2 H2 G2.objs.size) rfl rfl rfl hcY i _ s3 _ H3 (fun _ _=>False) I3 (fpYs fr3) st3 go) (fun r s4 ⟨u,hr,h4⟩=>?_) fun _ _ z=>z;subst hr;refine wpAny_mono h4 (fun _ s5 ⟨x,H5,I5,r5,y5,st5,fr5⟩=>?_) fun _ _ z=>z;have I5':=I5.pinned (fpYs fr5) (T.obj _ _ st5);refine wpAny_mono (hbg _ s5 _ H5 x u _ I5' r5 (step x H5 y5)) (fun _ s6 ⟨σ6,H6,I6,q6⟩=>?_) fun _ _ z=>z;refine wpAny_mono (hbt _ s6 σ6 H6 _ I6 q6) (fun ok s7 ⟨H7,I7,q7⟩=>?_) fun _ _ z=>z;have lenY:∀ {σ':St} {pn} {H'} {s'},Inv (ah X scope cl NY fp s2 H2 G2.objs.size) pn σ' H' s'→(aI cap σ).length=σ'.length:=fun {σ' pn H' s'} Z=>IY0.len.trans Z.len.symm;have captured:∀ {σ':St} {pn} {H'} {s'},Inv (ah X scope cl NY fp s2 H2 G2.objs.size) pn σ' H' s'→Inv (ah X scope cl NY fp s2 H2 G2.objs.size) pn (aI cap σ) H' s':=fun {σ' pn H' s'} Z=>by
        refine ⟨Z.ok,Z.os,Z.bare,Z.base,?_,Z.cell,Z.free,Z.freeC,Z.pin,Z.hok,IY0.len⟩;obtain ⟨m,hn,_⟩:=Z.loc;refine ⟨m,hn,fun j x v e1 e2 e3=>?_⟩;obtain ⟨i',h1,h2,h3,h4⟩:=CapOk.get (σ:=σ) hcap e1 e2;obtain ⟨m',hn',hl⟩:=I2.loc;have vis:Vis X.env.scope x:=by rcases h3 with z|z;exact .inr (.inl z);exact .inr (.inr z)
        obtain ⟨u,r,l⟩:=hl i' x v h1 h2 vis;refine ⟨u,r,.inr ⟨h4,?_⟩⟩;rcases l with ⟨kk,_⟩|⟨_,c,e,z⟩
        · rcases h3 with z|z <;> (rw [kk] at z;cases z)
        · obtain ⟨c',e'⟩:=okY.has x h4;have e':cl.lookup x=some c':=e';have e'':=hclX x c' e';rw [e] at e'';cases e'';obtain ⟨o,ho,hd⟩:=z;have nfp:c∉fp:=fun hz=>(f2 c hz).2.2.2.2.1 x c e rfl;obtain ⟨sl,q⟩:=Z.base.any (show s2.heap.get? c=some o from ho) (I2.freeC x c e) nfp;exact ⟨c,e',_,q,hd⟩
      have again:∀ {ys':List V} {its':List Value} {k':Nat} {σ':St} {H':Hp} {s':Shared},Inv (ah X scope cl NY fp s2 H2 G2.objs.size) ([(s2.heap.objs.size,{ cls:=.type "list",data:=.seq its'.toArray k' })]++aZ fp s5.heap) σ' H' s'→Vals ys' its'→ys'.length≤sizeLine →
          (∃ m',m' < n∧W (i+1) m' ys' H')→∃ m,m < n∧∃ i ys its k H',Inv (ah X scope cl NY fp s2 H2 G2.objs.size) [(s2.heap.objs.size,{ cls:=.type "list",data:=.seq its.toArray k })] (aI cap σ) H' s'∧Vals ys its∧ys.length≤sizeLine∧tn i s'.heap∧(∀ b∈fp,H' b=none)∧W i m ys H':=fun {ys' its' k' σ' H' s'} Z rv' hz' hw=>by
        obtain ⟨m',hm,w'⟩:=hw;refine ⟨m',hm,i+1,ys',its',k',H',captured Z.unpinned,rv',hz',T.keep _ _ _ st5 fun b hb o e=>(Z.pin (b,o) (aaa _ (aaa _ (a8 hb e)))).1,fun b hb=>?_,w'⟩;obtain ⟨o,e,d⟩:=T.obj _ _ st5 b hb;exact (Z.pin (b,o) (aaa _ (aaa _ (a8 hb e)))).2.1
      cases ok with
      | false =>
        rw [if_neg aae] at q7 ⊢;exact again I7 rv hz q7
      | true =>
        rw [if_pos rfl] at q7 ⊢;refine wpAny_mono (hbe _ s7 σ6 H7 _ I7 q7) (fun xv s8 ⟨v,H8,I8,r8,q8⟩=>?_) fun _ _ z=>z;have pD:=I8.pin (s2.heap.objs.size,{ cls:=.type "list",data:=.seq its.toArray k }) (by simp [ah]);have hlen:=rv.length;refine append_at pD.1 (fun h9 hs9 hD9=>?_) (by rw [aag];lia);have I9:Inv (ah X scope cl NY fp s2 H2 G2.objs.size) (aZ fp s5.heap) σ6 H8 s8:=I8.pins_of fun p hp=>I8.pin p (aaa _ (aaa _ hp));have I10:Inv (ah X scope cl NY fp s2 H2 G2.objs.size) (aZ fp s5.heap) σ6 H8 { s8 with heap:=h9 }:=I9.turned (t':=s8.toks) (it:=s2.heap.objs.size) (fun b o hb e=>hs9.extBut b o hb e) pD.2.1 hDC (.inr (aah _))
          (fun x c e=>aaq (cellLt x c (hclX x c e))) fun p hp=>by
            have hp':p∈aZ fp s5.heap:=by simpa [ah] using hp
            exact abt (abt (below _ (fpl _ (cR hp').1)).2)
        have I11:Inv (ah X scope cl NY fp s2 H2 G2.objs.size) ([(s2.heap.objs.size,{ cls:=.type "list",data:=.seq (its++[xv]).toArray (k+1) })]++aZ fp s5.heap) σ6 H8 { s8 with heap:=h9 }:=I10.pins_of fun p hp=>by
          rcases aap.mp hp with z|z
          · have e:p=(s2.heap.objs.size,{ cls:=.type "list",data:=.seq (its++[xv]).toArray (k+1) }):=by simpa using z
            rw [e];refine ⟨?_,pD.2.1,hDC,nostk _ (aah _),fun v z=>by cases z⟩;rw [List.push_toArray] at hD9;exact hD9
          · exact I10.pin p (aaa _ z)
        exact again I11 (rv.append (.cons r8 .nil)) (by rw [aao,abL];exact hlt) q8
  exact codeAny_compStart_list (loop _ rfl) (T.self _ 0 _ _ _ stW (loop _ rfl))
end
open PySem PySem.Spec PyProof.Rows
section
variable {X:Cx}
theorem de {n:String}:df X (.builtin "isinstance") (fun xs H Q=>∃ x t b,xs=[x,.ty n]∧TyOf X.K H x t∧aaC X.K t (.type n)=some b∧Q (.bl b) H):=by
  intro pins s σ H xs us Q I r h;obtain ⟨x,t,b,rfl,ty,e,q⟩:=h;obtain ⟨u,w',rfl,rx,rt⟩:=mn r;cases rt;exact nX I rx ty e fun tk=>⟨.bl b,H,I.tok _,rfl,q⟩
theorem ke:OpR X (binaryOp .FloorDiv) (rI (fun _ j=>0 < j∧j < 2 ^ 64) fun i j=>.int (i / j)):=opI fun i j _ _ _ _ _ hc q=>by
  have h1:(0:Int) < j:=hc.1;have h2:j < 2 ^ 64:=hc.2;refine floordiv_int (by lia) (by rw [Int.fdiv_eq_ediv_of_nonneg i (by lia)];exact q) (.inl (PyProof.noPylong_of_log2 ?_));have h3:j.natAbs < 2 ^ 64:=by lia
  have h4:j.natAbs≠0:=by lia
  have h5:j.natAbs.log2 < 64:=(Nat.log2_lt h4).mpr h3;lia
def Cal (P:Program) (w:World) (K:aab) (mg:Str→Option Value) (base:Heap) (x:Str) (k:Nat) (ps:List Str) (sp:Sp):Prop :=
  ∃ f fd,FnOk P w K mg base CX0 k f fd ps sp∧Binds K fd ps []∧aaO K (.ref f)=true∧mg x=some (.ref f)
theorem aB {x:Str} {k k':Nat} {ps:List Str} {sp:Sp} {e:Expr} {es:List Expr} {t:TA} {p pos:Pos} (C:Cal X.prog X.w X.K X.mg X.base x k ps sp) (hr:Room k' X.A) (hk:k≤k') (hg:Gl X x) (ha:PA X (e :: es) t)
    (hdb:(x == ("__debug__":Str))=false:=by decide) (he:starEach (e :: es) X.env=(false,eval e X.env) :: starEach es X.env:=by rfl) (hpl:(backTo pos (starEach es X.env)).any (·.1)=false:=by rfl) :
    PE X (.Call (.Name x p) (e :: es) [] pos) (iC sp [] E0 t):=by
  obtain ⟨f,fd,F,b,kp,m⟩:=C;exact ji F (hr.mono hk) hg m kp b .nil oX ha hdb he hpl
end
theorem Same.new {H:Hp} {p:Addr} (h:H p=none) (o:HO):Same H (upd H p o):=fun b u q=>by rw [aj (ak q h)];exact q
def But (w:Addr) (H H':Hp):Prop:=∀ b o,b≠w→H b=some o→H' b=some o
theorem But.refl {w:Addr} {H:Hp}:But w H H:=fun _ _ _ h=>h
theorem But.trans {w:Addr} {H H1 H2:Hp} (a:But w H H1) (b:But w H1 H2):But w H H2:=fun c o n h=>b c o n (a c o n h)
theorem But.of {w:Addr} {H H':Hp} (a:Same H H'):But w H H':=fun c o _ h=>a c o h
theorem But.new {w:Addr} {H:Hp} {p:Addr} (h:H p=none) (o:HO):But w H (upd H p o):=But.of (Same.new h o)
theorem But.put {w:Addr} {H:Hp} {o:HO}:But w H (upd H w o):=fun b u n q=>by rw [aj n];exact q
end L2
namespace Srt
open PySem PySem.W PyProof.Rows
def run {α:Type} (lt:Nat→Nat→Bool):KasT α→α
  | .ret a=>a
  | .ask i j k=>run lt (k (lt i j))
section
variable (key:Nat→Int)
abbrev lt:Nat→Nat→Bool:=fun i j=>decide (key i < key j)
def kp (p:Array Nat) (x:Nat):Int:=key (p.getD x 0)
variable {key}
end
end Srt
namespace Srt
open PySem PySem.W PyProof.Rows
def Ent (n:Nat) (p:Array Nat):Prop:=∀ x,p.getD x 0 < n
section
variable {prog:Program} {w:World} {A:Around} {E:Value→Shared→Prop} {s:Shared}
end
end Srt
set_option maxHeartbeats 2000000
namespace L2
open PySem PySem.Spec PyProof.Rows
inductive EqR (K:aab) (H:Hp):Nat→V→V→Bool→Prop
  | flat {n:Nat} {x y:V} (fx:d_ x=true) (fy:d_ y=true):EqR K H n x y (eqV x y)
  | lens {n:Nat} {a b:Addr} {xs ys:List V} (ha:SqL K H a xs) (hb:SqL K H b ys) (hl:xs.length≠ys.length):EqR K H (n+1) (.ref a) (.ref b) false
  | lst {n:Nat} {a b:Addr} {xs ys:List V} {e:Nat→Bool} (ha:SqL K H a xs) (hb:SqL K H b ys) (hl:xs.length=ys.length) (h:∀ (j:Nat) x y,xs[j]?=some x→ys[j]?=some y→EqR K H n x y (e j)):EqR K H (n+1) (.ref a) (.ref b) ((abd xs.length).all e)
  | tup {n:Nat} {a b:Addr} {xs ys:List V} {e:Nat→Bool} (ha:SqT K H a xs) (hb:SqT K H b ys) (h:∀ (j:Nat) x y,xs[j]?=some x→ys[j]?=some y→EqR K H n x y (e j)) :
      EqR K H (n+1) (.ref a) (.ref b) ((abd (min xs.length ys.length)).all e && xs.length == ys.length)
theorem pO {x:V} (f:d_ x=true):eqV x x=true:=by
  cases x <;> first|rfl|(simp [eqV];done)|exact absurd (show false=true from f) aae
section
variable {X:Cx} {pins:List (Addr × Obj)} {σ:St} {H:Hp} {s:Shared}
theorem EqR.self (I:Inv X pins σ H s) {n:Nat} {x y:V} {b:Bool} (h:EqR X.K H n x y b):x=y→b=true:=by
  induction h with
  | flat fx fy=>intro e;subst e;exact pO fx
  | lens ha hb hl =>
    intro e;injection e with e;subst e
    exact absurd (by rw [I.list_inj ha hb]) hl
  | @lst n a b xs ys e ha hb hl h ih =>
    intro q;injection q with q;subst q
    obtain rfl:=I.list_inj ha hb;rw [aaD];intro j hj;have hj':j < xs.length:=aa9.mp hj;exact ih j _ _ (aad hj') (aad hj') rfl
  | @tup n a b xs ys e ha hb h ih =>
    intro q;injection q with q;subst q
    obtain rfl:=I.tuple_inj ha hb;rw [abe,aaD];refine ⟨fun j hj=>?_,beq_self_eq_true _⟩;have hj':j < xs.length:=by have:=aa9.mp hj;lia
    exact ih j _ _ (aad hj') (aad hj') rfl
theorem cQ {xs:List V} {its:List Value} (r:Vals xs its) {j:Nat} (h:j < its.toArray.size):∃ x,xs[j]?=some x∧RelV x its.toArray[j]:=by
  have hl:=r.length;have h':j < xs.length:=by rw [hl];simpa using h
  obtain ⟨u,hu,ru⟩:=r.get (aad h');refine ⟨_,aad h',?_⟩;have e:its.toArray[j]=u:=by
    have : its[j]?=some u:=hu;rw [aad (by simpa using h)] at this;simpa using aaM this
  rw [e];exact ru
theorem EqR.at (I:Inv X pins σ H s) {n:Nat} {x y:V} {b:Bool} (h:EqR X.K H n x y b):∀ {A:Around} {u v:Value},RelV x u→RelV y v→A.units+n < cLine→SeqAt.EqAt A s u v b:=by
  induction h with
  | flat fx fy=>intro A u v rx ry hu;exact pT rx ry fx fy
  | @lens n a b xs ys ha hb hl =>
    intro A u v rx ry hu;cases rx;cases ry;obtain ⟨its,r,pl,_⟩:=I.list ha;obtain ⟨its2,r2,pl2,_⟩:=I.list hb;have ne:a≠b:=fun e=>by subst e;exact hl (by rw [I.list_inj ha hb])
    refine .of_refs ne (.lists_lengths pl.isList pl2.isList ?_ (by lia));rw [aag,aag,← r.length,← r2.length];exact bne_iff_ne.mpr hl
  | @lst n a b xs ys e ha hb hl h ih =>
    intro A u v rx ry hu;by_cases q:a=b
    · have:=(EqR.lst ha hb hl h).self I (by rw [q]);cases rx;cases ry;rw [this];subst q;exact SeqAt.EqAt.same _
    · cases rx;cases ry;obtain ⟨its,r,pl,_⟩:=I.list ha;obtain ⟨its2,r2,pl2,_⟩:=I.list hb;have e1:its.toArray.size=xs.length:=by rw [aag,r.length]
      rw [← e1];refine .of_refs q (.lists pl.isList pl2.isList (by rw [aag,aag,← r.length,← r2.length];exact hl) (by lia) fun j h1 h2=>?_);obtain ⟨x,hx,rx⟩:=cQ r h1;obtain ⟨y,hy,ry⟩:=cQ r2 h2;exact ih j x y hx hy rx ry (by show A.units+1+n < cLine;lia)
  | @tup n a b xs ys e ha hb h ih =>
    intro A u v rx ry hu;by_cases q:a=b
    · have:=(EqR.tup ha hb h).self I (by rw [q]);cases rx;cases ry;rw [this];subst q;exact SeqAt.EqAt.same _
    · cases rx;cases ry;obtain ⟨its,r,pl,_⟩:=I.tuple ha;obtain ⟨its2,r2,pl2,_⟩:=I.tuple hb;have e1:its.toArray.size=xs.length:=by rw [aag,r.length]
      have e2:its2.toArray.size=ys.length:=by rw [aag,r2.length]
      rw [← e1,← e2];refine .of_refs q (.tuples pl pl2 (by lia) fun j h1 h2=>?_);obtain ⟨x,hx,rx⟩:=cQ r h1;obtain ⟨y,hy,ry⟩:=cQ r2 h2;exact ih j x y hx hy rx ry (by show A.units+1+n < cLine;lia)
def uF (K:aab) (neg:Bool):R2:=fun x y H Q=>∃ n a b xs ys,n≤60∧x=.ref a∧y=.ref b∧SqL K H a xs∧SqL K H b ys ∧
  ((xs.length≠ys.length∧Q (.bl neg) H)∨∃ e:Nat→Bool,xs.length=ys.length∧(∀ (j:Nat) x y,xs[j]?=some x→ys[j]?=some y→EqR K H n x y (e j))∧Q (.bl (if neg then !(abd xs.length).all e else (abd xs.length).all e)) H)
theorem lQ (hu:X.A.units+64 < cLine):OpR X (compareOp .NotEq) (uF X.K true):=by
  intro pins s σ H x y v u Q I rx ry h;obtain ⟨n,a,b,xs,ys,hn,rfl,rfl,ha,hb,h⟩:=h;cases rx;cases ry;obtain ⟨its,r,pl,_⟩:=I.list ha;obtain ⟨its2,r2,pl2,_⟩:=I.list hb;have e1:its.toArray.size=xs.length:=by rw [aag,r.length]
  have e2:its2.toArray.size=ys.length:=by rw [aag,r2.length]
  rcases h with ⟨hl,q⟩|⟨e,hl,he,q⟩
  · exact SeqAt.RcNeAt.lists_lengths pl.isList pl2.isList (by rw [e1,e2];exact bne_iff_ne.mpr hl) (by lia) _ _ _ _ ⟨.bl true,H,I,rfl,q⟩
  · refine SeqAt.RcNeAt.lists (e:=e) pl.isList pl2.isList (by rw [e1,e2];exact hl) (by lia) (fun j h1 h2=>?_) _ _ _ _ ?_
    · obtain ⟨x,hx,rx⟩:=cQ r h1;obtain ⟨y,hy,ry⟩:=cQ r2 h2;exact (he j x y hx hy).at I rx ry (by show X.A.units+1+n < cLine;lia)
    · rw [e1];exact ⟨.bl _,H,I,rfl,q⟩
end
abbrev PairIn (H:Hp) (p:Int × Int) (v:V):Prop:=∃ a,v=.ref a∧H a=some (.tup [.int p.1,.int p.2])
abbrev PairsIn (H:Hp):List (Int × Int)→List V→Prop:=Paired (PairIn H)
theorem Inv.adopt2 {X:Cx} {pins:List (Addr × Obj)} {σ:St} {H:Hp} {s:Shared} {a:Addr} {o:HO} (I:Inv X pins σ H s) (hn:H a=none) (hx:∀ u,X.s₀.heap.get? a≠some u) (hL:a≠X.env.locals) (hC:∀ x c,X.env.cells.lookup x=some c→c≠a) (hp:∀ p∈X.pn++pins,p.1≠a)
    (new:ObjOk X.prog X.w (upd H a o) s.heap a o):Inv X pins σ (upd H a o) s:=by
  have ne:∀ b u,X.s₀.heap.get? b=some u→b≠a:=fun b u e z=>hx u (by rw [← z];exact e);refine ⟨I.ok,I.os,I.bare,⟨I.base.keep,I.base.slot,fun b u e n hx=>?_,I.base.there,fun b xs e=>?_,fun b u xs e=>?_,fun b ps e=>?_⟩,I.loc,I.cell,?_,fun x c e=>?_,fun p hq=>?_,fun b u e=>?_,I.len⟩
  · rw [aj (ne b u e)];exact I.base.free b u e n hx
  · have q:=I.base.tups b xs e;rw [aj (ak q hn)];exact q
  · have q:=I.base.frzs b u xs e;rw [aj (ak q hn)];exact q
  · obtain ⟨m,q⟩:=I.base.tbls b ps e;exact ⟨m,by rw [aj (ak q hn)];exact q⟩
  · rw [aj (abt hL)];exact I.free
  · rw [aj (hC x c e)];exact I.freeC x c e
  · obtain ⟨h1,h2,h3⟩:=I.pin p hq;exact ⟨h1,by rw [aj (hp p hq)];exact h2,h3⟩
  · by_cases hb:b=a
    · subst hb;rw [ac] at e;cases e;exact new
    · rw [aj hb] at e;exact (I.hok b u e).stay (fun c v _ q=>q) (fun c q=>by rw [aj (ak q hn)];exact q) fun c xs q=>by rw [aj (ak q hn)];exact q
open PySem PySem.Spec PyProof.Rows
theorem ObjOk.get {P:Program} {w:World} {H:Hp} {h:Heap} {a:Addr} {o:HO} (x:ObjOk P w H h a o):∃ u,h.get? a=some u:=by
  cases o with
  | lst xs=>obtain ⟨_,_,_,_,e⟩:=x;exact ⟨_,e⟩
  | tup xs=>obtain ⟨_,_,_,o,e,_⟩:=x;exact ⟨_,e⟩
  | dK kvs=>obtain ⟨_,_,_,_,o,_,_,e,_⟩:=x;exact ⟨_,e⟩
  | dT kvs=>obtain ⟨_,_,_,_,o,_,_,e,_⟩:=x;exact ⟨_,e⟩
  | set S n=>obtain ⟨o,_,_,_,e,_⟩:=x;exact ⟨_,e⟩
  | ins C dx fs=>obtain ⟨_,_,_,e,_⟩:=x;exact ⟨_,e⟩
  | own y=>obtain ⟨_,e⟩:=x;exact ⟨_,e⟩
  | xd fs=>obtain ⟨_,⟨_,_,_,e,_⟩,_⟩:=x;exact ⟨_,e⟩
  | rng lo hi=>obtain ⟨_,_,_,e⟩:=x;exact ⟨_,e⟩
  | frz ob u=>obtain ⟨e,_⟩:=x;exact ⟨_,e⟩
  | tbl ps=>exact ⟨_,(show h.get? a=some _ from x)⟩
  | met f y=>exact ⟨_,(show h.get? a=some _ from x)⟩
  | ext φ=>obtain ⟨_,⟨_,e⟩,_⟩:=x;exact ⟨_,e⟩
section
variable {X:Cx}
end
open PySem PySem.Spec PyProof.Rows
theorem py {c A B:Prop} [Decidable c] (hc:c) (h:A):if decide c=true then A else B:=by
  rw [if_pos (decide_eq_true hc)];exact h
theorem kN {c A B:Prop} [Decidable c] (hc:¬ c) (h:B):if decide c=true then A else B:=by
  rw [if_neg (fun e=>hc (of_decide_eq_true e))];exact h
section
variable {X:Cx} {K:aab}
theorem fF (hK:X.K=K):IxR X (rW K):=by subst hK;exact dE
theorem jR (hK:X.K=K):SlR X (tG K):=by subst hK;exact gq
theorem fB {es:List Expr} {k:Nat} {pos:Pos} {t:TGs} {n:Nat} (hK:X.K=K) (hc:X.calm=true) (h:PGs X es t)
    (hn:(assignEach es X.env).length=n:=by rfl) (hst:(assignEach es X.env).findIdx? (·.1)=none:=by rfl):PG X (.Tuple es k pos) (tY K n t):=by subst hK;exact dk hc h hn hst
theorem my {tg l:Expr} {tl:TE} (hK:X.K=K) (hl:PE X l tl):PI X tg l (tU K tl):=by subst hK;exact sd hl
end
def Nxt (n i:Nat) (P:Prop):Prop:=∃ m',m' < n - i∧m'=n - (i+1)∧i+1≤n∧P
theorem qN {K:aab} {a:Addr} {xs:List V} {cap:List (Option Nat)} {g:TG} {tt:TT} {te:TE} {σ:St} {H:Hp} {Q:VK} (Pv:Nat→List V→Hp→Prop) (h0:Pv 0 [] H) (hl:∀ i ys H,i≤xs.length→Pv i ys H→SqL K H a xs∧ys.length < sizeLine)
    (hs:∀ i x ys H,xs[i]?=some x→Pv i ys H→(∀ {P:Prop},P→Nxt xs.length i P)→g x (aI cap σ) H fun σ2 H2=>tt σ2 H2 fun b H3=>if b=true then te σ2 H3 fun v H4=>Nxt xs.length i (Pv (i+1) (ys++[v]) H4) else Nxt xs.length i (Pv (i+1) ys H3)) (hd:∀ ys H,Pv xs.length ys H→∀ p,H p=none→Q (.ref p) (upd H p (.lst ys))) :
    qW cap g tt te σ Q (Itl K a) H:=by
  refine ⟨fun i m ys H=>m=xs.length - i∧i≤xs.length∧Pv i ys H,⟨xs.length,by simp,aaQ _,h0⟩,?_⟩;rintro i m ys H ⟨rfl,hi,p⟩;have q:=hl i ys H hi p;by_cases hlt:i < xs.length
  · refine .inr ⟨⟨xs,xs[i],q.1,by simp [hlt]⟩,q.2,fun x H' y=>?_⟩;obtain ⟨e,y⟩:=y;subst e;exact hs i x ys _ (y xs q.1) p fun h=>⟨_,by lia,rfl,hlt,h⟩
  · have e:i=xs.length:=by lia
    subst e;exact .inl ⟨⟨xs,q.1,aah _⟩,hd ys H p⟩
theorem o8 {lo:Int} {n:Nat} {cap:List (Option Nat)} {g:TG} {tt:TT} {te:TE} {σ:St} {H:Hp} {Q:VK} (Pv:Nat→List V→Hp→Prop) (h0:Pv 0 [] H) (hl:∀ i ys H,i≤n→Pv i ys H→ys.length < sizeLine)
    (hs:∀ i ys H,i < n→Pv i ys H→(∀ {P:Prop},P→Nxt n i P)→g (.int (lo+i)) (aI cap σ) H fun σ2 H2=>tt σ2 H2 fun b H3=>if b=true then te σ2 H3 fun v H4=>Nxt n i (Pv (i+1) (ys++[v]) H4) else Nxt n i (Pv (i+1) ys H3)) (hd:∀ ys H,Pv n ys H→∀ p,H p=none→Q (.ref p) (upd H p (.lst ys))) :
    qW cap g tt te σ Q (Itr lo n) H:=by
  refine ⟨fun i m ys H=>m=n - i∧i≤n∧Pv i ys H,⟨n,by simp,aaQ _,h0⟩,?_⟩;rintro i m ys H ⟨rfl,hi,p⟩;have q:=hl i ys H hi p;by_cases hlt:i < n
  · refine .inr ⟨hlt,q,fun x H' y=>?_⟩;obtain ⟨e,y⟩:=y;subst e y;exact hs i ys _ hlt p fun h=>⟨_,by lia,rfl,hlt,h⟩
  · have e:i=n:=by lia
    subst e;exact .inl ⟨aah _,hd ys H p⟩
theorem cB {H:Hp}:∀ {ps:List (Int × Int)} {vs:List V},PairsIn H ps vs→∀ {j:Nat} {x:V},vs[j]?=some x→∃ p,ps[j]?=some p∧PairIn H p x
  | _,_,.nil,j,x,h=>by simp at h
  | _,_,.cons a _,0,x,h=>by simp at h;subst h;exact ⟨_,rfl,a⟩
  | _,_,.cons _ b,j+1,x,h=>by
    obtain ⟨p,h1,h2⟩:=cB b (j:=j) (x:=x) (by simpa using h);exact ⟨p,by simpa using h1,h2⟩
open PySem PySem.Spec PyProof.Rows
def tQ:Key→PyData
  | .inl i=>.int i
  | .inr x=>.str x
mutual
def Dat (H:Hp):PyData→V→Prop
  | .none,v=>v=.non
  | .bool b,v=>v=.bl b
  | .int i,v=>v=.int i
  | .str x,v=>v=.str x
  | .list ds,v=>∃ a xs,v=.ref a∧H a=some (.lst xs)∧DatAll H ds xs
  | .tuple ds,v=>∃ a xs,v=.ref a∧H a=some (.tup xs)∧DatAll H ds xs
  | .dict kvs,v=>∃ a ks,v=.ref a∧H a=some (.dK ks)∧DatKv H kvs ks
def DatAll (H:Hp):List PyData→List V→Prop
  | [],vs=>vs=[]
  | d :: ds,vs=>∃ v r,vs=v :: r∧Dat H d v∧DatAll H ds r
def DatKv (H:Hp):List (PyData × PyData)→List (Key × V)→Prop
  | [],ks=>ks=[]
  | (k,d) :: r,ks=>∃ q v t,ks=(q,v) :: t∧k=tQ q∧Dat H d v∧DatKv H r t
end
mutual
theorem Dat.mono {H H':Hp} (g:Same H H'):∀ (d:PyData) (v:V),Dat H d v→Dat H' d v
  | .none,v,h=>h
  | .bool b,v,h=>h
  | .int i,v,h=>h
  | .str x,v,h=>h
  | .list ds,v,h=>by
    simp only [Dat] at h ⊢;obtain ⟨a,xs,e,h1,h2⟩:=h;exact ⟨a,xs,e,g _ _ h1,DatAll.mono g ds xs h2⟩
  | .tuple ds,v,h=>by
    simp only [Dat] at h ⊢;obtain ⟨a,xs,e,h1,h2⟩:=h;exact ⟨a,xs,e,g _ _ h1,DatAll.mono g ds xs h2⟩
  | .dict kvs,v,h=>by
    simp only [Dat] at h ⊢;obtain ⟨a,xs,e,h1,h2⟩:=h;exact ⟨a,xs,e,g _ _ h1,DatKv.mono g kvs xs h2⟩
theorem DatAll.mono {H H':Hp} (g:Same H H'):∀ (ds:List PyData) (vs:List V),DatAll H ds vs→DatAll H' ds vs
  | [],vs,h=>h
  | d :: ds,vs,h=>by
    simp only [DatAll] at h ⊢;obtain ⟨v,r,e,h1,h2⟩:=h;exact ⟨v,r,e,Dat.mono g d v h1,DatAll.mono g ds r h2⟩
theorem DatKv.mono {H H':Hp} (g:Same H H'):∀ (kvs:List (PyData × PyData)) (ks:List (Key × V)),DatKv H kvs ks→DatKv H' kvs ks
  | [],ks,h=>h
  | (k,d) :: r,ks,h=>by
    simp only [DatKv] at h ⊢;obtain ⟨q,v,t,e1,e2,h1,h2⟩:=h;exact ⟨q,v,t,e1,e2,Dat.mono g d v h1,DatKv.mono g r t h2⟩
end
theorem DatAll.len {H:Hp}:∀ {ds:List PyData} {vs:List V},DatAll H ds vs→ds.length=vs.length
  | [],vs,h=>by simp only [DatAll] at h;rw [h];rfl
  | d :: ds,vs,h=>by
    simp only [DatAll] at h;obtain ⟨v,r,rfl,_,h2⟩:=h;rw [aaB,aaB,DatAll.len h2]
theorem DatAll.app {H:Hp}:∀ {as:List PyData} {vs:List V} {bs:List PyData} {us:List V},DatAll H as vs→DatAll H bs us→DatAll H (as++bs) (vs++us)
  | [],vs,bs,us,h,k=>by simp only [DatAll] at h;subst h;exact k
  | d :: as,vs,bs,us,h,k=>by
    simp only [DatAll] at h;obtain ⟨v,r,rfl,h1,h2⟩:=h;show DatAll H (d :: (as++bs)) (v :: (r++us));simp only [DatAll];exact ⟨v,_,rfl,h1,DatAll.app h2 k⟩
def off (w:Addr) (H:Hp):Hp:=fun b=>if b=w then none else H b
theorem bG {w b:Addr} {H:Hp} (h:b≠w):off w H b=H b:=if_neg h
def lg:PyData→String
  | .none=>"NoneType"
  | .bool _=>"bool"
  | .int _=>"int"
  | .str _=>"str"
  | .list _=>"list"
  | .tuple _=>"tuple"
  | .dict _=>"dict"
theorem Dat.ty {K:aab} {H:Hp} {d:PyData} {v:V} (h:Dat H d v):TyOf K H v (.type (lg d)):=by
  cases d with
  | none=>simp only [Dat] at h;subst h;exact .non
  | bool b=>simp only [Dat] at h;subst h;exact .bl b
  | int i=>simp only [Dat] at h;subst h;exact .int i
  | str x=>simp only [Dat] at h;subst h;exact .str x
  | list ds=>simp only [Dat] at h;obtain ⟨a,xs,rfl,e,_⟩:=h;exact .lst e
  | tuple ds=>simp only [Dat] at h;obtain ⟨a,xs,rfl,e,_⟩:=h;exact .tup e
  | dict kvs=>simp only [Dat] at h;obtain ⟨a,xs,rfl,e,_⟩:=h;exact .dK e
section
variable {X:Cx} {pins:List (Addr × Obj)} {σ:St} {H:Hp} {s:Shared}
theorem Inv.nosys (I:Inv X pins σ H s) {a:Addr} {o:HO} (h:H a=some o):a≠sysModules:=fun e=>by
  obtain ⟨mm,ob,es,ep,g,_⟩:=I.mod.sysm;have:=(I.bs _ _ g).2;rw [← e,h] at this;cases this
theorem nU {P:Program} {w:World} {h:Heap} {q:Key} {v:Value} (e:(aK P w).is q v=true):Reads h v (tQ q) []:=by
  rw [lV] at e;rcases a5 e with ⟨i,t,rfl,rfl⟩|⟨x,t,rfl,rfl⟩
  · exact .int i t
  · exact .str x t
mutual
theorem Dat.reads (I:Inv X pins σ H s):∀ (d:PyData) (v:V) (u:Value),Dat H d v→RelV v u→∃ as,Reads s.heap u d as∧sysModules∉as
  | .none,v,u,h,r=>by
    simp only [Dat] at h;subst h;cases r;exact ⟨_,.none,by simp⟩
  | .bool b,v,u,h,r=>by
    simp only [Dat] at h;subst h;cases r;exact ⟨_,.bool b,by simp⟩
  | .int i,v,u,h,r=>by
    simp only [Dat] at h;subst h;obtain ⟨t,rfl⟩:=r;exact ⟨_,.int i t,by simp⟩
  | .str x,v,u,h,r=>by
    simp only [Dat] at h;subst h;obtain ⟨t,rfl⟩:=r;exact ⟨_,.str x t,by simp⟩
  | .list ds,v,u,h,r=>by
    simp only [Dat] at h;obtain ⟨a,xs,rfl,hr,hd⟩:=h;cases r;obtain ⟨its,rv,⟨o,n,e1,e2,_,e3⟩,_⟩:=I.list (SqL.of hr);obtain ⟨as,ra,na⟩:=DatAll.reads I ds xs its hd rv;have ho:=hr;refine ⟨_,.list e1 e2 e3 (by simpa using ra),fun z=>?_⟩;rcases aaj.mp z with z|z
    · exact I.nosys ho z.symm
    · exact na z
  | .tuple ds,v,u,h,r=>by
    simp only [Dat] at h;obtain ⟨a,xs,rfl,hr,hd⟩:=h;cases r;obtain ⟨its,rv,⟨o,e1,e2,n,e3⟩,_⟩:=I.tuple (SqT.of hr);obtain ⟨as,ra,na⟩:=DatAll.reads I ds xs its hd rv;exact ⟨_,.tuple e1 e2 e3 (by simpa using ra),na⟩
  | .dict kvs,v,u,h,r=>by
    simp only [Dat] at h;obtain ⟨a,ks,rfl,hr,hd⟩:=h;cases r;obtain ⟨_,_,vs,rel,o,es,ep,e1,ex,e3,_,pr,_⟩:=mR I.hok hr;obtain ⟨as,bs,ra,rb,na,nb⟩:=DatKv.reads I kvs ks vs es.toList hd rel pr;have ho:=hr;refine ⟨_,.dict e1 ex.1 e3 ra rb,fun z=>?_⟩;rcases aap.mp z with z|z
    · rcases aaj.mp z with z|z
      · exact I.nosys ho z.symm
      · exact na z
    · exact nb z
theorem DatAll.reads (I:Inv X pins σ H s):∀ (ds:List PyData) (vs:List V) (us:List Value),DatAll H ds vs→Vals vs us→∃ as,ReadsAll s.heap us ds as∧sysModules∉as
  | [],vs,us,h,r=>by
    simp only [DatAll] at h;subst h;cases r;exact ⟨_,.nil,by simp⟩
  | d :: ds,vs,us,h,r=>by
    simp only [DatAll] at h;obtain ⟨v,t,rfl,h1,h2⟩:=h;cases r with
    | cons r1 r2 =>
      obtain ⟨as,ra,na⟩:=Dat.reads I d v _ h1 r1;obtain ⟨bs,rb,nb⟩:=DatAll.reads I ds t _ h2 r2;exact ⟨_,.cons ra rb,fun z=>(aap.mp z).elim na nb⟩
theorem DatKv.reads (I:Inv X pins σ H s):∀ (kvs:List (PyData × PyData)) (ks:List (Key × V)) (vs:List (Key × Value)) (es:List DictEntry),DatKv H kvs ks→KV ks vs→Pairs (aK X.prog X.w) es vs →
    ∃ as bs,ReadsAll s.heap (es.map (·.key)) (kvs.map (·.1)) as∧ReadsAll s.heap (es.map (·.val)) (kvs.map (·.2)) bs∧sysModules∉as∧sysModules∉bs
  | [],ks,vs,es,h,r,p=>by
    simp only [DatKv] at h;subst h;cases r;cases p;exact ⟨_,_,.nil,.nil,by simp,by simp⟩
  | (k,d) :: kr,ks,vs,es,h,r,p=>by
    simp only [DatKv] at h;obtain ⟨q,v,t,rfl,rfl,h1,h2⟩:=h;cases r with
    | cons r1 r2 =>
      cases p with
      | cons p1 p2 p3 =>
        obtain ⟨rk,rv⟩:=r1;obtain ⟨as,bs,ra,rb,na,nb⟩:=DatKv.reads I kr t _ _ h2 r2 p3;obtain ⟨cs,rc,nc⟩:=Dat.reads I d v _ h1 rv;have rk':q=_:=rk;subst rk';have kd:=nU (h:=s.heap) p1;refine ⟨[]++as,cs++bs,.cons kd ra,.cons (by dsimp only;rw [p2];exact rc) rb,by simpa using na,fun z=>(aap.mp z).elim nc nb⟩
end
theorem i4 (hg:X.A.guards=some []) (hu:X.A.units+64 < cLine):df X (.builtin "repr") (fun xs H Q=>∃ x d,xs=[x]∧Dat H d x∧d.showable=true∧d.depth≤60∧d.shown.length≤sizeLine∧Q (.str d.shown) H):=by
  intro pins s σ H xs us Q I r h;obtain ⟨x,d,rfl,hd,hs,hdp,hl,q⟩:=h;obtain ⟨u,rfl,ru⟩:=eK r;have key:∀ a,u=.ref a→wpAny (model X.prog X.w) X.A (call (.builtin "repr") [u]) (EP X pins σ Q) X.xe s:=fun a e=>by
    subst e;obtain ⟨as,ra,na⟩:=Dat.reads I d x _ hd ru;refine repr_of_reads' ra hs (fun _=>na) hg (by lia) (fun _ _ e=>e) (fun h' u tk hk=>?_) hl;exact ⟨.str d.shown,H,I.kept hk,⟨u,rfl⟩,q⟩
  cases d with
  | none =>
    simp only [Dat] at hd;subst hd;cases ru;rw [PyData.shown_none] at q;exact PySem.P.repr_of_none ⟨.str "None",H,I.tok _,⟨_,rfl⟩,q⟩
  | bool b =>
    simp only [Dat] at hd;subst hd;cases ru;rw [PyData.shown_bool] at q;exact PySem.P.repr_of_bool ⟨.str _,H,I.tok _,⟨_,rfl⟩,q⟩
  | int i =>
    simp only [Dat] at hd;subst hd;obtain ⟨t,rfl⟩:=ru;rw [PyData.shown_int] at q;exact PySem.P.repr_of_int (by simpa [abc] using hs) ⟨.str _,H,I.tok _,⟨_,rfl⟩,q⟩
  | str z =>
    simp only [Dat] at hd;subst hd;obtain ⟨t,rfl⟩:=ru;rw [PyData.shown_str] at q hl;exact PySem.P.repr_of_str ⟨.str _,H,I.tok _,⟨_,rfl⟩,q⟩ hl
  | list ds =>
    have hd':=hd;simp only [Dat] at hd';obtain ⟨a,_,rfl,_⟩:=hd';exact key a ru
  | tuple ds =>
    have hd':=hd;simp only [Dat] at hd';obtain ⟨a,_,rfl,_⟩:=hd';exact key a ru
  | dict kvs =>
    have hd':=hd;simp only [Dat] at hd';obtain ⟨a,_,rfl,_⟩:=hd';exact key a ru
end
open PySem PySem.Spec PyProof.Rows
section
variable {X:Cx}
theorem mW {i:Int} (h:i.natAbs < 2 ^ 4000):Builtin.Int.intBits i≤2 ^ 20:=by
  have : Builtin.Int.intBits i≤4000:=by
    unfold Builtin.Int.intBits;by_cases c:i=0
    · simp [c]
    · rw [if_neg (by simpa using c)];have h4:i.natAbs≠0:=fun z=>c (Int.natAbs_eq_zero.mp z);exact (Nat.log2_lt h4).mpr h
  have e:(4000:Nat)≤2 ^ 20:=by decide
  lia
theorem jk:OpR X (binaryOp .Mult) (rI (fun i j=>i.natAbs < 2 ^ 4000∧j.natAbs < 2 ^ 4000) fun i j=>.int (i * j)):=opI fun _ _ _ _ _ _ _ hc q=>mul_int q (IntMulOk.of_bits (mW hc.1) (mW hc.2))
end
open PySem PySem.Spec PyProof.Rows
theorem Inv.turnedL {X:Cx} {pins:List (Addr × Obj)} {σ:St} {H:Hp} {s:Shared} {h':Heap} {t':Nat} {fp:List Addr} (I:Inv X pins σ H s) (k:∀ b o,b∉fp→s.heap.get? b=some o→h'.get? b=some o) (hf:∀ b∈fp,fI X pins H b):Inv X pins σ H { s with heap:=h',toks:=t' }:=by
  have nit:∀ b u,H b=some u→b∉fp:=fun b u e z=>by rw [(hf b z).1] at e;cases e
  refine I.step (g':=s.gens) (d':=s.drawn) (ch:=fp) (fun b hb=>⟨(hf b hb).2.2.2.1,(hf b hb).2.1,(hf b hb).2.2.2.2.1,(hf b hb).2.2.2.2.2⟩) (fun b o _ _ hc e _=>k b o hc e) (fun b o _ _ hc e _=>⟨o.slots,k b o hc e⟩) (fun _ _ _ _ n=>n)
    (fun b o hc e=>⟨o,k b o hc e⟩) (fun _ _ e=>e) (fun _ _ _ e=>e) (fun b ps e=>⟨#[],by rw [e];simp⟩) (fun m hm=>?_) (fun b u e=>?_) I.bare
  · obtain ⟨o,es,ep,ho,r⟩:=hm;exact ⟨o,es,ep,k _ o (fun z=>(hf _ z).2.1 rfl) ho,r⟩
  · refine (I.hok b u e).stay (fun c v hc q=>k c v ?_ q) (fun _ q=>q) fun _ _ q=>q;rcases hc with z|z
    · rw [z];exact nit b u e
    · exact nit c _ z
open PySem PySem.Spec PyProof.Rows
section
variable {prog:Program} {w:World} {κ:Type} [DecidableEq κ] {knd:HeapKind prog w κ} {A:Around} {E:Value→Shared→Prop} {s:Shared}
end
open PySem PySem.Spec PyProof.Rows
section
variable {prog:Program} {w:World} {κ:Type} [DecidableEq κ] {knd:HeapKind prog w κ} {A:Around} {E:Value→Shared→Prop} {s:Shared}
inductive HitsH (A:Around) (s:Shared) (kb:List (κ × Addr × Value)):List (κ × Addr × Value)→Bool→Prop
  | nil:HitsH A s kb [] true
  | miss {k:κ} {a:Addr} {v:Value} {r:List (κ × Addr × Value)}:atKey kb k=none→HitsH A s kb ((k,a,v) :: r) false
  | hit {k:κ} {a c:Addr} {v y:Value} {r:List (κ × Addr × Value)} {e b:Bool}:atKey kb k=some (c,y)→SeqAt.EqAt A s v y e→HitsH A s kb r b→HitsH A s kb ((k,a,v) :: r) (e && b)
end
open PySem PySem.Spec PyProof.Rows
inductive HitsV (K:aab) (H:Hp) (n:Nat) (kb:List (List Key × V)):List (List Key × V)→Bool→Prop
  | nil:HitsV K H n kb [] true
  | miss {k:List Key} {v:V} {r:List (List Key × V)}:cx kb k=none→HitsV K H n kb ((k,v) :: r) false
  | hit {k:List Key} {v y:V} {r:List (List Key × V)} {e b:Bool}:cx kb k=some y→EqR K H n v y e→HitsV K H n kb r b→HitsV K H n kb ((k,v) :: r) (e && b)
open PySem PySem.Spec PyProof.Rows
section
variable {prog:Program} {w:World} {κ:Type} [DecidableEq κ] {knd:HeapKind prog w κ} {A:Around} {E:Value→Shared→Prop}
variable {s:Shared}
end
open PySem PySem.Spec PyProof.Rows
theorem Inv.retype {X:Cx} {pins:List (Addr × Obj)} {σ:St} {H:Hp} {s:Shared} {a:Addr} {u u':HO} (I:Inv X pins σ H s) (e:H a=some u) (n1:∀ xs,u≠.tup xs) (n2:∀ ps,u≠.tbl ps) (n3:∀ y,u≠.own y) (hf:∀ o v,X.H₀ a≠some (.frz o v))
    (new:ObjOk X.prog X.w H s.heap a u'):Inv X pins σ (upd H a u') s:=by
  have nt:∀ c xs,H c=some (.tup xs)→c≠a:=fun c xs q z=>by rw [z,e] at q;injection q with q;exact n1 _ q
  have no:∀ c y,H c=some (.own y)→c≠a:=fun c y q z=>by rw [z,e] at q;injection q with q;exact n3 _ q
  have nn:∀ c,H c=none→c≠a:=fun c q z=>by rw [z,e] at q;cases q
  refine ⟨I.ok,I.os,I.bare,⟨I.base.keep,I.base.slot,fun b ob q n hx=>?_,I.base.there,fun b xs q=>?_,fun b ob xs q=>?_,fun b ps q=>?_⟩,I.loc,I.cell,?_,fun x c q=>?_,fun p hp=>?_,fun b v q=>?_,I.len⟩
  · have z:=I.base.free b ob q n hx;rw [aj (nn b z)];exact z
  · have z:=I.base.tups b xs q;rw [aj (nt b xs z)];exact z
  · have z:=I.base.frzs b ob xs q;have nb:b≠a:=fun y=>hf ob xs (by rw [← y];exact q);rw [aj nb];exact z
  · obtain ⟨m,z⟩:=I.base.tbls b ps q;have nb:b≠a:=fun y=>by rw [y,e] at z;injection z with z;exact n2 _ z
    exact ⟨m,by rw [aj nb];exact z⟩
  · rw [aj (nn _ I.free)];exact I.free
  · rw [aj (nn _ (I.freeC x c q))];exact I.freeC x c q
  · obtain ⟨h1,h2,h3⟩:=I.pin p hp;exact ⟨h1,by rw [aj (nn _ h2)];exact h2,h3⟩
  · by_cases hb:b=a
    · subst hb;rw [ac] at q;cases q;exact new.stay (fun c v _ q=>q) (fun c q=>by rw [aj (no c _ q)];exact q) fun c xs q=>by rw [aj (nt c xs q)];exact q
    · rw [aj hb] at q;exact (I.hok b v q).stay (fun c v _ q=>q) (fun c q=>by rw [aj (no c _ q)];exact q) fun c xs q=>by rw [aj (nt c xs q)];exact q
section
variable {prog:Program} {w:World} {A:Around} {E:Value→Shared→Prop} {s:Shared}
end
theorem Paired.nth {α β:Type} {R:α→β→Prop}:∀ {l:List α} {m:List β},Paired R l m→∀ (i:Nat) (x:α) (y:β),l[i]?=some x→m[i]?=some y→R x y
  | _,_,.nil,i,x,y,h,_=>by simp at h
  | _,_,.cons r t,0,x,y,h,h'=>by simp at h h';subst h h';exact r
  | _,_,.cons r t,i+1,x,y,h,h'=>Paired.nth t i x y (by simpa using h) (by simpa using h')
theorem pJ {P:Program} {w:World} {H:Hp} {h:Heap} {d:Addr} {o:Obj} {es:Array DictEntry} {ep:Nat} {kvs:List (List Key × V)} (ok:HOk P w H h) (e:H d=some (.frz o (.dT kvs))) (hd:o.data=.dict es ep) :
    h.get? d=some o∧o.ExactDict∧(d == sysModules)=false∧es.size=kvs.length∧∃ xs,KT H kvs xs∧es.toList=xs.map (entryOfKey (tupleKind (aK P w))):=by
  obtain ⟨ho,z,hs,xs,rel,o2,es2,ep2,ho2,c,dat,l,nd⟩:=(show ObjOk P w H h d (.frz o (.dT kvs)) from ok d _ e)
  rw [ho] at ho2;cases ho2;rw [hd] at dat;cases dat;exact ⟨ho,c,hs,by rw [size_of_entries l,← abk rel],xs,rel,l⟩
end L2
namespace L2
open PySem PySem.Spec PyProof.Rows PySem.W
section
variable {prog:Program} {w:World} {A:Around} {E:Value→Shared→Prop} {s:Shared}
end
end L2
namespace L2
theorem u1 {a:Nat} (h:a+64 < PySem.cLine):a+1 < PySem.cLine:=by lia
open PySem PySem.Spec PyProof.Rows
section
variable {prog:Program} {w:World} {A:Around} {E:Value→Shared→Prop} {s:Shared}
end
open PySem PySem.Spec PyProof.Rows
open PySem PySem.Spec PyProof.Rows
def Its (z:Str):It :=
  ⟨fun i _=>i < z.cps.size,fun i H x H'=>H'=H∧∃ c,z.cps[i]?=some c∧x=.str ⟨#[c]⟩,fun i _=>z.cps.size≤i⟩
theorem oo {P:Program} {w:World} {K:aab} {tg:Expr} (it:Addr) (z:Str) (t:Tok):Turn P w K tg (Its z) [it] it (fun i h=>h.IsStrIter it "str_ascii_iterator" z t i) where
  mem:=by simp
  obj:=fun i h st b hb=>by
    have e:b=it:=by simpa using hb
    subst e;obtain ⟨o,e,c,d⟩:=st;exact ⟨o,e,fun v z=>by rw [d] at z;cases z⟩
  keep:=fun i h h' st k=>by
    obtain ⟨o,e,r⟩:=st;exact ⟨o,k it (by simp) o e,r⟩
  item:=by
    intro X hP hw hK hc i pins s σ H E I hf st hg;subst hP hw hK;have hg:i < z.cps.size:=hg;obtain ⟨f0,f1,f2,f3,f4,f5⟩:=hf it (by simp);have hx:z.cps[i]?=some z.cps[i]:=by simp [hg]
    refine wpAny_pyNext_ascii_item st (c:=z.cps[i]) hx fun h' st' sb=>?_;have I1:Inv X pins σ H { s with heap:=h',toks:=s.toks+1 }:=I.turned (t':=s.toks+1) (fun b o hb e=>(sb.2 b hb).trans e) f0 f1 f3 f4 f5;obtain ⟨o,e,c,d⟩:=id st';exact ⟨_,rfl,mL (s:={ s with heap:=h',toks:=s.toks+1 }) e c d (by decide) ⟨.str ⟨#[z.cps[i]]⟩,H,I1,⟨_,rfl⟩,⟨rfl,_,hx,rfl⟩,st',fun b hb=>(hf b hb).1⟩⟩
  done:=by
    intro X hP hw hK hc i pins s σ H E I hf st hg;subst hP hw hK;have hg:z.cps.size≤i:=hg;obtain ⟨f0,f1,f2,f3,f4,f5⟩:=hf it (by simp);exact wpAny_pyNext_ascii_end (I.ok.hd hc) st (by simp [hg]) fun h' eb=>⟨rfl,I.turned (t':=s.toks) (fun b o hb e=>eb b o hb e) f0 f1 f3 f4 f5⟩
  self:=fun _ _ _ _ _ st h=>wpAny_pyIter_striter_ascii st h
def uL (tl:TE):TI:=fun σ H R=>tl σ H fun x H1=>∃ z,x=.str z∧z.cps.all (· < 128)=true∧R (Its z) H1
theorem se {X:Cx} {tg l:Expr} {tl:TE} (hl:PE X l tl):PI X tg l (uL tl):=by
  intro pins s σ H R I h;refine thn (hl pins s σ H _ I h) fun v s1 ⟨x,H1,I1,r1,q1⟩=>?_;obtain ⟨z,e,ha,q⟩:=q1;subst e;obtain ⟨t,rfl⟩:=r1;refine wpAny_pyIter_ascii ha ?_;refine ⟨s1.heap.objs.size,[s1.heap.objs.size],_,_,H1,rfl,I1.kept (t':=s1.toks) fun b o e=>aac _ e,oo _ z t,⟨_,aar _ rfl,rfl,rfl⟩,fun b hb=>?_,q⟩;have e:b=s1.heap.objs.size:=by simpa using hb
  subst e;exact I1.fpOk (aah _) (I1.hok.fresh (aah _))
theorem qS {z:Str} {g:TG} {tb:TS} {D:Ends} {σ:St} {H:Hp} (Pv:Nat→St→Hp→Prop) (h0:Pv 0 σ H)
    (hs:∀ i c σ H,z.cps[i]?=some c→Pv i σ H→g (.str ⟨#[c]⟩) σ H fun σ2 H2=>tb { D with nx:=Pv (i+1),ct:=Pv (i+1),bk:=D.nx } σ2 H2) (hd:∀ σ H,Pv z.cps.size σ H→D.nx σ H) :
    ∃ W:Nat→Nat→St→Hp→Prop,(∃ m,W 0 m σ H)∧∀ i m σ H,W i m σ H →
      ((Its z).stop i H∧D.nx σ H)∨((Its z).go i H∧∃ N:St→Hp→Prop,(∀ σ' H',N σ' H'→∃ m',m' < m∧W (i+1) m' σ' H')∧∀ x H',(Its z).yld i H x H'→g x σ H' fun σ2 H2=>tb { D with nx:=N,ct:=N,bk:=D.nx } σ2 H2):=by
  refine ⟨fun i m σ H=>m=z.cps.size - i∧i≤z.cps.size∧Pv i σ H,⟨z.cps.size,by simp,aaQ _,h0⟩,?_⟩;rintro i m σ H ⟨rfl,hi,p⟩;by_cases hlt:i < z.cps.size
  · refine .inr ⟨hlt,Pv (i+1),fun σ' H' p'=>⟨z.cps.size - (i+1),by lia,rfl,hlt,p'⟩,fun x H' y=>?_⟩;obtain ⟨e,c,y,ex⟩:=y;subst e ex;exact hs i c σ _ y p
  · have e:i=z.cps.size:=by lia
    subst e;exact .inl ⟨aah _,hd σ H p⟩
def uu (t u:TS):TS:=fun D σ H=>∃ J:St→Hp→Prop,t { D with nx:=J } σ H∧∀ σ' H',J σ' H'→u D σ' H'
theorem qt {X:Cx} {st:Stmt} {cM:List Stmt} {t u:TS} (h1:PS X st t) (h2:PSs X cM u):PSs X (st :: cM) (uu t u):=by
  intro pins s σ H D I h;obtain ⟨J,h,hJ⟩:=h;refine wpAny_execs_cons (thn (h1 pins s σ H { D with nx:=J } I h) fun f s1 q=>?_);cases f with
  | next =>
    obtain ⟨σ',H',I',q⟩:=q;exact h2 pins s1 σ' H' D I' (hJ σ' H' q)
  | ret v=>exact q
  | brk=>exact q
  | cont=>exact q
end L2
namespace PySem
open Sem (wp)
namespace F
end F
section
variable {prog:Program} {w:World} {A:Around} {E:Value→Shared→Prop} {h:Heap} {g:Array GenState} {d:Drawn} {t:Nat} {os:OsState} {a:Addr} {vs:Array Value}
end
end PySem
namespace L2
open PySem PySem.Spec PyProof.Rows
section
variable {prog:Program} {w:World} {A:Around} {E:Value→Shared→Prop} {s:Shared}
end
theorem Paired.app {α β:Type} {R:α→β→Prop} {a c:List α} {b d:List β} (h:Paired R a b) (k:Paired R c d):Paired R (a++c) (b++d):=by
  induction h with
  | nil=>exact k
  | cons x _ ih=>exact .cons x ih
open PySem PySem.Spec PyProof.Rows
theorem qh {X:Cx} (hc:X.calm=true):df X (.builtin "all") (fun xs H Q=>∃ (p:Addr) (bs:List Bool),xs=[.ref p]∧SqL X.K H p (bs.map V.bl)∧Q (.bl (bs.all id)) H):=by
  intro pins s σ H xs us Q I r h;obtain ⟨p,bs,rfl,hq,q⟩:=h;obtain ⟨u,rfl,rx⟩:=eK r;cases rx;obtain ⟨its,r',pl,hz⟩:=I.list hq;have hlen:=r'.length;rw [aan] at hlen;have hps:p < s.heap.objs.size:=by obtain ⟨o,n,ho,_⟩:=pl;exact aaf ho
  refine call_all_walk (wpAny_pyIter_list pl.isList ?_);refine ⟨s.heap.objs.size,_,_,_,_,_,fun i=>bs.getD i true,rfl,aci (A:=X.A.in1) (I.ok.hd hc) s.heap.objs.size p (aaq hps) its.toArray,⟨⟨_,aar _ rfl,rfl,rfl⟩,pl.isList.at fun o x=>aac _ x⟩,?_,?_⟩
  · intro i v s' Q' E' hP hQ';have hv:its.toArray[i]?=some v:=hP;have hv2:its[i]?=some v:=by simpa using hv
    have hi:i < bs.length:=by
      have:=(aai.mp hv2).1;lia
    have hb:(bs.map V.bl)[i]?=some (.bl bs[i]):=by rw [aaY,aad hi];rfl
    obtain ⟨u,hu,ru⟩:=r'.get hb;rw [hv2] at hu;cases hu;cases ru;have e:bs.getD i true=bs[i]:=by rw [aax,aad hi];rfl
    have hQ2:Q' (bs.getD i true) s':=hQ';rw [e] at hQ2;exact wpAny_pure hQ2
  · intro h' tk k;have I2:Inv X pins σ H { s with heap:=h',toks:=tk }:=by
      refine I.turnedL (fp:=[s.heap.objs.size]) (t':=tk) (fun b o hb x=>k b o (by simpa using hb) (aac _ x)) fun b hb=>?_;have e:b=s.heap.objs.size:=by simpa using hb
      subst e;exact I.fpOk (aah _) (I.hok.fresh (aah _))
    have e:(abd its.toArray.size).all (fun i=>bs.getD i true)=bs.all id:=by
      have e1:its.toArray.size=bs.length:=by simp;lia
      rw [e1];apply Bool.eq_iff_iff.mpr;rw [aaD,aaD];constructor
      · intro hh b hb;obtain ⟨i,hi,e⟩:=abF hb;have:=hh i (aa9.mpr hi);rw [aax,aad hi] at this;rw [← e];exact this
      · intro hh i hi;have hi:=aa9.mp hi;rw [aax,aad hi];exact hh _ (ace hi)
    rw [e];exact ⟨.bl (bs.all id),H,I2,rfl,q⟩
open PySem PySem.Spec PyProof.Rows
open PySem PySem.Spec PyProof.Rows
theorem jG {elt tg iter tg2 iter2:Expr} {ifs ifs2:List Expr} {G:List Comprehension} {k:Nat} (hk:G[k]?=some ⟨tg,iter,ifs,0⟩) (hk2:G[k+1]?=some ⟨tg2,iter2,ifs2,0⟩) {scope:Scope} {pos:Pos} {it acc:Value} {env:Env} :
    compTurn (.ListComp elt G scope pos) k it acc env=(do
      standAt iter.pos
      match ← pyNext it with
      | none=>pure (.done .next)
      | some v =>
        letOwnedTupleGo tg it v
        assign tg env v
        let mut ok:=true
        for c in ifs do
          if ok then ok ← isTrue c env (eval c env)
        if ok then do
          let x ← eval iter2 env
          standAt iter2.pos
          let x ← foldedSetIterable iter2 env x
          let i ← holding [x] (pyIter x)
          let _ ← runOwn (.compStart (.ListComp elt G scope pos) (k+1) i acc env) env
          again (.compLoop (.ListComp elt G scope pos) k it acc env)
        else again (.compLoop (.ListComp elt G scope pos) k it acc env)):=by
  unfold compTurn;simp only [hk,hk2];rfl
theorem iu {elt tg2 iter2:Expr} {ifs2:List Expr} {G:List Comprehension} {k:Nat} (hk:G[k]?=some ⟨tg2,iter2,ifs2,0⟩) (hk2:G[k+1]?=none) {scope:Scope} {pos:Pos} {it acc:Value} {env:Env} :
    compTurn (.ListComp elt G scope pos) k it acc env=(do
      standAt iter2.pos
      match ← pyNext it with
      | none=>pure (.done .next)
      | some v =>
        letOwnedTupleGo tg2 it v
        assign tg2 env v
        let mut ok:=true
        for c in ifs2 do
          if ok then ok ← isTrue c env (eval c env)
        if ok then
          (do let _ ← call (.builtin "list.append") [acc,← eval elt env])
        again (.compLoop (.ListComp elt G scope pos) k it acc env)):=by
  unfold compTurn;simp only [hk,hk2];rfl
theorem hU {prog:Program} {w:World} {A:Around} {R:Result→Shared→Prop} {s:Shared} {elt tg iter tg2 iter2:Expr} {ifs ifs2:List Expr} {G:List Comprehension} {k:Nat} (hk:G[k]?=some ⟨tg,iter,ifs,0⟩) (hk2:G[k+1]?=some ⟨tg2,iter2,ifs2,0⟩) {scope:Scope} {pos:Pos} {it acc:Value} {env:Env} (J:Nat→Shared→Prop) (hs2:∀ x,foldedSetIterable iter2 env x=pure x)
    (turn:∀ n s,J n s→wpAny (model prog w) A (pyNext it) (fun r s₁=>match r with
      | none=>R (.ok .next) s₁
      | some v=>wpAny (model prog w) A (letOwnedTupleGo tg it v) (fun _ s₁'=>wpAny (model prog w) A (assign tg env v) (fun _ s₂ =>
          wpAny (model prog w) A (forIn ifs true fun c r=>if r=true then do let ok ← isTrue c env (eval c env);pure (ForInStep.yield ok) else pure (ForInStep.yield r)) (fun ok s₃ =>
            if ok=true then wpAny (model prog w) A (eval iter2 env) (fun x s₄=>wpAny (model prog w) A (pyIter x) (fun it2 s₅ =>
              codeAny (model prog w) A (.compStart (.ListComp elt G scope pos) (k+1) it2 acc env) (fun r s₆=>match r with|.ok _=>∃ m,m < n∧J m s₆|.error _=>False) s₅) (fun _ _=>False) s₄) (fun _ _=>False) s₃
            else ∃ m,m < n∧J m s₃) (fun _ _=>False) s₂) (fun _ _=>False) s₁') (fun _ _=>False) s₁) (fun _ _=>False) s)
    (n:Nat) (h:J n s) :
    codeAny (model prog w) A (.compLoop (.ListComp elt G scope pos) k it acc env) R s:=by
  refine codeAny_loop rfl J (fun n s hI=>?_) n h;show wpAny _ A ((compTurn (.ListComp elt G scope pos) k it acc env).onRaise (fun x=>do noteFrame x env;theTreesLotGoes x)) _ _ s;refine wpAny_noted ?_;rw [jG hk hk2];refine wpAny_bind (wpAny_standAt (wpAny_bind (wpAny_mono (turn n s hI) (fun r s₁ h₁=>?_) fun _ _ h'=>h'.elim)));cases r with
  | none=>exact wpAny_pure h₁
  | some v =>
    refine wpAny_bind (wpAny_mono h₁ (fun _ s₁' h₁'=>?_) fun _ _ h'=>h'.elim);refine wpAny_bind (wpAny_mono h₁' (fun _ s₂ h₂=>wpAny_bind (wpAny_mono h₂ (fun ok s₃ h₃=>?_) fun _ _ h'=>h'.elim)) fun _ _ h'=>h'.elim);cases ok with
    | false=>exact wpAny_pure ⟨rfl,h₃⟩
    | true =>
      refine wpAny_bind (wpAny_mono h₃ (fun x s₄ h₄=>?_) fun _ _ h'=>h'.elim);refine wpAny_bind (wpAny_standAt (wpAny_bind (wpAny_of_eq (hs2 x) (wpAny_bind (wpAny_holding (wpAny_mono h₄ (fun it2 s₅ h₅=>?_) fun _ _ h'=>h'.elim))))));refine wpAny_bind (wpAny_runOwn (codeAny_mono h₅ fun r s₆ h₆=>?_));cases r with
      | ok f=>exact wpAny_pure ⟨rfl,h₆⟩
      | error e=>exact h₆.elim
theorem mf {prog:Program} {w:World} {A:Around} {R:Result→Shared→Prop} {s:Shared} {elt tg2 iter2:Expr} {ifs2:List Expr} {G:List Comprehension} {k:Nat} (hk:G[k]?=some ⟨tg2,iter2,ifs2,0⟩) (hk2:G[k+1]?=none) {scope:Scope} {pos:Pos} {it acc:Value} {env:Env} (J:Nat→Shared→Prop)
    (turn:∀ n s,J n s→wpAny (model prog w) A (pyNext it) (fun r s₁=>match r with
      | none=>R (.ok .next) s₁
      | some v=>wpAny (model prog w) A (letOwnedTupleGo tg2 it v) (fun _ s₁'=>wpAny (model prog w) A (assign tg2 env v) (fun _ s₂ =>
          wpAny (model prog w) A (forIn ifs2 true fun c r=>if r=true then do let ok ← isTrue c env (eval c env);pure (ForInStep.yield ok) else pure (ForInStep.yield r)) (fun ok s₃ =>
            if ok=true then wpAny (model prog w) A (eval elt env) (fun x s₄ =>
              wpAny (model prog w) A (call (.builtin "list.append") [acc,x]) (fun _ s₅=>∃ m,m < n∧J m s₅) (fun _ _=>False) s₄) (fun _ _=>False) s₃
            else ∃ m,m < n∧J m s₃) (fun _ _=>False) s₂) (fun _ _=>False) s₁') (fun _ _=>False) s₁) (fun _ _=>False) s)
    (n:Nat) (h:J n s) :
    codeAny (model prog w) A (.compLoop (.ListComp elt G scope pos) k it acc env) R s:=by
  refine codeAny_loop rfl J (fun n s hI=>?_) n h;show wpAny _ A ((compTurn (.ListComp elt G scope pos) k it acc env).onRaise (fun x=>do noteFrame x env;theTreesLotGoes x)) _ _ s;refine wpAny_noted ?_;rw [iu hk hk2];refine wpAny_bind (wpAny_standAt (wpAny_bind (wpAny_mono (turn n s hI) (fun r s₁ h₁=>?_) fun _ _ h'=>h'.elim)));cases r with
  | none=>exact wpAny_pure h₁
  | some v =>
    refine wpAny_bind (wpAny_mono h₁ (fun _ s₁' h₁'=>?_) fun _ _ h'=>h'.elim);refine wpAny_bind (wpAny_mono h₁' (fun _ s₂ h₂=>wpAny_bind (wpAny_mono h₂ (fun ok s₃ h₃=>?_) fun _ _ h'=>h'.elim)) fun _ _ h'=>h'.elim);cases ok with
    | false=>exact wpAny_pure ⟨rfl,h₃⟩
    | true =>
      exact wpAny_bind (wpAny_bind (wpAny_mono h₃ (fun x s₄ h₄=>wpAny_bind (wpAny_mono h₄ (fun _ s₅ h₅=>wpAny_pure (wpAny_pure ⟨rfl,h₅⟩)) fun _ _ h'=>h'.elim)) fun _ _ h'=>h'.elim))
theorem g_ {prog:Program} {w:World} {A:Around} {R:Result→Shared→Prop} {s:Shared} {elt tg2 iter2:Expr} {ifs2:List Expr} {G:List Comprehension} {k:Nat} (hk:G[k]?=some ⟨tg2,iter2,ifs2,0⟩) {scope:Scope} {pos:Pos} {it acc:Value} {env:Env}
    (h0:codeAny (model prog w) A (.compLoop (.ListComp elt G scope pos) k it acc env) R s)
    (h:wpAny (model prog w) A (pyIter it) (fun it' s'=>codeAny (model prog w) A (.compLoop (.ListComp elt G scope pos) k it' acc env) R s')
      (notedBy (model prog w) A env fun x s'=>R (.error x) s') s) :
    codeAny (model prog w) A (.compStart (.ListComp elt G scope pos) k it acc env) R s:=by
  refine codeAny_of_tree ?_;show wpAny _ _ ((compStart (.ListComp elt G scope pos) k it acc env).onRaise (fun x=>do noteFrame x env;standAt theWindowsPlace)) _ _ s;refine wpAny_notedAt ?_;unfold compStart;rw [show (clausesOf (.ListComp elt G scope pos))[k]?=some ⟨tg2,iter2,ifs2,0⟩ from hk];show wpAny _ _ (ask >>= _) _ _ s;refine wpAny_bind (wpAny_askSetting (wpAny_ite ?_));split
  · first
      | exact wpAny_bind (wpAny_pure (wpAny_pure (And.intro rfl h0)))
      | exact wpAny_pure (And.intro rfl h0)
  · first
      | exact wpAny_bind (wpAny_rule (wpAny_bind (wpAny_standAt (wpAny_bind (wpAny_mono h (fun it' s' h'=>wpAny_pure (And.intro rfl h')) fun _ _ x=>x)))))
      | (refine wpAny_bind (wpAny_rule ?_);show wpAny _ _ (standAt iter2.pos >>= _) _ _ s;exact wpAny_bind (wpAny_standAt (wpAny_bind (wpAny_mono h (fun it' s' h'=>wpAny_pure (And.intro rfl h')) fun _ _ x=>x))))
structure PCl (Y:Cx) (c:Comprehension) (r:TI × TG × TT):Prop where
  as:c.is_async=0
  it:PI Y c.target c.iter r.1
  tg:PG Y c.target r.2.1
  fs:gp Y c.ifs r.2.2
  st:∀ E x,foldedSetIterable c.iter E x=pure x
abbrev jL (g2:TG) (tt2:TT) (te:TE) (ys:List V) (σ2:St) (Fin:List V→St→Hp→Prop) (J2:It) (H4:Hp):Prop:=∃ W2:Nat→Nat→List V→St→Hp→Prop,(∃ m,W2 0 m ys σ2 H4)∧∀ i m ys σ H,W2 i m ys σ H →
  (J2.stop i H∧Fin ys σ H) ∨
  (J2.go i H∧ys.length < sizeLine∧∀ x H',J2.yld i H x H'→g2 x σ H' fun σ3 H5=>tt2 σ3 H5 fun b H6=>if b=true then te σ3 H6 fun v H7=>∃ m',m' < m∧W2 (i+1) m' (ys++[v]) σ3 H7 else ∃ m',m' < m∧W2 (i+1) m' ys σ3 H6)
abbrev LcT:List (TI × TG × TT)→TG→TT→TE→List V→St→(List V→St→Hp→Prop)→It→Hp→Prop
  | [],g,tt,te,ys,σ,Fn,J,H=>jL g tt te ys σ Fn J H
  | r :: rs,g,tt,te,ys,σ2,Fn,J2,H4=>∃ W2:Nat→Nat→List V→St→Hp→Prop,(∃ m,W2 0 m ys σ2 H4)∧∀ i m ys σ H,W2 i m ys σ H →
    (J2.stop i H∧Fn ys σ H) ∨
    (J2.go i H∧∀ x H',J2.yld i H x H'→g x σ H' fun σ3 H5=>tt σ3 H5 fun b H6=>if b=true then r.1 σ3 H6 (LcT rs r.2.1 r.2.2 te ys σ3 fun ys' σ' H7=>∃ m',m' < m∧W2 (i+1) m' ys' σ' H7) else ∃ m',m' < m∧W2 (i+1) m' ys σ3 H6)
abbrev Lp (D:Addr) (its:List Value) (k:Nat):Addr × Obj:=(D,{ cls:=.type "list",data:=.seq its.toArray k })
def sT (Y:Cx) (D:Addr) (P:List (Addr × Obj)) (Fin:List V→St→Hp→Prop) (s:Shared):Prop:=∃ ys its k σ H,Inv Y (Lp D its k :: P) σ H s∧Vals ys its∧ys.length≤sizeLine∧Fin ys σ H
theorem pB {Y:Cx} (hc:Y.calm=true) (hxe:Y.xe=fun _ _=>False) {D:Addr} (hDx:D∈Y.ex∨Y.s₀.heap.objs.size≤D) (hDc:∀ x c,Y.env.cells.lookup x=some c→c≠D) (hDp:∀ p∈Y.pn,p.1≠D)
    {elt:Expr} {te:TE} {G:List Comprehension} {scope:Scope} {pos:Pos} (hbe:PE Y elt te) :
    ∀ (rs:List (TI × TG × TT)) (c:Comprehension) (r:TI × TG × TT) (k:Nat),G[k]?=some c→PCl Y c r→Paired (PCl Y) (G.drop (k+1)) rs →
    ∀ (P:List (Addr × Obj)),(∀ p∈P,p.1≠D)→∀ {σ:St} {H:Hp} {s:Shared} {ys:List V} {its:List Value} {kk:Nat} {Fin:List V→St→Hp→Prop},Inv Y (Lp D its kk :: P) σ H s→Vals ys its→ys.length≤sizeLine →
      r.1 σ H (LcT rs r.2.1 r.2.2 te ys σ Fin) →
      wpAny (model Y.prog Y.w) Y.A (eval c.iter Y.env) (fun x s₄=>wpAny (model Y.prog Y.w) Y.A (pyIter x) (fun it2 s₅ =>
        codeAny (model Y.prog Y.w) Y.A (.compStart (.ListComp elt G scope pos) k it2 (.ref D) Y.env) (fun r s₆=>match r with|.ok _=>sT Y D P Fin s₆|.error _=>False) s₅) (fun _ _=>False) s₄) (fun _ _=>False) s:=by
  intro rs;have xe:∀ e s,Y.xe e s→False:=fun e s z=>by rw [hxe] at z;exact z
  induction rs with
  | nil =>
    intro c r k hk hcl hG P hP σ H s ys its kk Fin I rv hz h;have hk2:G[k+1]?=none:=by
      have l:=abk hG;rw [aby] at l;exact List.getElem?_eq_none (by simp at l;lia)
    obtain ⟨tg,iter,ifs,as⟩:=c;have as0:as=0:=hcl.as;subst as0;refine wpAny_mono (hcl.it _ s σ H _ I h) (fun v s1 h1=>wpAny_mono h1 (fun itv s2 h2=>?_) fun e s z=>(xe e s z).elim) fun e s z=>(xe e s z).elim;obtain ⟨it,fp,tn,J,H2,e,I2,T,st2,f2,W,⟨m0,w0⟩,turn⟩:=h2;subst e;have neD:∀ b∈fp,D≠b:=fun b hb=>(f2 b hb).2.2.2.2.2 (Lp D its kk) (aaa _ aav);have fpYs:∀ {H':Hp} {n:Nat} {its':List Value},(∀ b∈fp,H' b=none)→∀ b∈fp,fI Y (Lp D its' n :: P) H' b:=fun {H' n its'} hn b hb=>by
      refine ⟨hn b hb,(f2 b hb).2.1,(f2 b hb).2.2.1,(f2 b hb).2.2.2.1,(f2 b hb).2.2.2.2.1,fun p hp=>?_⟩;rcases aap.mp hp with z|z
      · exact (f2 b hb).2.2.2.2.2 p (aaz _ z)
      · rcases aaj.mp z with z|z
        · rw [z];exact neD b hb
        · exact (f2 b hb).2.2.2.2.2 p (aaa _ (aal _ z))
    have loop:codeAny (model Y.prog Y.w) Y.A (.compLoop (.ListComp elt G scope pos) k (.ref it) (.ref D) Y.env) (fun r s₆=>match r with|.ok _=>sT Y D P Fin s₆|.error _=>False) s2:=by
      refine mf hk hk2 (fun n s'=>∃ i ys its k σ H',Inv Y (Lp D its k :: P) σ H' s'∧Vals ys its∧ys.length≤sizeLine∧tn i s'.heap∧(∀ b∈fp,H' b=none)∧W i n ys σ H') ?_ m0 ⟨0,ys,its,kk,σ,H2,I2,rv,hz,st2,fun b hb=>(f2 b hb).1,w0⟩;rintro n s3 ⟨i,ys3,its3,k3,σ3,H3,I3,rv3,hz3,st3,fr3,w3⟩;rcases turn i n ys3 σ3 H3 w3 with ⟨stop,qn⟩|⟨go,hlt,step⟩
      · refine wpAny_mono (T.done Y rfl rfl rfl hc i _ s3 _ H3 (fun _ _=>False) I3 (fpYs fr3) st3 stop) (fun r s4 ⟨hr,I4⟩=>?_) fun _ _ z=>z;subst hr;exact ⟨ys3,its3,k3,σ3,H3,I4,rv3,hz3,qn⟩
      · refine wpAny_mono (T.item Y rfl rfl rfl hc i _ s3 _ H3 (fun _ _=>False) I3 (fpYs fr3) st3 go) (fun r s4 ⟨u,hr,h4⟩=>?_) fun _ _ z=>z;subst hr;refine wpAny_mono h4 (fun _ s5 ⟨x,H5,I5,r5,y5,st5,fr5⟩=>?_) fun _ _ z=>z;have I5':=I5.pinned (fpYs fr5) (T.obj _ _ st5);refine wpAny_mono (hcl.tg _ s5 _ H5 x u _ I5' r5 (step x H5 y5)) (fun _ s6 ⟨σ6,H6,I6,q6⟩=>?_) fun e s z=>(xe e s z).elim;refine wpAny_mono (hcl.fs _ s6 σ6 H6 _ I6 q6) (fun ok s7 ⟨H7,I7,q7⟩=>?_) fun e s z=>(xe e s z).elim;have again:∀ {ys':List V} {its':List Value} {k':Nat} {σ':St} {H':Hp} {s':Shared},Inv Y (Lp D its' k' :: (P++aZ fp s5.heap)) σ' H' s'→Vals ys' its'→ys'.length≤sizeLine→(∃ m',m' < n∧W (i+1) m' ys' σ' H') →
            ∃ m,m < n∧∃ i ys its k σ H',Inv Y (Lp D its k :: P) σ H' s'∧Vals ys its∧ys.length≤sizeLine∧tn i s'.heap∧(∀ b∈fp,H' b=none)∧W i m ys σ H':=fun {ys' its' k' σ' H' s'} Z rv' hz' hw=>by
          obtain ⟨m',hm,w'⟩:=hw;have pn:∀ {b:Addr} {o:Obj},b∈fp→s5.heap.get? b=some o→_:=fun {b o} hb e=>Z.pin (b,o) (aaa _ (aal _ (aaa _ (a8 hb e))));refine ⟨m',hm,i+1,ys',its',k',σ',H',Inv.unpinned (pl:=aZ fp s5.heap) Z,rv',hz',T.keep _ _ _ st5 fun b hb o e=>(pn hb e).1,fun b hb=>?_,w'⟩;obtain ⟨o,e,d⟩:=T.obj _ _ st5 b hb;exact (pn hb e).2.1
        cases ok with
        | false =>
          rw [if_neg aae] at q7 ⊢;exact again I7 rv3 hz3 q7
        | true =>
          rw [if_pos rfl] at q7 ⊢;refine wpAny_mono (hbe _ s7 σ6 H7 _ I7 q7) (fun xv s15 ⟨v,H15,I15,r15,q15⟩=>?_) fun e s z=>(xe e s z).elim;have pD:=I15.pin (Lp D its3 k3) (aaa _ aav);have hlen:=rv3.length;refine append_at pD.1 (fun h16 hs16 hD16=>?_) (by rw [aag];lia);have I16:Inv Y (P++aZ fp s5.heap) σ6 H15 s15:=I15.pins_of fun p hp=>I15.pin p (aaa _ (aal _ hp));have I17:Inv Y (P++aZ fp s5.heap) σ6 H15 { s15 with heap:=h16 }:=I16.turned (t':=s15.toks) (it:=D) (fun b o hb e=>hs16.extBut b o hb e) pD.2.1 pD.2.2.1 hDx hDc fun p hp=>by
            rcases aap.mp hp with z|z
            · exact hDp p z
            · rcases aap.mp z with z|z
              · exact hP p z
              · exact abt (neD _ (cR z).1)
          have I18:Inv Y (Lp D (its3++[xv]) (k3+1) :: (P++aZ fp s5.heap)) σ6 H15 { s15 with heap:=h16 }:=I17.pins_of fun p hp=>by
            rcases aaj.mp hp with z|z
            · rw [z];refine ⟨?_,pD.2.1,pD.2.2.1,pD.2.2.2.1,fun v z=>by cases z⟩;rw [List.push_toArray] at hD16;exact hD16
            · exact I17.pin p (aaa _ z)
          exact again I18 (rv3.append (.cons r15 .nil)) (by rw [aao,abL];exact hlt) q15
    exact g_ hk loop (T.self _ 0 _ _ _ st2 loop)
  | cons r2 rs ih =>
    intro c r k hk hcl hG P hP σ H s ys its kk Fin I rv hz h;obtain ⟨c2,hk2,hcl2,hG2⟩:∃ c2,G[k+1]?=some c2∧PCl Y c2 r2∧Paired (PCl Y) (G.drop (k+1+1)) rs:=by
      cases e:G.drop (k+1) with
      | nil=>rw [e] at hG;cases hG
      | cons c2 l =>
        rw [e] at hG;have e1:G[k+1]?=some c2:=by
          have:=congrArg (·[0]?) e;simpa using this
        have e2:G.drop (k+1+1)=l:=by rw [← List.drop_drop,e];rfl
        cases hG with
        | cons a b=>exact ⟨c2,e1,a,by rw [e2];exact b⟩
    obtain ⟨tg,iter,ifs,as⟩:=c;have as0:as=0:=hcl.as;subst as0;obtain ⟨tg2,iter2,ifs2,as2⟩:=c2;have as20:as2=0:=hcl2.as;subst as20;refine wpAny_mono (hcl.it _ s σ H _ I h) (fun v s1 h1=>wpAny_mono h1 (fun itv s2 h2=>?_) fun e s z=>(xe e s z).elim) fun e s z=>(xe e s z).elim;obtain ⟨it,fp,tn,J,H2,e,I2,T,st2,f2,W,⟨m0,w0⟩,turn⟩:=h2;subst e;have neD:∀ b∈fp,D≠b:=fun b hb=>(f2 b hb).2.2.2.2.2 (Lp D its kk) (aaa _ aav);have fpYs:∀ {H':Hp} {n:Nat} {its':List Value},(∀ b∈fp,H' b=none)→∀ b∈fp,fI Y (Lp D its' n :: P) H' b:=fun {H' n its'} hn b hb=>by
      refine ⟨hn b hb,(f2 b hb).2.1,(f2 b hb).2.2.1,(f2 b hb).2.2.2.1,(f2 b hb).2.2.2.2.1,fun p hp=>?_⟩;rcases aap.mp hp with z|z
      · exact (f2 b hb).2.2.2.2.2 p (aaz _ z)
      · rcases aaj.mp z with z|z
        · rw [z];exact neD b hb
        · exact (f2 b hb).2.2.2.2.2 p (aaa _ (aal _ z))
    have loop:codeAny (model Y.prog Y.w) Y.A (.compLoop (.ListComp elt G scope pos) k (.ref it) (.ref D) Y.env) (fun r s₆=>match r with|.ok _=>sT Y D P Fin s₆|.error _=>False) s2:=by
      refine hU hk hk2 (fun n s'=>∃ i ys its k σ H',Inv Y (Lp D its k :: P) σ H' s'∧Vals ys its∧ys.length≤sizeLine∧tn i s'.heap∧(∀ b∈fp,H' b=none)∧W i n ys σ H') (hcl2.st _) ?_ m0 ⟨0,ys,its,kk,σ,H2,I2,rv,hz,st2,fun b hb=>(f2 b hb).1,w0⟩;rintro n s3 ⟨i,ys3,its3,k3,σ3,H3,I3,rv3,hz3,st3,fr3,w3⟩;rcases turn i n ys3 σ3 H3 w3 with ⟨stop,qn⟩|⟨go,step⟩
      · refine wpAny_mono (T.done Y rfl rfl rfl hc i _ s3 _ H3 (fun _ _=>False) I3 (fpYs fr3) st3 stop) (fun r s4 ⟨hr,I4⟩=>?_) fun _ _ z=>z;subst hr;exact ⟨ys3,its3,k3,σ3,H3,I4,rv3,hz3,qn⟩
      · refine wpAny_mono (T.item Y rfl rfl rfl hc i _ s3 _ H3 (fun _ _=>False) I3 (fpYs fr3) st3 go) (fun r s4 ⟨u,hr,h4⟩=>?_) fun _ _ z=>z;subst hr;refine wpAny_mono h4 (fun _ s5 ⟨x,H5,I5,r5,y5,st5,fr5⟩=>?_) fun _ _ z=>z;have I5':=I5.pinned (fpYs fr5) (T.obj _ _ st5);refine wpAny_mono (hcl.tg _ s5 _ H5 x u _ I5' r5 (step x H5 y5)) (fun _ s6 ⟨σ6,H6,I6,q6⟩=>?_) fun e s z=>(xe e s z).elim;refine wpAny_mono (hcl.fs _ s6 σ6 H6 _ I6 q6) (fun ok s7 ⟨H7,I7,q7⟩=>?_) fun e s z=>(xe e s z).elim;have again:∀ {ys':List V} {its':List Value} {k':Nat} {σ':St} {H':Hp} {s':Shared},Inv Y (Lp D its' k' :: (P++aZ fp s5.heap)) σ' H' s'→Vals ys' its'→ys'.length≤sizeLine→(∃ m',m' < n∧W (i+1) m' ys' σ' H') →
            ∃ m,m < n∧∃ i ys its k σ H',Inv Y (Lp D its k :: P) σ H' s'∧Vals ys its∧ys.length≤sizeLine∧tn i s'.heap∧(∀ b∈fp,H' b=none)∧W i m ys σ H':=fun {ys' its' k' σ' H' s'} Z rv' hz' hw=>by
          obtain ⟨m',hm,w'⟩:=hw;have pn:∀ {b:Addr} {o:Obj},b∈fp→s5.heap.get? b=some o→_:=fun {b o} hb e=>Z.pin (b,o) (aaa _ (aal _ (aaa _ (a8 hb e))));refine ⟨m',hm,i+1,ys',its',k',σ',H',Inv.unpinned (pl:=aZ fp s5.heap) Z,rv',hz',T.keep _ _ _ st5 fun b hb o e=>(pn hb e).1,fun b hb=>?_,w'⟩;obtain ⟨o,e,d⟩:=T.obj _ _ st5 b hb;exact (pn hb e).2.1
        cases ok with
        | false =>
          rw [if_neg aae] at q7 ⊢;exact again I7 rv3 hz3 q7
        | true =>
          rw [if_pos rfl] at q7 ⊢;refine wpAny_mono (ih ⟨tg2,iter2,ifs2,0⟩ r2 (k+1) hk2 hcl2 hG2 (P++aZ fp s5.heap) (fun p hp=>?_) I7 rv3 hz3 q7) (fun x s8 h8=>wpAny_mono h8 (fun it2 s9 h9=>codeAny_mono h9 fun r s10 h10=>?_) fun _ _ z=>z) fun _ _ z=>z
          · rcases aap.mp hp with z|z
            · exact hP p z
            · exact abt (neD _ (cR z).1)
          · cases r with
            | error e=>exact h10.elim
            | ok f =>
              obtain ⟨ys',its',k',σ',H',Z,rv',hz',w'⟩:=h10;exact again Z rv' hz' w'
    exact g_ hk loop (T.self _ 0 _ _ _ st2 loop)
abbrev qj (cap:List (Option Nat)) (g:TG) (tt:TT) (r2:TI × TG × TT) (rs:List (TI × TG × TT)) (te:TE) (σ:St) (Q:VK) (J:It) (H1:Hp):Prop:=∃ W:Nat→Nat→List V→Hp→Prop,(∃ m,W 0 m [] H1)∧∀ i m ys H,W i m ys H →
  (J.stop i H∧∀ p,H p=none→Q (.ref p) (upd H p (.lst ys))) ∨
  (J.go i H∧∀ x H',J.yld i H x H'→g x (aI cap σ) H' fun σ2 H2=>tt σ2 H2 fun b H3=>if b=true then r2.1 σ2 H3 (LcT rs r2.2.1 r2.2.2 te ys σ2 fun ys' _ H4=>∃ m',m' < m∧W (i+1) m' ys' H4) else ∃ m',m' < m∧W (i+1) m' ys H3)
def uk (cap:List (Option Nat)) (wi:TI) (g:TG) (tt:TT) (r2:TI × TG × TT) (rs:List (TI × TG × TT)) (te:TE):TE:=fun σ H Q=>wi σ H (qj cap g tt r2 rs te σ Q)
section
variable {X:Cx}
theorem oS {elt tg iter:Expr} {ifs:List Expr} {G:List Comprehension} {r2:TI × TG × TT} {rs:List (TI × TG × TT)} {scope:Scope} {pos:Pos} {cl:List (Str × Addr)} {NY:List Str} {cap:List (Option Nat)} {wi:TI} {g:TG} {tt:TT} {te:TE} (hc:X.calm=true) (hi:PI X tg iter wi)
    (hclos:closureFor scope X.env=pure cl) (hci:CellsIn X.env cl) (hcap:CapOk X.env (relabel scope X.env) X.N NY cap)
    (hb:∀ fp s H C,PG (ah X scope cl NY fp s H C) tg g∧gp (ah X scope cl NY fp s H C) ifs tt∧Paired (PCl (ah X scope cl NY fp s H C)) G (r2 :: rs)∧PE (ah X scope cl NY fp s H C) elt te)
    (hkind:scope.kind=.function:=by rfl) (hnc:(scope.names.all fun y=>y.2 != .cell)=true:=by rfl)
    (hnames:(scope.names.all fun y=>y.2 != .local || scope.names.lookup y.1 == some .local)=true:=by rfl)
    (hhas:((relabel scope X.env).names.all fun p=>(p.2 != .cell && p.2 != .free) || (cl.lookup p.1).isSome)=true:=by rfl)
    (hs:∀ x,foldedSetIterable iter X.env x=pure x:=by intro _;rfl) :
    PE X (.ListComp elt (⟨tg,iter,ifs,0⟩ :: G) scope pos) (uk cap wi g tt r2 rs te):=by
  have hnc':∀ y∈scope.names,y.2≠.cell:=fun y hy=>by
    have q:=aaD.mp hnc y hy;simpa using q
  have hnames':∀ y∈scope.names,y.2=.local→scope.names.lookup y.1=some .local:=fun y hy e=>by
    have q:=aaD.mp hnames y hy;rw [e] at q;simpa using q
  intro pins s σ H Q I h;rw [eval_ListComp];refine wpAny_comprehension_free (use:=none) rfl hs hclos hkind hnames' (wpAny_mono (hi pins s σ H _ I h) (fun v s1 h1=>wpAny_mono h1 (fun itv s2 h2=>?_) fun _ _ e=>e) fun _ _ e=>e);obtain ⟨it,fp,tn,J,H2,e,I2,T,st2,f2,W,⟨m0,w0⟩,turn⟩:=h2;subst e;refine wpAny_newObj_type (wpAny_newFunctionEnv hnc' (by intro y hy;simp at hy) (fun h₁ hns₁ hsb₁=>?_) hkind);dsimp only at hns₁ hsb₁ ⊢;generalize hH2:s2.heap.push { cls:=.type "list",dict:=none,data:=.seq ([]:List Value).toArray }=G2 at hns₁ hsb₁ ⊢;have hC:G2.objs.size=s2.heap.objs.size+1:=by rw [← hH2,abP]
  have hDC:s2.heap.objs.size≠G2.objs.size:=by rw [hC];exact aaq (abQ _)
  have hDlt:s2.heap.objs.size≤G2.objs.size:=by rw [hC];exact abU _
  have below:∀ b,b < s2.heap.objs.size→b≠G2.objs.size∧b≠s2.heap.objs.size:=fun b hb=>⟨by rw [hC];exact aaq (abj hb),aaq hb⟩
  have old:∀ b o,s2.heap.get? b=some o→h₁.get? b=some o:=fun b o e=>hsb₁.extBut b o (below b (aaf e)).1 (aac _ (hH2 ▸ aac _ e));have hacc:h₁.get? s2.heap.objs.size=some { cls:=.type "list",data:=.seq ([]:List Value).toArray 0 }:=hsb₁.extBut _ _ hDC (aac _ (hH2 ▸ aar _ rfl));have fpl:∀ b∈fp,b < s2.heap.objs.size:=fun b hb=>by
    obtain ⟨o,e,_⟩:=T.obj _ _ st2 b hb;exact aaf e
  have freshD:H2 s2.heap.objs.size=none:=I2.hok.fresh (aah _);have freshC:H2 G2.objs.size=none:=I2.hok.fresh hDlt;have cellLt:∀ x c,X.env.cells.lookup x=some c→c < s2.heap.objs.size:=fun x c e=>by
    obtain ⟨v,q⟩:=I2.cell x c e;exact q.lt
  have hclX:∀ x c,cl.lookup x=some c→X.env.cells.lookup x=some c:=fun x c e=>hci.get e;obtain ⟨hbg,hbt,hbG,hbe⟩:=hb fp s2 H2 G2.objs.size;obtain ⟨c2,G',eG,hcl2,hG'⟩:∃ c2 G',G=c2 :: G'∧PCl (ah X scope cl NY fp s2 H2 G2.objs.size) c2 r2∧Paired (PCl (ah X scope cl NY fp s2 H2 G2.objs.size)) G' rs:=by
    cases hbG with
    | cons a b=>exact ⟨_,_,rfl,a,b⟩
  obtain ⟨tg2,iter2,ifs2,as2⟩:=c2;have as20:as2=0:=hcl2.as;subst as20;have okY:(ah X scope cl NY fp s2 H2 G2.objs.size).Ok:=by
    refine ⟨I2.ok.mod,hkind,I2.ok.glob,I2.ok.blt,hDlt,fun x y c e1 e2=>I2.ok.inj x y c (hclX x c e1) (hclX y c e2),fun x hx=>?_,fun x c hf _=>?_,I2.ok.hd,I2.ok.frames,.inl rfl,fun b hb=>⟨(below b (fpl b hb)).1,fun x c e z=>?_⟩,I2.bs,
      aaJ I2.ok.bsz I2.sz,fun b o e hb=>?_,fun b hb hz=>?_,I2.stack,I2.stkFree⟩
    · have hx':(relabel scope X.env).names.lookup x=some .cell∨(relabel scope X.env).names.lookup x=some .free:=hx;have key:∀ k,(relabel scope X.env).names.lookup x=some k→(k=.cell∨k=.free)→∃ c,cl.lookup x=some c:=fun k e hk=>by
        have q:=aaD.mp hhas (x,k) (aaU e);have q':(cl.lookup x).isSome=true:=by
          rcases hk with rfl|rfl <;> simpa using q
        exact aa8.mp q'
      rcases hx' with e|e
      · exact key _ e (.inl rfl)
      · exact key _ e (.inr rfl)
    · exact absurd (show false=true from hf) aae
    · exact (f2 b hb).2.2.2.2.1 x c (hclX x c e) z
    · rcases (f2 b hb).2.2.2.1 with z|z
      · exact I2.ok.noex b o e z
      · exact absurd (aam (aaf (I2.ok.bs b o e).1) z) (aaT _)
    · rcases aaj.mp (I2.stkSub b hz) with z|z
      · exact (f2 b hb).2.1 z
      · exact (f2 b hb).2.2.1 z
  have fpYs:∀ {H':Hp} {n:Nat} {its:List Value},(∀ b∈fp,H' b=none)→∀ b∈fp,fI (ah X scope cl NY fp s2 H2 G2.objs.size) [(s2.heap.objs.size,{ cls:=.type "list",data:=.seq its.toArray n })] H' b:=fun {H' n its} hn b hb=>by
    refine ⟨hn b hb,(below b (fpl b hb)).1,fun hz=>?_,.inl hb,fun x c e=>(f2 b hb).2.2.2.2.1 x c (hclX x c e),fun p hp=>?_⟩
    · rcases aaj.mp (I2.stkSub b hz) with z|z
      · exact (f2 b hb).2.1 z
      · exact (f2 b hb).2.2.1 z
    · have e:p=(s2.heap.objs.size,{ cls:=.type "list",data:=.seq its.toArray n }):=by simpa [ah] using hp
      rw [e];exact abt (below b (fpl b hb)).2
  have nostk:∀ b,s2.heap.objs.size≤b→b∉frs X.stack:=fun b hb hz=>by
    rcases aaj.mp (I2.stkSub b hz) with z|z
    · have:=I2.lt;rw [← z] at this;exact absurd (aam this hb) (aaT _)
    · exact I2.nofs hb z
  have IY0:Inv (ah X scope cl NY fp s2 H2 G2.objs.size) [(s2.heap.objs.size,{ cls:=.type "list",data:=.seq ([]:List Value).toArray 0 })] (aI cap σ) H2 { s2 with heap:=h₁,toks:=s2.toks+([]:List (Str × Value)).length }:=by
    refine ⟨okY,rfl,I2.bare,Un.kept old,⟨_,hns₁,fun j x v e1 e2 e3=>?_⟩,fun x c e=>?_,freshC,fun x c e=>I2.freeC x c (hclX x c e),fun p hp=>?_,I2.hok.kept old,?_⟩
    · obtain ⟨i,h1,h2,h3,h4⟩:=CapOk.get (σ:=σ) hcap e1 e2;obtain ⟨m,hn,hl⟩:=I2.loc;have vis:Vis X.env.scope x:=by rcases h3 with z|z;exact .inr (.inl z);exact .inr (.inr z)
      obtain ⟨u,r,l⟩:=hl i x v h1 h2 vis;refine ⟨u,r,.inr ⟨h4,?_⟩⟩;rcases l with ⟨k,_⟩|⟨_,c,e,z⟩
      · rcases h3 with z|z <;> (rw [k] at z;cases z)
      · obtain ⟨c',e'⟩:=okY.has x h4;have e':cl.lookup x=some c':=e';have e'':=hclX x c' e';rw [e] at e'';cases e'';obtain ⟨o,ho,hd⟩:=z;exact ⟨c,e',o,old _ _ ho,hd⟩
    · obtain ⟨v,o,ho,hd⟩:=I2.cell x c (hclX x c e);exact ⟨v,o,old _ _ ho,hd⟩
    · have e:p=(s2.heap.objs.size,{ cls:=.type "list",data:=.seq ([]:List Value).toArray 0 }):=by simpa [ah] using hp
      rw [e];exact ⟨hacc,freshD,hDC,nostk _ (aah _),fun v z=>by cases z⟩
    · show (aI cap σ).length=NY.length;unfold aI;rw [aan];exact hcap.len
  have hcY:(ah X scope cl NY fp s2 H2 G2.objs.size).calm=true:=hc;have stW:tn 0 h₁:=T.keep _ _ _ st2 fun b _ o e=>old b o e;have loop:∀ s₃:Shared,s₃={ s2 with heap:=h₁,toks:=s2.toks+([]:List (Str × Value)).length } →
      codeAny (model X.prog X.w) X.A (.compLoop (.ListComp elt (⟨tg,iter,ifs,0⟩ :: G) scope pos) 0 (.ref it) (.ref s2.heap.objs.size) (compEnvC scope cl G2.objs.size X.env))
        (compPost (model X.prog X.w) X.A X.xe none (EP X pins σ Q) (.ref s2.heap.objs.size) G2.objs.size) s₃:=by
    rintro s₃ rfl;refine hU (k:=0) rfl (show (⟨tg,iter,ifs,0⟩ :: G:List Comprehension)[1]?=some ⟨tg2,iter2,ifs2,0⟩ by rw [eG];rfl) (fun n s'=>∃ i ys its k H',Inv (ah X scope cl NY fp s2 H2 G2.objs.size) [(s2.heap.objs.size,{ cls:=.type "list",data:=.seq its.toArray k })] (aI cap σ) H' s'∧Vals ys its∧ys.length≤sizeLine∧tn i s'.heap∧(∀ b∈fp,H' b=none)∧W i n ys H') (hcl2.st _) ?_ m0
      ⟨0,[],[],0,H2,IY0,.nil,aaQ _,stW,fun b hb=>(f2 b hb).1,w0⟩
    rintro n s3 ⟨i,ys,its,k,H3,I3,rv,hz,st3,fr3,w3⟩;rcases turn i n ys H3 w3 with ⟨stop,qn⟩|⟨go,step⟩
    · refine wpAny_mono (T.done (ah X scope cl NY fp s2 H2 G2.objs.size) rfl rfl rfl hcY i _ s3 _ H3 (fun _ _=>False) I3 (fpYs fr3) st3 stop) (fun r s4 ⟨hr,I4⟩=>?_) fun _ _ z=>z;subst hr;obtain ⟨m,hnC,_⟩:=id I4.loc;have hnC:s4.heap.Ns G2.objs.size m:=hnC;refine ⟨m,hnC,fun h' hsb=>?_⟩;have pD:=(I4.pin (s2.heap.objs.size,{ cls:=.type "list",data:=.seq its.toArray k }) (by simp [ah]))
      have un:Un (frs X.stack) fp H2 H3 s2.heap s4.heap:=I4.base;have I5:Inv X pins σ H3 s4:=I2.call' (ch:=fp) I4.os un I4.hok I4.bare fun b hb=>⟨(f2 b hb).2.2.2.1,(f2 b hb).2.1,(f2 b hb).2.2.2.2.1,(f2 b hb).2.2.2.2.2⟩
      have cC:H3 G2.objs.size=none:=I4.free;have szX:X.s₀.heap.objs.size≤s2.heap.objs.size:=I2.sz;have I6:Inv X pins σ H3 { s4 with heap:=h' }:=I5.turned (t':=s4.toks) (it:=G2.objs.size) (fun b o hb e=>hsb.extBut b o hb e) cC (aaN (aam I2.lt hDlt)) (.inr (aaJ szX hDlt))
        (fun x c e z=>absurd (cellLt x c e) (by rw [z];exact ab8.mpr hDlt)) (fun p hp z=>absurd (aaf (I2.pin p hp).1) (by rw [z];exact ab8.mpr hDlt))
      have I7:Inv X pins σ (upd H3 s2.heap.objs.size (.lst ys)) { s4 with heap:=h' }:=I6.adopt pD.2.1 szX (aaN I2.lt) (fun x c e=>aaq (cellLt x c e)) (fun p hp=>aaq (aaf (I2.pin p hp).1))
        ⟨hz,its,k,rv,hsb.extBut _ _ hDC pD.1⟩
      exact ⟨.ref s2.heap.objs.size,_,I7,rfl,qn _ pD.2.1⟩
    · refine wpAny_mono (T.item (ah X scope cl NY fp s2 H2 G2.objs.size) rfl rfl rfl hcY i _ s3 _ H3 (fun _ _=>False) I3 (fpYs fr3) st3 go) (fun r s4 ⟨u,hr,h4⟩=>?_) fun _ _ z=>z;subst hr;refine wpAny_mono h4 (fun _ s5 ⟨x,H5,I5,r5,y5,st5,fr5⟩=>?_) fun _ _ z=>z;have I5':=I5.pinned (fpYs fr5) (T.obj _ _ st5);refine wpAny_mono (hbg _ s5 _ H5 x u _ I5' r5 (step x H5 y5)) (fun _ s6 ⟨σ6,H6,I6,q6⟩=>?_) fun _ _ z=>z;refine wpAny_mono (hbt _ s6 σ6 H6 _ I6 q6) (fun ok s7 ⟨H7,I7,q7⟩=>?_) fun _ _ z=>z;have lenY:∀ {σ':St} {pn} {H'} {s'},Inv (ah X scope cl NY fp s2 H2 G2.objs.size) pn σ' H' s'→(aI cap σ).length=σ'.length:=fun {σ' pn H' s'} Z=>IY0.len.trans Z.len.symm;have captured:∀ {σ':St} {pn} {H'} {s'},Inv (ah X scope cl NY fp s2 H2 G2.objs.size) pn σ' H' s'→Inv (ah X scope cl NY fp s2 H2 G2.objs.size) pn (aI cap σ) H' s':=fun {σ' pn H' s'} Z=>by
        refine ⟨Z.ok,Z.os,Z.bare,Z.base,?_,Z.cell,Z.free,Z.freeC,Z.pin,Z.hok,IY0.len⟩;obtain ⟨m,hn,_⟩:=Z.loc;refine ⟨m,hn,fun j x v e1 e2 e3=>?_⟩;obtain ⟨i',h1,h2,h3,h4⟩:=CapOk.get (σ:=σ) hcap e1 e2;obtain ⟨m',hn',hl⟩:=I2.loc;have vis:Vis X.env.scope x:=by rcases h3 with z|z;exact .inr (.inl z);exact .inr (.inr z)
        obtain ⟨u,r,l⟩:=hl i' x v h1 h2 vis;refine ⟨u,r,.inr ⟨h4,?_⟩⟩;rcases l with ⟨kk,_⟩|⟨_,c,e,z⟩
        · rcases h3 with z|z <;> (rw [kk] at z;cases z)
        · obtain ⟨c',e'⟩:=okY.has x h4;have e':cl.lookup x=some c':=e';have e'':=hclX x c' e';rw [e] at e'';cases e'';obtain ⟨o,ho,hd⟩:=z;have nfp:c∉fp:=fun hz=>(f2 c hz).2.2.2.2.1 x c e rfl;obtain ⟨sl,q⟩:=Z.base.any (show s2.heap.get? c=some o from ho) (I2.freeC x c e) nfp;exact ⟨c,e',_,q,hd⟩
      have again:∀ {ys':List V} {its':List Value} {k':Nat} {σ':St} {H':Hp} {s':Shared},Inv (ah X scope cl NY fp s2 H2 G2.objs.size) ([(s2.heap.objs.size,{ cls:=.type "list",data:=.seq its'.toArray k' })]++aZ fp s5.heap) σ' H' s'→Vals ys' its'→ys'.length≤sizeLine →
          (∃ m',m' < n∧W (i+1) m' ys' H')→∃ m,m < n∧∃ i ys its k H',Inv (ah X scope cl NY fp s2 H2 G2.objs.size) [(s2.heap.objs.size,{ cls:=.type "list",data:=.seq its.toArray k })] (aI cap σ) H' s'∧Vals ys its∧ys.length≤sizeLine∧tn i s'.heap∧(∀ b∈fp,H' b=none)∧W i m ys H':=fun {ys' its' k' σ' H' s'} Z rv' hz' hw=>by
        obtain ⟨m',hm,w'⟩:=hw;refine ⟨m',hm,i+1,ys',its',k',H',captured Z.unpinned,rv',hz',T.keep _ _ _ st5 fun b hb o e=>(Z.pin (b,o) (aaa _ (aaa _ (a8 hb e)))).1,fun b hb=>?_,w'⟩;obtain ⟨o,e,d⟩:=T.obj _ _ st5 b hb;exact (Z.pin (b,o) (aaa _ (aaa _ (a8 hb e)))).2.1
      cases ok with
      | false =>
        rw [if_neg aae] at q7 ⊢;exact again I7 rv hz q7
      | true =>
        rw [if_pos rfl] at q7 ⊢;have fpD:∀ p∈aZ fp s5.heap,p.1≠s2.heap.objs.size:=fun p hp=>(below _ (fpl _ (cR hp).1)).2;have go2:=pB (Y:=ah X scope cl NY fp s2 H2 G2.objs.size) hcY rfl (D:=s2.heap.objs.size) (.inr (aah _)) (fun x c e=>aaq (cellLt x c (hclX x c e))) (fun p hp=>absurd hp (by simp [ah])) (elt:=elt) (G:=⟨tg,iter,ifs,0⟩ :: G) (scope:=scope) (pos:=pos) hbe rs ⟨tg2,iter2,ifs2,0⟩ r2 1 (by rw [eG];rfl) hcl2 (by rw [eG];exact hG') (aZ fp s5.heap) fpD I7 rv hz q7;refine wpAny_mono go2 (fun x s8 h8=>wpAny_mono h8 (fun it2 s9 h9=>codeAny_mono h9 fun r s10 h10=>?_) fun _ _ z=>z) fun _ _ z=>z;cases r with
        | error e=>exact h10.elim
        | ok f =>
          obtain ⟨ys',its',k',σ',H',Z,rv',hz',w'⟩:=h10;exact again Z rv' hz' w'
  exact codeAny_compStart_list (loop _ rfl) (T.self _ 0 _ _ _ stW (loop _ rfl))
end
abbrev rA (g2:TG) (tt2:TT) (te:TE) (ys:List V) (σ2:St) (Fin:List V→Hp→Prop) (J2:It) (H4:Hp):Prop:=jL g2 tt2 te ys σ2 (fun ys _ H=>Fin ys H) J2 H4
abbrev rD (cap:List (Option Nat)) (g:TG) (tt:TT) (wi2:TI) (g2:TG) (tt2:TT) (te:TE) (σ:St) (Q:VK) (J:It) (H1:Hp):Prop:=qj cap g tt (wi2,g2,tt2) [] te σ Q J H1
def uo (cap:List (Option Nat)) (wi:TI) (g:TG) (tt:TT) (wi2:TI) (g2:TG) (tt2:TT) (te:TE):TE:=fun σ H Q=>wi σ H (rD cap g tt wi2 g2 tt2 te σ Q)
abbrev qi (g2:TG) (tt2:TT) (wi3:TI) (g3:TG) (tt3:TT) (te:TE) (ys:List V) (σ2:St) (Fin:List V→Hp→Prop) (J2:It) (H4:Hp):Prop:=LcT [(wi3,g3,tt3)] g2 tt2 te ys σ2 (fun ys _ H=>Fin ys H) J2 H4
abbrev rB (cap:List (Option Nat)) (g:TG) (tt:TT) (wi2:TI) (g2:TG) (tt2:TT) (wi3:TI) (g3:TG) (tt3:TT) (te:TE) (σ:St) (Q:VK) (J:It) (H1:Hp):Prop:=qj cap g tt (wi2,g2,tt2) [(wi3,g3,tt3)] te σ Q J H1
def um (cap:List (Option Nat)) (wi:TI) (g:TG) (tt:TT) (wi2:TI) (g2:TG) (tt2:TT) (wi3:TI) (g3:TG) (tt3:TT) (te:TE):TE:=fun σ H Q=>wi σ H (rB cap g tt wi2 g2 tt2 wi3 g3 tt3 te σ Q)
section
variable {X:Cx}
theorem si {elt tg iter tg2 iter2:Expr} {ifs ifs2:List Expr} {scope:Scope} {pos:Pos} {cl:List (Str × Addr)} {NY:List Str} {cap:List (Option Nat)} {wi wi2:TI} {g g2:TG} {tt tt2:TT} {te:TE} (hc:X.calm=true) (hi:PI X tg iter wi)
    (hclos:closureFor scope X.env=pure cl) (hci:CellsIn X.env cl) (hcap:CapOk X.env (relabel scope X.env) X.N NY cap)
    (hb:∀ fp s H C,PG (ah X scope cl NY fp s H C) tg g∧gp (ah X scope cl NY fp s H C) ifs tt∧PI (ah X scope cl NY fp s H C) tg2 iter2 wi2∧PG (ah X scope cl NY fp s H C) tg2 g2∧gp (ah X scope cl NY fp s H C) ifs2 tt2∧PE (ah X scope cl NY fp s H C) elt te)
    (hkind:scope.kind=.function:=by rfl) (hnc:(scope.names.all fun y=>y.2 != .cell)=true:=by rfl)
    (hnames:(scope.names.all fun y=>y.2 != .local || scope.names.lookup y.1 == some .local)=true:=by rfl)
    (hhas:((relabel scope X.env).names.all fun p=>(p.2 != .cell && p.2 != .free) || (cl.lookup p.1).isSome)=true:=by rfl)
    (hs:∀ x,foldedSetIterable iter X.env x=pure x:=by intro _;rfl) (hs2:∀ E x,foldedSetIterable iter2 E x=pure x:=by intro _ _;rfl) :
    PE X (.ListComp elt [⟨tg,iter,ifs,0⟩,⟨tg2,iter2,ifs2,0⟩] scope pos) (uo cap wi g tt wi2 g2 tt2 te) :=
  oS (r2:=(wi2,g2,tt2)) (rs:=[]) hc hi hclos hci hcap (fun fp s H C=>by obtain ⟨hbg,hbt,i2,t2,f2,hbe⟩:=hb fp s H C;exact ⟨hbg,hbt,(.cons ⟨rfl,i2,t2,f2,hs2⟩ .nil),hbe⟩) hkind hnc hnames hhas hs
theorem sh {elt tg iter tg2 iter2 tg3 iter3:Expr} {ifs ifs2 ifs3:List Expr} {scope:Scope} {pos:Pos} {cl:List (Str × Addr)} {NY:List Str} {cap:List (Option Nat)} {wi wi2 wi3:TI} {g g2 g3:TG} {tt tt2 tt3:TT} {te:TE} (hc:X.calm=true) (hi:PI X tg iter wi)
    (hclos:closureFor scope X.env=pure cl) (hci:CellsIn X.env cl) (hcap:CapOk X.env (relabel scope X.env) X.N NY cap)
    (hb:∀ fp s H C,PG (ah X scope cl NY fp s H C) tg g∧gp (ah X scope cl NY fp s H C) ifs tt∧PI (ah X scope cl NY fp s H C) tg2 iter2 wi2∧PG (ah X scope cl NY fp s H C) tg2 g2∧gp (ah X scope cl NY fp s H C) ifs2 tt2∧PI (ah X scope cl NY fp s H C) tg3 iter3 wi3∧PG (ah X scope cl NY fp s H C) tg3 g3∧gp (ah X scope cl NY fp s H C) ifs3 tt3∧PE (ah X scope cl NY fp s H C) elt te)
    (hkind:scope.kind=.function:=by rfl) (hnc:(scope.names.all fun y=>y.2 != .cell)=true:=by rfl)
    (hnames:(scope.names.all fun y=>y.2 != .local || scope.names.lookup y.1 == some .local)=true:=by rfl)
    (hhas:((relabel scope X.env).names.all fun p=>(p.2 != .cell && p.2 != .free) || (cl.lookup p.1).isSome)=true:=by rfl)
    (hs:∀ x,foldedSetIterable iter X.env x=pure x:=by intro _;rfl) (hs2:∀ E x,foldedSetIterable iter2 E x=pure x:=by intro _ _;rfl) (hs3:∀ E x,foldedSetIterable iter3 E x=pure x:=by intro _ _;rfl) :
    PE X (.ListComp elt [⟨tg,iter,ifs,0⟩,⟨tg2,iter2,ifs2,0⟩,⟨tg3,iter3,ifs3,0⟩] scope pos) (um cap wi g tt wi2 g2 tt2 wi3 g3 tt3 te) :=
  oS (r2:=(wi2,g2,tt2)) (rs:=[(wi3,g3,tt3)]) hc hi hclos hci hcap (fun fp s H C=>by obtain ⟨hbg,hbt,i2,t2,f2,i3,t3,f3,hbe⟩:=hb fp s H C;exact ⟨hbg,hbt,(.cons ⟨rfl,i2,t2,f2,hs2⟩ (.cons ⟨rfl,i3,t3,f3,hs3⟩ .nil)),hbe⟩) hkind hnc hnames hhas hs
end
open PySem PySem.Spec PyProof.Rows
def fX (h:Heap) (S:List Addr):Heap:=⟨h.objs.mapIdx fun i o=>if i∈S then { o with data:=.freed } else o,h.life⟩
theorem dc {h:Heap} {S:List Addr} {b:Addr} (hb:b∈S):(fX h S).get? b=none:=by
  unfold fX Heap.get?;simp only [Array.getElem?_mapIdx];cases e:h.objs[b]? with
  | none=>rfl
  | some o=>simp [hb]
theorem gQ {h:Heap} {S:List Addr} {b:Addr} (hb:b∉S):(fX h S).get? b=h.get? b:=by
  unfold fX Heap.get?;simp only [Array.getElem?_mapIdx];cases e:h.objs[b]? with
  | none=>rfl
  | some o=>simp [hb]
theorem dD (h:Heap) (S:List Addr):(fX h S).StaysIn h:=fun b o e=>by
  by_cases hb:b∈S
  · rw [dc hb] at e;cases e
  · rw [gQ hb] at e;exact e
theorem cE {h h1 base:Heap} {S:List Addr}:∀ {l:List Env},(∀ b∈l.filterMap (·.frame),b∈S)→h1.FunFrames base l→h1.FunFrames (fX h S) l
  | [],_,_=>trivial
  | env :: cM,hs,⟨hk,⟨L,o,hf,hn,ho,hd⟩,hr⟩=>by
    refine ⟨hk,⟨L,o,hf,dc (hs L ?_),ho,hd⟩,cE (fun b hb=>hs b ?_) hr⟩
    · rw [abh,hf];exact aav
    · rw [abh,hf];exact aal _ hb
def Trc (h:Heap) (e T:Addr) (cls:Value):Prop:=∃ oe vs oT ts a0,h.get? e=some oe∧(oe.cls=cls∧vs[0]?=some a0)∧oe.data=.fields vs∧vs[1]?=some (.ref T)∧T≠e∧h.get? T=some oT∧oT.data=.fields ts∧ts[3]?=some .none
section
variable {M:Model} {A:Around} {E:Value→Shared→Prop} {s:Shared}
structure Lft (l:List Env) (e:Addr) (x:List Addr) (h h':Heap):Prop where
  keep:∀ b o,b∉l.filterMap (·.frame)→b≠e→b∉x→h.get? b=some o→h'.get? b=some o
  slot:∀ b o,b∈l.filterMap (·.frame)→h.get? b=some o→∃ sl,h'.get? b=some { o with slots:=sl }
theorem jw {base b0:Heap} {l:List Env} {e:Addr} {x:List Addr} {cls:Value} {h h':Heap} (hl:h.FunFrames b0 l) {a0:Value} (L:Heap.LeftW (fX h (e :: x++l.filterMap (·.frame))) l e cls a0 h h') (he:h.get? e≠none) :
    Lft l e x h h'∧∃ T,Trc h' e T cls∧(T∈x∨h.get? T=none):=by
  obtain ⟨k1,k2,k3,k4⟩:=L;refine ⟨⟨fun b o hb hbe hx ho=>k1 b o (by rw [gQ];exact ho;simp [hb,hbe,hx]),fun b o hb ho=>?_⟩,?_⟩
  · obtain ⟨_,o',ho',hd⟩:=hl.mem hb;rw [ho] at ho';cases ho';exact k4 b o ho hd
  · obtain ⟨oe,vs,T,oT,ts,h1,h2,h3,h4,h5,h6,h7,h8,h9⟩:=k3;refine ⟨T,⟨oe,vs,oT,ts,a0,h1,h2,h3,h4,h6,h7,h8,h9⟩,?_⟩;by_cases hT:T∈x
    · exact .inl hT
    · refine .inr ?_;have nf:T∉l.filterMap (·.frame):=fun z=>by
        obtain ⟨_,o,ho,hd⟩:=k2.mem z;rw [h7] at ho;cases ho;exact hd ts h8
      rw [gQ (by simp [hT,h6,nf])] at h5;exact h5
theorem kA {b0:Heap} {env:Env} {outer:List Env} {L e:Addr} {oe:Obj} {vs:Array Value} {Q:Unit→Shared→Prop} (hfr:A.frames=some (env :: outer)) (hl:s.heap.FunFrames b0 (env :: outer)) (hf:env.frame=some L)
    (he:s.heap.get? e=some oe) (hd:oe.data=.fields vs) (h1:vs[1]?=some .none) {a0:Value} (h0:vs[0]?=some a0)
    (h:∀ h' T,Lft (env :: outer) e [] s.heap h'→Trc h' e T oe.cls→s.heap.get? T=none→Q () { s with heap:=h' }):wpAny M A (leaving env (.ref e)) Q E s:=by
  refine wpAny_leaving_firstW (a0:=a0) (base:=fX s.heap (e :: []++(env :: outer).filterMap (·.frame))) hfr (cE (fun b hb=>aaa _ hb) hl) hf he (dD _ _) (dc (by simp)) hd h1 h0 fun h' L'=>?_;obtain ⟨l',T,t,z⟩:=jw (base:=b0) hl L' (by rw [he];simp);rcases z with z|z
  · exact absurd z (by simp)
  · exact h h' T l' t z
theorem lY {b0:Heap} {env:Env} {outer:List Env} {L e T:Addr} {cls:Value} {Q:Unit→Shared→Prop} (hfr:A.frames=some (env :: outer)) (hl:s.heap.FunFrames b0 (env :: outer)) (hf:env.frame=some L)
    (ht:Trc s.heap e T cls)
    (h:∀ h' T',Lft (env :: outer) e [T] s.heap h'→Trc h' e T' cls→(T'=T∨s.heap.get? T'=none)→Q () { s with heap:=h' }):wpAny M A (leaving env (.ref e)) Q E s:=by
  obtain ⟨oe,vs,oT,ts,a0,h1,h2,h3,h4,h6,h7,h8,h9⟩:=ht;refine wpAny_leaving_nextW (a0:=a0) (base:=fX s.heap (e :: [T]++(env :: outer).filterMap (·.frame))) (cls:=cls) hfr (cE (fun b hb=>aaa _ hb) hl) hf ⟨oe,vs,T,oT,ts,h1,h2,h3,h4,dc (by simp),h6,h7,h8,h9⟩ (dD _ _) (dc (by simp)) fun h' L'=>?_;obtain ⟨l',T',t,z⟩:=jw (base:=b0) hl L' (by rw [h1];simp);refine h h' T' l' t ?_;rcases z with z|z
  · exact .inl (by simpa using z)
  · exact .inr z
end
def CX1 (P:Program) (w:World):CXT:=fun outer H s E e s'=>∃ (ea T C:Addr) (H':Hp),e=.ref ea∧s'.os=s.os∧AllBare s'.gens∧Un (frs outer) [] H H' s.heap s'.heap∧HOk P w H' s'.heap∧s.heap.get? ea=none∧s.heap.get? T=none∧H' ea=none∧H' T=none∧Trc s'.heap ea T (.ref C)∧E (.ref C) none H'
theorem fZ {h h' base:Heap}:∀ {l:List Env},(∀ b∈frs l,∀ o,h.get? b=some o→∃ sl,h'.get? b=some { o with slots:=sl })→h.FunFrames base l→h'.FunFrames base l
  | [],_,_=>trivial
  | env :: cM,k,⟨hk,⟨L,o,hf,hn,ho,hd⟩,hr⟩=>by
    have m:∀ b,b=L∨b∈frs cM→b∈frs (env :: cM):=fun b hb=>by
      show b∈(env :: cM).filterMap (·.frame);rw [abh,hf];rcases hb with rfl|hb
      · exact aav
      · exact aal _ hb
    obtain ⟨sl,e⟩:=k L (m L (.inl rfl)) o ho;exact ⟨hk,⟨L,_,hf,hn,e,hd⟩,fZ (fun b hb=>k b (m b (.inr hb))) hr⟩
theorem gZ {env:Env} {outer:List Env} {L:Addr} (hf:env.frame=some L):frs (env :: outer)=L :: frs outer:=by
  show (env :: outer).filterMap (·.frame)=_;rw [abh,hf];rfl
theorem mr {env:Env} {outer:List Env} {L e:Addr} {x:List Addr} {H0 H':Hp} {h0 h1 h2:Heap} (hf:env.frame=some L) (u:Un (frs (env :: outer)) [] H0 H' h0 h1) (l:Lft (env :: outer) e x h1 h2) (hL:h0.get? L=none) (he:h0.get? e=none) (hx:∀ b∈x,h0.get? b=none) :
    Un (frs outer) [] H0 H' h0 h2:=by
  have ne:∀ b o,h0.get? b=some o→b≠L∧b≠e∧b∉x:=fun b o q=>⟨(fun z=>by rw [z,hL] at q;cases q),(fun z=>by rw [z,he] at q;cases q),(fun z=>by rw [hx b z] at q;cases q)⟩
  have fr:∀ b,b∈frs (env :: outer)↔b=L∨b∈frs outer:=fun b=>by rw [gZ hf,aaj]
  have fwd:∀ b o,h0.get? b=some o→∀ o',h1.get? b=some o'→∃ sl,h2.get? b=some { o' with slots:=sl }:=fun b o q o' q'=>by
    by_cases hb:b∈frs (env :: outer)
    · exact l.slot b o' hb q'
    · exact ⟨o'.slots,l.keep b o' hb (ne b o q).2.1 (ne b o q).2.2 q'⟩
  refine ⟨fun b o q n hb _=>?_,fun b o q n hb _=>?_,fun b o q n h=>u.free b o q n h,fun b o q h=>?_,u.tups,u.frzs,u.tbls⟩
  · have nb:b∉frs (env :: outer):=fun z=>((fr b).mp z).elim (ne b o q).1 hb;exact l.keep b o nb (ne b o q).2.1 (ne b o q).2.2 (u.keep b o q n nb (by simp))
  · obtain ⟨sl,e1⟩:=u.slot b o q n ((fr b).mpr (.inr hb)) (by simp);obtain ⟨sl',e2⟩:=fwd b o q _ e1;exact ⟨sl',e2⟩
  · obtain ⟨o',e1⟩:=u.there b o q h;obtain ⟨sl,e2⟩:=fwd b o q o' e1;exact ⟨_,e2⟩
theorem kP {P:Program} {w:World} {l:List Env} {e:Addr} {x:List Addr} {H:Hp} {h1 h2:Heap} (ok:HOk P w H h1) (f:Lft l e x h1 h2) (hl:∀ b∈frs l,H b=none) (he:H e=none) (hx:∀ b∈x,H b=none):HOk P w H h2:=fun b u q =>
  (ok b u q).stay (fun c v hc r=>by
    have hn:H c≠none:=by rcases hc with rfl|hc;rw [q];simp;rw [hc];simp
    exact f.keep c v (fun z=>hn (hl c z)) (fun z=>hn (by rw [z];exact he)) (fun z=>hn (hx c z)) r) (fun _ r=>r) fun _ _ r=>r
section
variable {P:Program} {w:World} {K:aab} {mg:Str→Option Value} {base:Heap} {N:List Str} {qual:Str} {scope:Scope} {f:Addr} {cd:Value} {A:Around} {outer:List Env} {s0:Shared} {H0:Hp} {E:XK}
theorem rV {pins:List (Addr × Obj)} {σ:St} {H:Hp} {s:Shared} {h':Heap} {e C:Addr} {args:List Value} (I:Inv (eJ (CX1 P w) P w K mg base N qual scope f cd A outer s0 H0 E) pins σ H s) (mk:Heap.MadeExcOf s.heap h' e (.ref C) args) (q:E (.ref C) none H) :
    (eJ (CX1 P w) P w K mg base N qual scope f cd A outer s0 H0 E).xe (.ref e) { s with heap:=h' }:=by
  have hf:(envOfC qual scope s0.heap.objs.size f cd).frame=some s0.heap.objs.size:=rfl;obtain ⟨t,he,ht,_⟩:=mk.there;have fr:h'.FunFrames base (envOfC qual scope s0.heap.objs.size f cd :: outer):=fZ (fun b _ o ho=>⟨o.slots,mk.keeps b o ho⟩) I.stack;have un1:Un (frs (envOfC qual scope s0.heap.objs.size f cd :: outer)) [] H0 H s0.heap h':=(Un.mono I.base (fun b hb=>by rw [gZ hf];exact aal _ hb) (fun b hb=>hb)).trans (Un.kept mk.keeps);have none_of:∀ b,s.heap.get? b=none→s0.heap.get? b=none∧H b=none:=fun b hb=>by
    constructor
    · cases z:s0.heap.get? b with
      | none=>rfl
      | some o =>
        obtain ⟨o',z'⟩:=I.base.there b o z (fun z=>nomatch z);rw [hb] at z';cases z'
    · cases z:H b with
      | none=>rfl
      | some o =>
        obtain ⟨u,hu⟩:=(I.hok b o z).get;rw [hb] at hu;cases hu
  refine kA (b0:=base) (s:={ s with heap:=h' }) (oe:={ cls:=.ref C,data:=.fields #[.ref t,.none,.none,.none,.bool false,.none] }) I.ok.frames fr hf he rfl rfl (a0:=.ref t) rfl fun h2 T lf tr hT=>?_;have hT':s.heap.get? T=none:=by
    cases z:s.heap.get? T with
    | none=>rfl
    | some o =>
      have:=mk.keeps T o z;have hT:h'.get? T=none:=hT;rw [hT] at this;cases this
  have hL:s0.heap.get? s0.heap.objs.size=none:=by
    cases z:s0.heap.get? s0.heap.objs.size with
    | none=>rfl
    | some o=>exact absurd (aaf z) (aaT _)
  exact ⟨e,T,C,H,rfl,I.os,I.bare,mr hf un1 lf hL (none_of e mk.new).1 (fun b hb=>nomatch hb),kP (I.hok.kept mk.keeps) lf I.stkFree (none_of e mk.new).2 (fun b hb=>nomatch hb),(none_of e mk.new).1,(none_of T hT').1,(none_of e mk.new).2,(none_of T hT').2,tr,q⟩
theorem dn:gb (CX1 P w) (eJ (CX1 P w) P w K mg base N qual scope f cd A outer s0 H0 E) E:=by
  rintro pins σ H s e s' I ⟨ea,T,C,H',rfl,os,bare,un,hok,n1,n2,m1,m2,tr,q⟩;have hf:(envOfC qual scope s0.heap.objs.size f cd).frame=some s0.heap.objs.size:=rfl;have un:Un (frs (envOfC qual scope s0.heap.objs.size f cd :: outer)) [] H H' s.heap s'.heap:=un;have fr:s'.heap.FunFrames base (envOfC qual scope s0.heap.objs.size f cd :: outer):=fZ (fun b hb o ho=>un.any ho (I.stkFree b hb) (fun z=>nomatch z)) I.stack;have un1:Un (frs (envOfC qual scope s0.heap.objs.size f cd :: outer)) [] H0 H' s0.heap s'.heap:=(Un.mono I.base (fun b hb=>by rw [gZ hf];exact aal _ hb) (fun b hb=>hb)).trans un;have none_of:∀ b,s.heap.get? b=none→s0.heap.get? b=none:=fun b hb=>by
    cases z:s0.heap.get? b with
    | none=>rfl
    | some o =>
      obtain ⟨o',z'⟩:=I.base.there b o z (fun z=>nomatch z);rw [hb] at z';cases z'
  have hL:s0.heap.get? s0.heap.objs.size=none:=by
    cases z:s0.heap.get? s0.heap.objs.size with
    | none=>rfl
    | some o=>exact absurd (aaf z) (aaT _)
  have frN:∀ b∈frs (envOfC qual scope s0.heap.objs.size f cd :: outer),H' b=none:=fun b hb=>by
    obtain ⟨_,o,ho,_⟩:=(show s.heap.FunFrames base (envOfC qual scope s0.heap.objs.size f cd :: outer) from I.stack).mem hb;exact un.free b o ho (I.stkFree b hb) (fun z=>nomatch z)
  refine lY (b0:=base) I.ok.frames fr hf tr fun h2 T' lf tr' hT=>?_;have x1:∀ b∈[T],s0.heap.get? b=none:=fun b hb=>by rw [aak.mp hb];exact none_of T n2
  have x2:∀ b∈[T],H' b=none:=fun b hb=>by rw [aak.mp hb];exact m2
  refine ⟨ea,T',C,H',rfl,os.trans I.os,bare,mr hf un1 lf hL (none_of ea n1) x1,kP hok lf frN m1 x2,none_of ea n1,?_,m1,?_,tr',q⟩
  · rcases hT with rfl|hT
    · exact none_of _ n2
    · cases z:s0.heap.get? T' with
      | none=>rfl
      | some o =>
        obtain ⟨o',z'⟩:=un1.there T' o z (fun z=>nomatch z);rw [hT] at z';cases z'
  · rcases hT with rfl|hT
    · exact m2
    · cases z:H' T' with
      | none=>rfl
      | some o =>
        obtain ⟨u,hu⟩:=(hok T' o z).get;rw [hT] at hu;cases hu
end
structure EC (K:aab) (C:Addr):Prop where
  ex:∃ nm q N bs bm hdct sn sub ab col dd k0 k1 k2 k3 k5 B newId initId bmB mN,ExcBaseFacts B newId initId bmB∧bm.contains (.type "BaseException")=true∧mN ("__init__":Str)=none ∧
    ∀ h,K.In h→h.get? C=some (excClassObj nm q C N bs bm hdct sn sub ab col dd k0 k1 k2 k3 k5 newId)∧h.Ns N mN∧OwnTail h bmB bm
def Rz (X:Cx) (E:XK):Prop:=∀ (pins:List (Addr × Obj)) (σ:St) (H:Hp) (s:Shared) (h':Heap) (e C:Addr) (args:List Value),Inv X pins σ H s→Heap.MadeExcOf s.heap h' e (.ref C) args→E (.ref C) none H→X.xe (.ref e) { s with heap:=h' }
theorem rz1 {P:Program} {w:World} {K:aab} {mg:Str→Option Value} {base:Heap} {N:List Str} {qual:Str} {scope:Scope} {f:Addr} {cd:Value} {A:Around} {outer:List Env} {s0:Shared} {H0:Hp} {E:XK} :
    Rz (eJ (CX1 P w) P w K mg base N qual scope f cd A outer s0 H0 E) E:=fun _ _ _ _ _ _ _ _ I mk q=>rV I mk q
theorem j8 {X:Cx} {E:XK} {C:Addr} {x t:Str} {np p cpos pos:Pos} {j:Nat} (hz:Rz X E) (ec:EC X.K C) (hc:X.calm=true) (hg:Gl X x) (hm:X.mg x=some (.ref C))
    (hs:backTo cpos (starEach [.Constant (.str t) j p] X.env)=[(false,eval (.Constant (.str t) j p) X.env)]:=by rfl) (hdb:(x == ("__debug__":Str))=false:=by decide) :
    PS X (.Raise (some (.Call (.Name x np) [.Constant (.str t) j p] [] cpos)) none pos) (fun _ _ H=>E (.ref C) none H):=by
  intro pins s σ H D I h;obtain ⟨nm,q,N,bs,bm,hdct,sn,sub,ab,col,dd,k0,k1,k2,k3,k5,B,newId,initId,bmB,mN,F,hb,hni,hK⟩:=ec.ex;refine wpAny_Raise_call_subT (nm:=nm) (q:=q) (N:=N) (bs:=bs) (hdct:=hdct) (sn:=sn) (sub:=sub) (ab:=ab) (col:=col) (dd:=dd) (k0:=k0) (k1:=k1) (k2:=k2) (k3:=k3) (k5:=k5) F hb (I.ok.hd hc) (by rw [hs];rfl) hni (eh I hg hm ⟨rfl,?_⟩ hdb);rw [hs];refine Calls.evalArgs_plain (Calls.spliced_cons (Calls.Constant_str (Calls.spliced_nil ?_)));have I1:Inv X pins σ H { s with toks:=s.toks+1 }:=I.tok _;obtain ⟨h1,h2,h3⟩:=hK _ I1.kIn;exact ⟨rfl,(by show 1≤sizeLine;decide),h1,h2,h3,fun h' e mk=>hz pins σ H _ h' e C _ I1 mk h⟩
theorem Fun.ok1 {P:Program} {w:World} {K:aab} {mg:Str→Option Value} {base:Heap} {x qual:Str} {st:Stmt} {f:Addr} {fd:FuncData} {N ps:List Str} {k:Nat} {sp:Sp} (F:Fun K x qual st f fd) (S:FnScope N ps (ai st)) (len:∀ vs H Q E,sp vs H Q E→vs.length=ps.length)
    (hbody:∀ (cdv:Value) (A:Around) (outer:List Env) (s:Shared) (H:Hp) (vs:List V) (Q:VK) (E:XK),Room k (A.deeper (envOfC qual (ai st) s.heap.objs.size f cdv))→sp vs H Q E →
      ∃ t,PSs (eJ (CX1 P w) P w K mg base N qual (ai st) f cdv A outer s H E) (aQ st) t∧t { nx:=fun _ H'=>Q .non H',rt:=Q } (start N vs) H):FnOk P w K mg base (CX1 P w) (k+1) f fd ps sp:=by
  obtain ⟨oc,od,kV,doc,pm,an,cdv,ct,osl,rfl,lk,hcd⟩:=F.ex;exact mM lk hcd S len fun A outer s H vs Q E hr hsp=>hbody cdv A outer s H vs Q E hr hsp
def cH (P:Program) (w:World) (K:aab) (mg:Str→Option Value) (base:Heap) (x:Str) (k:Nat) (ps:List Str) (sp:Sp):Prop :=
  ∃ f fd,FnOk P w K mg base (CX1 P w) k f fd ps sp∧Binds K fd ps []∧aaO K (.ref f)=true∧mg x=some (.ref f)
theorem bW {X:Cx} {E:XK} {x:Str} {k k':Nat} {ps:List Str} {sp:Sp} {e:Expr} {es:List Expr} {t:TA} {p pos:Pos} (C:cH X.prog X.w X.K X.mg X.base x k ps sp) (hx:gb (CX1 X.prog X.w) X E) (hr:Room k' X.A) (hk:k≤k') (hg:Gl X x) (ha:PA X (e :: es) t)
    (hdb:(x == ("__debug__":Str))=false:=by decide) (he:starEach (e :: es) X.env=(false,eval e X.env) :: starEach es X.env:=by rfl) (hpl:(backTo pos (starEach es X.env)).any (·.1)=false:=by rfl) :
    PE X (.Call (.Name x p) (e :: es) [] pos) (iC sp [] E t):=by
  obtain ⟨f,fd,F,b,kp,m⟩:=C;exact ji F (hr.mono hk) hg m kp b .nil hx ha hdb he hpl
def ia (X:Cx) (pins:List (Addr × Obj)) (a:Addr):Prop:=X.s₀.heap.get? a=none∧a≠X.env.locals∧(∀ x c,X.env.cells.lookup x=some c→c≠a)∧∀ p∈X.pn++pins,p.1≠a
def om (X:Cx) (pins0:List (Addr × Obj)) (Cat:St→Addr→Hp→Prop):Cx :=
  { X with pn:=X.pn++pins0,xe:=fun e s'=>∃ ea T C H' σ,e=Value.ref ea∧Inv X pins0 σ H' s'∧Trc s'.heap ea T (.ref C)∧H' ea=none∧H' T=none∧ia X pins0 ea∧ia X pins0 T∧Cat σ C H' }
section
variable {X:Cx} {pins0 pins:List (Addr × Obj)} {Cat:St→Addr→Hp→Prop} {σ:St} {H:Hp} {s:Shared}
theorem qO (I:Inv X pins0 σ H s):Inv (om X pins0 Cat) [] σ H s :=
  ⟨⟨I.ok.mod,I.ok.kind,I.ok.glob,I.ok.blt,I.ok.above,I.ok.inj,I.ok.has,I.ok.cab,I.ok.hd,I.ok.frames,I.ok.stk,I.ok.exf,I.ok.bs,I.ok.bsz,I.ok.noex,I.ok.exfs,I.ok.funs,I.ok.frf⟩,I.os,I.bare,I.base,I.loc,I.cell,I.free,I.freeC,fun p hp=>I.pin p (by
    have hp:p∈(X.pn++pins0)++[]:=hp
    rwa [abZ] at hp),I.hok,I.len⟩
theorem dt (I:Inv (om X pins0 Cat) pins σ H s):Inv X pins0 σ H s :=
  ⟨⟨I.ok.mod,I.ok.kind,I.ok.glob,I.ok.blt,I.ok.above,I.ok.inj,I.ok.has,I.ok.cab,I.ok.hd,I.ok.frames,I.ok.stk,I.ok.exf,I.ok.bs,I.ok.bsz,I.ok.noex,I.ok.exfs,I.ok.funs,I.ok.frf⟩,I.os,I.bare,I.base,I.loc,I.cell,I.free,I.freeC,fun p hp=>I.pin p (show p∈(X.pn++pins0)++pins from aaz _ hp),I.hok,I.len⟩
theorem Inv.fresh_of (I:Inv X pins σ H s) {a:Addr} (hx:X.ex=[]) (h:s.heap.get? a=none):ia X pins a:=by
  refine ⟨?_,fun z=>?_,fun x c e z=>?_,fun p hp z=>?_⟩
  · cases q:X.s₀.heap.get? a with
    | none=>rfl
    | some o =>
      obtain ⟨o',q'⟩:=I.base.there a o q (by rw [hx];exact fun z=>nomatch z);rw [h] at q';cases q'
  · obtain ⟨m,⟨o,_,_,ho,_⟩,_⟩:=I.loc;rw [← z,h] at ho;cases ho
  · obtain ⟨v,o,ho,_⟩:=I.cell x c e;rw [z,h] at ho;cases ho
  · have:=(I.pin p hp).1;rw [z,h] at this;cases this
def rP (sp:Sp) (Cat:St→Addr→Hp→Prop) (t:TA):TE:=fun σ H Q=>t σ H fun vs H1=>sp vs H1 Q fun v _ H'=>∀ C,v=Value.ref C→Cat σ C H'
theorem qA {x:Str} {k k':Nat} {ps:List Str} {sp:Sp} {e:Expr} {es:List Expr} {t:TA} {p pos:Pos} (C:cH X.prog X.w X.K X.mg X.base x k ps sp) (hx:X.ex=[]) (hr:Room k' X.A) (hk:k≤k') (hg:Gl X x) (ha:PA (om X pins0 Cat) (e :: es) t)
    (hdb:(x == ("__debug__":Str))=false:=by decide) (he:starEach (e :: es) X.env=(false,eval e X.env) :: starEach es X.env:=by rfl) (hpl:(backTo pos (starEach es X.env)).any (·.1)=false:=by rfl) :
    PE (om X pins0 Cat) (.Call (.Name x p) (e :: es) [] pos) (rP sp Cat t):=by
  obtain ⟨f,fd,F,b,kp,m⟩:=C;intro pins s σ H Q I h;refine wpAny_Call_Name_kw (eh I hg m ?_ hdb);refine PySem.W.callWith_K (h₀:=X.base) I.ok.mod.kin kp (thn (ha pos pins s σ H _ I h) fun us s1 ⟨vs,H1,I1,r,q⟩=>⟨I1.kIn,?_⟩) he hpl;have r2:Vals vs (us++[]):=by rw [abZ];exact r
  have hl:(us++[]).length=ps.length:=by rw [← r2.length];exact F.len _ _ _ _ q
  refine wpAny_call (codeAny_mono (F.run X.A X.stack s1 H1 ⟨us,[]⟩ (us++[]) vs Q _ (hr.mono hk) I1.env0 (b s1 us I1.kIn hl) r2 q) fun r s' hq=>?_);cases r with
  | ok fl =>
    cases fl with
    | ret u=>exact I1.after hq
    | next=>exact aa2 hq
    | brk=>exact aa2 hq
    | cont=>exact aa2 hq
  | error e =>
    obtain ⟨ea,T,C,H',rfl,os,bare,un,hok,n1,n2,m1,m2,tr,q⟩:=hq;have J:=dt I1;exact ⟨ea,T,C,H',σ,rfl,J.call' os un hok bare (fun b z=>nomatch z),tr,m1,m2,J.fresh_of hx n1,J.fresh_of hx n2,q C rfl⟩
end
section
variable {M:Model} {A:Around} {E:Value→Shared→Prop} {s:Shared}
theorem nF {b0:Heap} {env:Env} {outer:List Env} {L e T:Addr} {cls:Value} {Q:Unit→Shared→Prop} (hfr:A.frames=some (env :: outer)) (hl:s.heap.FunFrames b0 (env :: outer)) (hf:env.frame=some L) (ht:Trc s.heap e T cls)
    (h:∀ h' T',Lft (env :: outer) e [T] s.heap h'→Trc h' e T' cls→(T'=T∨s.heap.get? T'=none)→Q () { s with heap:=h' }) :
    wpAny M A (noteFrame (.ref e) env) (fun _ s2=>wpAny M A (setFlight (.ref e) none) Q E s2) E s:=by
  obtain ⟨oe,vs,oT,ts,a0,h1,h2,h3,h4,h6,h7,h8,h9⟩:=ht;refine wpAny_noteFrame_onW (a0:=a0) (base:=fX s.heap (e :: [T]++(env :: outer).filterMap (·.frame))) (cls:=cls) hfr (cE (fun b hb=>aaa _ hb) hl) hf ⟨oe,vs,T,oT,ts,h1,h2,h3,h4,dc (by simp),h6,h7,h8,h9⟩ (dD _ _) (dc (by simp)) fun h1' N=>?_;obtain ⟨k1,k2,k3,k4⟩:=N;refine wpAny_setFlight_noneW (s:={ s with heap:=h1' }) k1 k2 k3 fun h2' j1 j2 j3 j4=>?_;have L':Heap.LeftW (fX s.heap (e :: [T]++(env :: outer).filterMap (·.frame))) (env :: outer) e cls a0 s.heap h2':=⟨j1,j2,j3,fun b o hb hn=>by
    obtain ⟨sl,q⟩:=k4 b o hb hn;exact ⟨sl,j4 b _ q hn⟩⟩
  obtain ⟨l',T',t,z⟩:=jw (base:=b0) hl L' (by rw [h1];simp);refine h h2' T' l' t ?_;rcases z with z|z
  · exact .inl (by simpa using z)
  · exact .inr z
end
def cZ (a C:Addr):HO:=.ext fun h=>∃ o vs,h.get? a=some o∧o.cls=.ref C∧o.data=.fields vs
structure Und (K:aab) (C P:Addr):Prop where
  ex:∃ nm q N bs bm hdct sn sub ab col dd k0 k1 k2 k3 k5 newId nm' q' N' bs' bm' hdct' sn' sub' ab' col' dd' k0' k1' k2' k3' k5' newId',(Value.ref C :: bm).contains (.ref P)=true∧bm'.contains (.type "BaseException")=true ∧
    ∀ h,K.In h→h.get? C=some (excClassObj nm q C N bs bm hdct sn sub ab col dd k0 k1 k2 k3 k5 newId)∧h.get? P=some (excClassObj nm' q' P N' bs' bm' hdct' sn' sub' ab' col' dd' k0' k1' k2' k3' k5' newId')
theorem nZ {M:Model} {A:Around} {E:Value→Shared→Prop} {K:aab} {C P e:Addr} {oe:Obj} {s:Shared} {Q:Bool→Shared→Prop} (u:Und K C P) (hk:K.In s.heap) (he:s.heap.get? e=some oe) (hcls:oe.cls=.ref C) (hq:Q true s):wpAny M A (excMatches (.ref e) (.ref P)) Q E s:=by
  obtain ⟨nm,q,N,bs,bm,hdct,sn,sub,ab,col,dd,k0,k1,k2,k3,k5,newId,nm',q',N',bs',bm',hdct',sn',sub',ab',col',dd',k0',k1',k2',k3',k5',newId',h1,h2,h3⟩:=u.ex;obtain ⟨hC,hP⟩:=h3 _ hk;obtain ⟨h,g,d,t,os⟩:=s;have hcB:(Value.ref P :: bm').contains (.type "BaseException")=true:=by rw [List.contains_cons,h2,Bool.or_true]
  have f:=tc_notTuple;unfold excMatches
  repeat (first|(with_reducible refine wpAny_loadPart_at he ?_;rw [hcls])|with_reducible refine wpAny_loadPart_at hP ?_|(with_reducible refine wpAny_isSubtype_exc hP ?_;rw [hcB])|(with_reducible refine wpAny_isSubtype_exc hC ?_;rw [h1])|wp_step)
  exact hq
section
variable {X:Cx} {pins:List (Addr × Obj)} {σ:St} {H:Hp} {s:Shared}
theorem qf {ea T C:Addr} (I:Inv X pins σ H s) (tr:Trc s.heap ea T (.ref C)) (m1:H ea=none) (f1:ia X pins ea):Inv X pins σ (upd H ea (cZ ea C)) s:=by
  obtain ⟨oe,vs,oT,ts,a0,h1,h2,h3,h4,h6,h7,h8,h9⟩:=tr;exact I.adopt2 m1 (fun u z=>by rw [f1.1] at z;cases z) f1.2.1 f1.2.2.1 f1.2.2.2 ⟨⟨oe,vs,h1,h2.1,h3⟩,⟨oe,h1⟩,fun g1 g2 ⟨o,ws,z1,z2,z3⟩ k=>⟨o,ws,k o z1,z2,z3⟩⟩
theorem kZ {ea C:Addr} {x:List Addr} {h':Heap} (I:Inv X pins σ (upd H ea (cZ ea C)) s) (f1:ia X pins ea) (fx:∀ T∈x,ia X pins T∧upd H ea (cZ ea C) T=none) (lf:Lft X.stack ea x s.heap h') (hea:∃ o vs,h'.get? ea=some o∧o.cls=.ref C∧o.data=.fields vs) :
    Inv X pins σ (upd H ea (cZ ea C)) { s with heap:=h' }:=by
  have tk:∀ b,upd H ea (cZ ea C) b=none→b≠ea:=fun b hb z=>by rw [z,ac] at hb;cases hb
  have old:∀ b o,X.s₀.heap.get? b=some o→b≠ea∧b∉x∧b≠X.env.locals:=fun b o q=>by
    refine ⟨fun z=>?_,fun z=>?_,fun z=>?_⟩
    · rw [z,f1.1] at q;cases q
    · rw [(fx b z).1.1] at q;cases q
    · have h1:=aaf q;rw [z] at h1;exact absurd I.ok.above (Nat.not_le.mpr h1)
  have one:∀ b o,b≠ea→b∉x→s.heap.get? b=some o→∃ sl,h'.get? b=some { o with slots:=sl }:=fun b o z1 z2 q=>by
    by_cases hb:b∈frs X.stack
    · exact lf.slot b o hb q
    · exact ⟨o.slots,lf.keep b o hb z1 z2 q⟩
  have nstk:∀ b,b≠X.env.locals→b∉X.fs→b∉frs X.stack:=fun b z1 z2 z=>by
    rcases aaj.mp (I.stkSub b z) with z|z
    · exact z1 z
    · exact z2 z
  have cl:∀ x' c,X.env.cells.lookup x'=some c→∀ v,s.heap.IsCell c v→h'.IsCell c v:=fun x' c e v ⟨o,ho,hd⟩=>by
    obtain ⟨sl,z⟩:=one c o (f1.2.2.1 x' c e) (fun z=>(fx c z).1.2.2.1 x' c e rfl) ho;exact ⟨_,z,hd⟩
  refine ⟨I.ok,I.os,I.bare,⟨fun b o q n hb hx=>?_,fun b o q n hb hx=>?_,I.base.free,fun b o q hx=>?_,I.base.tups,I.base.frzs,I.base.tbls⟩,?_,fun x' c e=>?_,I.free,I.freeC,fun p hp=>?_,fun b u q=>?_,I.len⟩
  · exact lf.keep b o (nstk b (old b o q).2.2 hb) (old b o q).1 (old b o q).2.1 (I.base.keep b o q n hb hx)
  · obtain ⟨sl,z⟩:=I.base.slot b o q n hb hx;obtain ⟨sl',z'⟩:=one b _ (old b o q).1 (old b o q).2.1 z;exact ⟨sl',z'⟩
  · obtain ⟨o',z⟩:=I.base.there b o q hx;obtain ⟨sl',z'⟩:=one b _ (old b o q).1 (old b o q).2.1 z;exact ⟨_,z'⟩
  · obtain ⟨m,⟨o,es,ep,ho,hd,r⟩,hl⟩:=I.loc;obtain ⟨sl,z⟩:=one X.env.locals o (abt f1.2.1) (fun z=>(fx _ z).1.2.1 rfl) ho;refine ⟨m,⟨_,es,ep,z,hd,r⟩,fun i y v e1 e2 e3=>?_⟩;obtain ⟨u,ru,l⟩:=hl i y v e1 e2 e3;refine ⟨u,ru,?_⟩;rcases l with l|⟨k,c,e,z⟩
    · exact .inl l
    · exact .inr ⟨k,c,e,cl y c e _ z⟩
  · obtain ⟨v,z⟩:=I.cell x' c e;exact ⟨v,cl x' c e v z⟩
  · obtain ⟨z1,z2,z3,z4,z5⟩:=I.pin p hp;exact ⟨lf.keep _ _ (nstk _ z3 z4) (f1.2.2.2 p hp) (fun z=>(fx _ z).1.2.2.2 p hp rfl) z1,z2,z3,z4,z5⟩
  · by_cases z1:b=ea
    · subst z1;rw [ac] at q;cases q;obtain ⟨o,vs,y1,y2,y3⟩:=hea;exact ⟨⟨o,vs,y1,y2,y3⟩,⟨o,y1⟩,fun g1 g2 ⟨o,ws,y1,y2,y3⟩ k=>⟨o,ws,k o y1,y2,y3⟩⟩
    · have tr:∀ c v,upd H ea (cZ ea C) c=some v→c≠ea→∀ o,s.heap.get? c=some o→h'.get? c=some o:=fun c v hc z o r=>lf.keep c o (fun y=>by rw [I.stkFree c y] at hc;cases hc) z (fun y=>by rw [(fx c y).2] at hc;cases hc) r;refine (I.hok b u q).stay (fun c v hc r=>?_) (fun _ r=>r) fun _ _ r=>r;rcases hc with rfl|hc
      · exact tr c u q z1 v r
      · refine tr c _ hc (fun z=>?_) v r;rw [z,ac] at hc;cases hc
end
section
variable {M:Model} {A:Around} {E:Value→Shared→Prop} {s:Shared}
theorem nQ {b0:Heap} {l:List Env} {e T:Addr} {cls:Value} {Q:Unit→Shared→Prop} (hl:s.heap.FunFrames b0 l) (ht:Trc s.heap e T cls)
    (h:∀ h' T',Lft l e [T] s.heap h'→Trc h' e T' cls→(T'=T∨s.heap.get? T'=none)→Q () { s with heap:=h' }):wpAny M A (setFlight (.ref e) none) Q E s:=by
  obtain ⟨oe,vs,oT,ts,a0,h1,h2,h3,h4,h6,h7,h8,h9⟩:=ht;refine wpAny_setFlight_noneW (base:=fX s.heap (e :: [T]++l.filterMap (·.frame))) (cls:=cls) (a0:=a0) (fl:=.none) (dD _ _) (cE (fun b hb=>aaa _ hb) hl) ⟨oe,vs,T,oT,ts,h1,h2,h3,h4,dc (by simp),h6,h7,h8,h9⟩ fun h2' j1 j2 j3 j4=>?_;have L':Heap.LeftW (fX s.heap (e :: [T]++l.filterMap (·.frame))) l e cls a0 s.heap h2':=⟨j1,j2,j3,fun b o hb hn=>⟨o.slots,j4 b o hb hn⟩⟩
  obtain ⟨l',T',t,z⟩:=jw (base:=b0) hl L' (by rw [h1];simp);refine h h2' T' l' t ?_;rcases z with z|z
  · exact .inl (by simpa using z)
  · exact .inr z
end
section
variable {X:Cx} {pins:List (Addr × Obj)} {σ:St} {H:Hp} {s:Shared}
theorem Inv.unset {i:Nat} {n:Str} {v:Option Value} {m:Str→Option Value} {h':Heap} {t':Nat} (I:Inv X pins σ H s) (hN:X.N.Nodup) (hi:X.N[i]?=some n) (hl:∀ (i:Nat) (x:Str) (v:V),X.N[i]?=some x→σ[i]?=some (some v)→Vis X.env.scope x→∃ u,RelV v u∧ub X.env s.heap m x u)
    (hn:h'.Ns X.env.locals (fun x=>if x=n then v else m x)) (hs:abz X.env.locals s.heap h'):Inv X pins (σ.set i none) H { s with heap:=h',toks:=t' }:=by
  have cne:∀ x c,X.env.cells.lookup x=some c→c≠X.env.locals:=fun x c e z=>by
    obtain ⟨v,o,ho,hd⟩:=I.cell x c e;obtain ⟨m,⟨o',es,ep,ho',hd',_⟩,_⟩:=I.loc;rw [z,ho'] at ho;cases ho;rw [hd'] at hd;cases hd
  have old:∀ b o,X.s₀.heap.get? b=some o→b≠X.env.locals:=fun b o q z=>by
    have h1:=aaf q;rw [z] at h1;exact absurd I.ok.above (Nat.not_le.mpr h1)
  refine ⟨I.ok,I.os,I.bare,⟨fun b o q n hb hx=>hs.extBut b o (old b o q) (I.base.keep b o q n hb hx),fun b o q n hb hx=>?_,I.base.free,fun b o q hx=>?_,I.base.tups,I.base.frzs,I.base.tbls⟩,⟨_,hn,fun j y w e1 e2 e3=>?_⟩,fun x c e=>?_,I.free,I.freeC,fun p hp=>?_,fun b u q=>?_,?_⟩
  · obtain ⟨sl,z⟩:=I.base.slot b o q n hb hx;exact ⟨sl,hs.extBut b _ (old b o q) z⟩
  · obtain ⟨o',z⟩:=I.base.there b o q hx;exact ⟨o',hs.extBut b _ (old b o q) z⟩
  · by_cases hj:j=i
    · subst hj;rw [List.getElem?_set_self'] at e2;cases z:σ[j]? with
      | none=>rw [z] at e2;simp at e2
      | some _=>rw [z] at e2;simp at e2
    · rw [List.getElem?_set_ne (abt hj)] at e2;obtain ⟨u,ru,l⟩:=hl j y w e1 e2 e3;refine ⟨u,ru,?_⟩;rcases l with ⟨k,l⟩|⟨k,c,e,o,ho,hd⟩
      · refine .inl ⟨k,?_⟩;have : y≠n:=fun z=>hj (gL hN e1 (by rw [z];exact hi));show (if y=n then v else m y)=some u;rw [if_neg this];exact l
      · exact .inr ⟨k,c,e,o,hs.extBut c o (cne y c e) ho,hd⟩
  · obtain ⟨v,o,ho,hd⟩:=I.cell x c e;exact ⟨v,o,hs.extBut c o (cne x c e) ho,hd⟩
  · obtain ⟨z1,z2,z3,z4,z5⟩:=I.pin p hp;exact ⟨hs.extBut _ _ z3 z1,z2,z3,z4,z5⟩
  · refine (I.hok b u q).stay (fun c v hc r=>hs.extBut c v (fun z=>?_) r) (fun _ r=>r) fun _ _ r=>r;rcases hc with rfl|hc
    · rw [z,I.free] at q;cases q
    · rw [z,I.free] at hc;cases hc
  · rw [List.length_set];exact I.len
def mj (X:Cx) (v:Value):Cx:={ X with A:=X.A.mark (some v),calm:=false,xe:=fun _ _=>False }
theorem kO {v:Value} (I:Inv X pins σ H s):Inv (mj X v) pins σ H s :=
  ⟨⟨I.ok.mod,I.ok.kind,I.ok.glob,I.ok.blt,I.ok.above,I.ok.inj,I.ok.has,I.ok.cab,(fun z=>absurd (show false=true from z) aae),I.ok.frames,I.ok.stk,I.ok.exf,I.ok.bs,I.ok.bsz,I.ok.noex,I.ok.exfs,I.ok.funs,I.ok.frf⟩,I.os,I.bare,I.base,I.loc,I.cell,I.free,I.freeC,I.pin,I.hok,I.len⟩
theorem l5 {v:Value} (c:X.calm=true→X.A.handled=none) (fr:X.A.frames=some X.stack) (I:Inv (mj X v) pins σ H s):Inv X pins σ H s :=
  ⟨⟨I.ok.mod,I.ok.kind,I.ok.glob,I.ok.blt,I.ok.above,I.ok.inj,I.ok.has,I.ok.cab,c,fr,I.ok.stk,I.ok.exf,I.ok.bs,I.ok.bsz,I.ok.noex,I.ok.exfs,I.ok.funs,I.ok.frf⟩,I.os,I.bare,I.base,I.loc,I.cell,I.free,I.freeC,I.pin,I.hok,I.len⟩
end
theorem Trc.there {h:Heap} {e T C:Addr} (t:Trc h e T (.ref C)):∃ o vs,h.get? e=some o∧o.cls=.ref C∧o.data=.fields vs:=by
  obtain ⟨oe,vs,oT,ts,a0,h1,h2,h3,_⟩:=t;exact ⟨oe,vs,h1,h2.1,h3⟩
theorem Trc.ne {h:Heap} {e T:Addr} {c:Value} (t:Trc h e T c):T≠e:=by
  obtain ⟨oe,vs,oT,ts,a0,h1,h2,h3,h4,h6,_⟩:=t;exact h6
def uz (K:aab) (Pa:Addr) (iE:Nat) (tb:(St→Addr→Hp→Prop)→TS) (ts:TS):TS:=fun D σ H =>
  tb (fun σ' C H'=>Und K C Pa∧∀ ea,H' ea=none→ts { nx:=fun σ2 H2=>D.nx (σ2.set iE none) H2,rt:=fun _ _=>False } (σ'.set iE (some (.ref ea))) (upd H' ea (cZ ea C))) D σ H
theorem rY {X:Cx} {body:List Stmt} {tb:(St→Addr→Hp→Prop)→TS} {ts:TS} {iE:Nat} {n x:Str} {Pa:Addr} {b₀:Stmt} {suite:List Stmt} {tp hpos pos:Pos} (hx:X.ex=[]) (hst:X.stack=X.env :: X.outer) (hfr:X.env.frame=some X.env.locals)
    (hg:Gl X x) (hm:X.mg x=some (.ref Pa)) (hN:X.N.Nodup) (hi:X.N[iE]?=some n) (hl:X.env.scope.names.lookup n=some .local) (hb:∀ pins0 Cat,PSs (om X pins0 Cat) body (tb Cat)) (hs:∀ v,PSs (mj X v) (b₀ :: suite) ts) (hdb:(x == ("__debug__":Str))=false:=by decide) :
    PS X (.Try body [.ExceptHandler (some (.Name x tp)) (some n) (b₀ :: suite) hpos] [] [] pos) (uz X.K Pa iE tb ts):=by
  intro pins s σ H D I h;refine wpAny_Try_except (wpAny_mono (hb pins _ [] s σ H D (qO I) h) (fun f s1 q=>?_) (fun e s1 q=>?_))
  · cases f with
    | next=>obtain ⟨σ',H',I',q⟩:=q;exact wpAny_execs_nil ⟨σ',H',dt I',q⟩
    | brk=>obtain ⟨σ',H',I',q⟩:=q;exact ⟨σ',H',dt I',q⟩
    | cont=>obtain ⟨σ',H',I',q⟩:=q;exact ⟨σ',H',dt I',q⟩
    | ret u=>obtain ⟨v,σ',H',I',r,q⟩:=q;exact ⟨v,σ',H',dt I',r,q⟩
  · obtain ⟨ea,T,C,H',σ',rfl,J,tr,m1,m2,f1,f2,und,cat⟩:=q;have fr:X.A.frames=some (X.env :: X.outer):=by rw [← hst];exact J.ok.frames
    have stk:s1.heap.FunFrames X.base (X.env :: X.outer):=by rw [← hst];exact J.stack
    refine nF (b0:=X.base) fr stk hfr tr fun h2 T2 lf tr2 hT2=>?_;have J1:=qf J tr m1 f1;have mT:upd H' ea (cZ ea C) T=none:=by rw [aj tr.ne];exact m2
    have J2:Inv X pins σ' (upd H' ea (cZ ea C)) { s1 with heap:=h2 }:=kZ J1 f1 (x:=[T]) (fun b hb=>by rw [aak.mp hb];exact ⟨f2,mT⟩) (by rw [hst];exact lf) tr2.there;have fT2:ia X pins T2∧upd H' ea (cZ ea C) T2=none:=by
      rcases hT2 with rfl|z
      · exact ⟨f2,mT⟩
      · refine ⟨J1.fresh_of hx z,?_⟩;cases q:upd H' ea (cZ ea C) T2 with
        | none=>rfl
        | some o =>
          obtain ⟨u,hu⟩:=(J1.hok T2 o q).get;rw [z] at hu;cases hu
    refine wpAny_handleBy_cons (codeAny_handlers_test ?_) (by intro q;cases q);refine eh (X:=mj X (.ref ea)) (kO J2) hg hm ?_ hdb;obtain ⟨oe,vs,he2,hc2,_⟩:=tr2.there;refine nZ (s:={ s1 with heap:=h2 }) und J2.kIn he2 hc2 ?_;show codeAny _ _ _ _ _;refine codeAny_handlers_suite_as ?_;have stk2:h2.FunFrames X.base (X.env :: X.outer):=by rw [← hst];exact J2.stack
    refine nQ (s:={ s1 with heap:=h2 }) (b0:=X.base) (l:=X.env :: X.outer) stk2 tr2 fun h3 T3 lf3 tr3 hT3=>?_;have J3:Inv X pins σ' (upd H' ea (cZ ea C)) { s1 with heap:=h3 }:=kZ (s:={ s1 with heap:=h2 }) J2 f1 (x:=[T2]) (fun b hb=>by rw [aak.mp hb];exact fT2) (by rw [hst];exact lf3) tr3.there;refine dM (v:=.ref ea) J3 hN hi (.inl hl) rfl (fun s4 J4=>?_) (.inr hl);refine wpAny_mono (hs (.ref ea) pins s4 _ _ _ (kO J4) (cat ea m1)) (fun f s5 q5=>?_) (fun _ _ z=>z.elim);cases f with
    | next =>
      obtain ⟨σ5,H5,I5,q5⟩:=q5;have I5:=l5 J.ok.hd J.ok.frames I5;obtain ⟨m,hn,hlk⟩:=id I5.loc;exact wpAny_nameGoes_keeps hl hn (by rw [I5.ok.kind];rfl) fun h6 v hn6 hs6=>⟨_,H5,I5.unset hN hi hlk hn6 hs6,q5⟩
    | brk=>obtain ⟨_,_,_,q⟩:=q5;exact aa2 q
    | cont=>obtain ⟨_,_,_,q⟩:=q5;exact aa2 q
    | ret u=>obtain ⟨_,_,_,_,_,q⟩:=q5;exact aa2 q
open PySem PySem.Spec PyProof.Rows
structure Lkp (M:Model) (h:Heap) (C:Addr):Prop where
  ga:ach M h (typeLookup (.ref C) "__getattribute__") (some (.builtin "BaseException.__getattribute__"))
  no:ach M h (typeLookup (.ref C) "__getattr__") none
  cls:ach M h (typeLookup (.ref C) "__class__") (some (.builtin "object.__class__"))
  be:ach M h (isSubtype (.ref C) (.type "BaseException")) true
  obj:ach M h (isSubtype (.ref C) (.type (".".intercalate ("object.__class__".cutAt '.').dropLast))) true
section
variable {prog:Program} {w:World} {A:Around} {E:Value→Shared→Prop} {h:Heap} {g:Array GenState} {d:Drawn} {t:Nat} {os:OsState} {a C:Addr} {o:Obj}
theorem qT {R:Result→Shared→Prop} (L:Lkp (model prog w) h C) (hx:h.get? a=some o) (hc:o.cls=.ref C) (hq:R (.ok (.ret (.ref C))) ⟨h,g,d,t,os⟩) :
    codeAny (model prog w) A (.call (.builtin "getset_descriptor.__get__") ⟨[.builtin "object.__class__",.ref a,.ref C],[]⟩) R ⟨h,g,d,t,os⟩:=by
  have hT5:(⟨h,g,d,t,os⟩:Shared).TypeIs (.builtin "object.__class__") "getset_descriptor":=ab9;refine codeAny_call_builtin F.slot_gs_get.plain F.entry_gs_get (F.slot_gs_get.check _ _ _ _ _ _ _ _ hT5 (F.args_gs_get _ _ _) ?_)
  repeat (any_goals (first|assumption|(with_reducible refine wpAny_loadPart_at hx ?_;rw [hc])|(refine L.obj _ _ _ _ (fun _ _ e=>e) ?_)|wp_step))
  refine ⟨Code.quiet_builtin _ (by decide +kernel),codeAny_builtin F.entry_object_class ?_⟩
  repeat (any_goals (first|assumption|(with_reducible refine wpAny_loadPart_at hx ?_;rw [hc])|wp_step))
theorem oh {M:Model} {nameV:Value} {Q:Unit→Shared→Prop} (L:Lkp M h C) (hx:h.get? a=some o) (hc:o.cls=.ref C) (hq:Q () ⟨h,g,d,t,os⟩):wpAny M A (checkBuiltinCall "BaseException.__getattribute__" ⟨[.ref a,nameV],[]⟩) Q E ⟨h,g,d,t,os⟩:=by
  have hk:builtinKind "BaseException.__getattribute__" = some .slot:=by decide +kernel
  have hsplit:splitId "BaseException.__getattribute__" = some ("BaseException","__getattribute__"):=by decide +kernel
  have ha:=F.args_bexc_ga (.ref a) nameV;simp only [checkBuiltinCall,hk,hsplit];refine wpAny_bind ?_;unfold isInstance
  repeat (first|(with_reducible refine wpAny_loadPart_at hx ?_;rw [hc])|(refine L.be _ _ _ _ (fun _ _ e=>e) ?_)|wp_step)
  exact hq
theorem og {tk:Tok} {Q:Fin→Shared→Prop} (L:Lkp (model prog w) h C) (hx:h.get? a=some o) (hc:o.cls=.ref C) (hq:Q (.done (.ret (.ref C))) ⟨h,g,d,t,os⟩) :
    wpAny (model prog w) A (Builtin.«object.__getattribute__» ⟨[.ref a,.str "__class__" tk],[]⟩) Q E ⟨h,g,d,t,os⟩:=by
  have hT5:(⟨h,g,d,t,os⟩:Shared).TypeIs (.builtin "object.__class__") "getset_descriptor":=ab9;have f5:=ab9;have f6:=F.slot_gs_get.lookup;have f7:=F.slot_gs_set.lookup
  repeat (any_goals (first|assumption|(with_reducible refine wpAny_loadPart_at hx ?_;rw [hc])|(refine L.cls _ _ _ _ (fun _ _ e=>e) ?_)|wp_step))
  refine qT L hx hc ?_
  repeat (any_goals (first|assumption|wp_step))
theorem qb {tk:Tok} {R:Result→Shared→Prop} (L:Lkp (model prog w) h C) {B:String} (hg:Slot B "__getattribute__" "BaseException.__getattribute__") (hx:h.get? a=some o) (hc:o.cls=.ref C) (hq:R (.ok (.ret (.ref C))) ⟨h,g,d,t,os⟩) :
    codeAny (model prog w) A (.call (.builtin "BaseException.__getattribute__") ⟨[.ref a,.str "__class__" tk],[]⟩) R ⟨h,g,d,t,os⟩ :=
  codeAny_call_builtin hg.plain F.entry_bexc_ga (oh L hx hc (og L hx hc hq))
theorem sO {tk:Tok} {fill expr:Bool} {Q:Value→Shared→Prop} (L:Lkp (model prog w) h C) {B:String} (hg:Slot B "__getattribute__" "BaseException.__getattribute__") (hx:h.get? a=some o) (hc:o.cls=.ref C) (hq:Q (.ref C) ⟨h,g,d,t,os⟩) :
    wpAny (model prog w) A (getAttrBy (.ref a) (.str "__class__" tk) fill expr) Q E ⟨h,g,d,t,os⟩:=by
  have f3:=hg.bind (.ref a);have hx0:(expr && onTheHeap (Value.builtin "BaseException.__getattribute__"))=false:=by cases expr <;> rfl
  have hx2:(Value.builtin "BaseException.__getattribute__" == Value.builtin "object.__getattribute__")=false:=by decide +kernel
  have hx1:(onTheHeap (Value.ref C) && Value.builtin "BaseException.__getattribute__" == Value.builtin "object.__getattribute__")=false:=by rw [hx2];rfl
  repeat (any_goals (first|assumption|(with_reducible refine wpAny_loadPart_at hx ?_;rw [hc])|(refine L.ga _ _ _ _ (fun _ _ e=>e) ?_)|(refine L.no _ _ _ _ (fun _ _ e=>e) ?_)|wp_step))
  refine qb L hg hx hc ?_
  repeat (any_goals (first|assumption|wp_step))
theorem qc {Q:Option Value→Shared→Prop} (L:Lkp (model prog w) h C) {B:String} (hg:Slot B "__getattribute__" "BaseException.__getattribute__") (hx:h.get? a=some o) (hc:o.cls=.ref C) (hq:Q (some (.ref C)) ⟨h,g,d,t+1,os⟩):wpAny (model prog w) A (getAttr? (.ref a) "__class__") Q E ⟨h,g,d,t,os⟩:=by
  unfold getAttr? getAttrBy?
  repeat (any_goals (first|assumption|with_reducible apply sO L hg hx hc|wp_step))
end
structure ExC (K:aab) (C:Addr):Prop where
  lk:∀ (M:Model) (h:Heap),K.In h→Lkp M h C
  cl:(aaR K C).isSome=true
  sl:∃ B,Slot B "__getattribute__" "BaseException.__getattribute__"
theorem kE {K:aab} {e C:Addr} (x:ExC K C):PySem.W.KitX K (.ref e) (.ref C) (fun h=>∃ o,h.get? e=some o∧o.cls=.ref C) where
  ty:=fun M h _ p=>by
    obtain ⟨o,h1,h2⟩:=p;exact h2 ▸ (PySem.W.Looks.ld h1).andThen .now
  it:=fun _ _ X _=>by
    have hcD:=x.cl;unfold aaR at hcD;split at hcD
    · rename_i c' d' cd' sl' ho;intro A' Q' E' s' k q;unfold isType loadHead;exact wpAny_bind (wpAny_loadPart (k _ _ (X _ _ ho)) (wpAny_pure q))
    · cases hcD
  ne:=fun h tp dd its n sl X htp=>by
    refine Bool.eq_false_iff.mpr fun q=>?_;have e:C=tp:=Value.ref.inj (beq_iff_eq.mp q);subst e;have hcD:=x.cl;unfold aaR at hcD;split at hcD
    · rename_i c' d' cd' sl' ho;have z:=(X _ _ ho).symm.trans htp;cases z
    · cases hcD
  ca:=fun {prog w A E Q s} X p k=>by
    obtain ⟨h,g,d,t,os⟩:=s;obtain ⟨o,h1,h2⟩:=p;obtain ⟨B,hg⟩:=x.sl;exact qc (x.lk _ _ X) hg h1 h2 k
open PySem PySem.Spec PyProof.Rows
theorem eY:∀ {bs:List Bool} {its:List Value},Vals (bs.map V.bl) its→its=bs.map Value.bool
  | [],_,.nil=>rfl
  | b :: r,_,.cons h t=>by
    cases (show _=Value.bool b from h);rw [eY t];rfl
theorem mP {X:Cx} {pins:List (Addr × Obj)} {σ:St} {H:Hp} {s:Shared} (I:Inv X pins σ H s) {A:Around} (hu:A.units+0 < cLine) (b:Bool):SeqAt.EqAt A s (.bool b) (.bool true) (Value.bool b == Value.bool true):=by
  have z:=(EqR.flat (K:=X.K) (H:=H) (n:=0) (x:=.bl b) (y:=.bl true) rfl rfl).at I (A:=A) (u:=.bool b) (v:=.bool true) rfl rfl hu;have e:eqV (.bl b) (.bl true)=(Value.bool b == Value.bool true):=by cases b <;> rfl
  rw [e] at z;exact z
theorem nI {X:Cx} (hu:X.A.units+64 < cLine):MtR X "list.count" (fun x vs H Q=>∃ (l:Addr) (bs:List Bool),x=.ref l∧vs=[.bl true]∧SqL X.K H l (bs.map V.bl)∧Q (.int (bs.countP id:Nat)) H):=by
  intro pins s σ H x vs v us Q I rx rv h;obtain ⟨l,bs,rfl,rfl,hq,q⟩:=h;cases rx;obtain ⟨u,rfl,ru⟩:=eK rv;cases ru;obtain ⟨its,r,⟨o,n,ho,hc,hs,hd⟩,hz⟩:=I.list hq;have ei:=eY r;subst ei;obtain ⟨oc,od,dat,sl⟩:=o;cases (show oc=_ from hc);cases (show dat=_ from hd);refine call_meets F.slot_list_count ⟨_,ho,rfl⟩ F.entry_list_count (F.args_list_count_2 _ _) (SeqAt.list_countAt l (bs.map Value.bool).toArray n od sl (.bool true) (fun v=>v == .bool true)) ⟨ho,fun y hy=>?_,?_⟩
  · have hy':y∈bs.map Value.bool:=by simpa using hy
    obtain ⟨b,_,rfl⟩:=aa5.mp hy';exact mP I (by show X.A.units+1+0 < cLine;lia) b
  · have e:(bs.map Value.bool).countP (fun v=>v == .bool true)=bs.countP id:=by
      rw [List.countP_map];congr 1;funext b;cases b <;> rfl
    refine ⟨.int (bs.countP id:Nat),H,I.tok _,⟨s.toks,?_⟩,q⟩;show Value.int (((bs.map Value.bool).toArray.toList.countP fun v=>v == .bool true:Nat):Int) s.toks=_;rw [show (bs.map Value.bool).toArray.toList=bs.map Value.bool from rfl,e]
theorem nH {X:Cx} (hu:X.A.units+64 < cLine):MtR X "list.index" (fun x vs H Q=>∃ (l:Addr) (bs:List Bool) (j:Nat),x=.ref l∧vs=[.bl true]∧SqL X.K H l (bs.map V.bl)∧bs[j]?=some true∧(∀ m,m < j→bs[m]?=some false)∧bs.length≤1000∧Q (.int (j:Nat)) H):=by
  intro pins s σ H x vs v us Q I rx rv h;obtain ⟨l,bs,j,rfl,rfl,hq,hj,hb,hl,q⟩:=h;cases rx;obtain ⟨u,rfl,ru⟩:=eK rv;cases ru;obtain ⟨its,r,⟨o,n,ho,hc,hs,hd⟩,hz⟩:=I.list hq;have ei:=eY r;subst ei;obtain ⟨oc,od,dat,sl⟩:=o;cases (show oc=_ from hc);cases (show dat=_ from hd);have hjl:j < bs.length:=(aai.mp hj).1;refine call_meets F.slot_list_index ⟨_,ho,rfl⟩ F.entry_list_index (F.args_list_index_2 _ _) (SeqAt.list_indexAt l (bs.map Value.bool).toArray n od sl (.bool true) (fun v=>v == .bool true) j (by simpa using hjl) (by lia) ?_ ?_) ⟨ho,fun y hy=>?_,?_⟩
  · have : bs[j]=true:=(aai.mp hj).2;simp [this]
  · intro m hm hmj;have : bs[m]'(by simpa using hm)=false:=(aai.mp (hb m hmj)).2;simp [this]
  · have hy':y∈bs.map Value.bool:=by simpa using hy
    obtain ⟨b,_,rfl⟩:=aa5.mp hy';exact mP I (by show X.A.units+1+0 < cLine;lia) b
  · exact ⟨.int (j:Nat),H,I.tok _,⟨_,rfl⟩,q⟩
theorem gt:∀ {ns:List Int} {its:List Value},Vals (ns.map V.int) its→∃ ts:List (Int × Tok),its=ts.map (fun p=>Value.int p.1 p.2)∧ts.map (·.1)=ns
  | [],_,.nil=>⟨[],rfl,rfl⟩
  | i :: r,_,.cons h t=>by
    obtain ⟨k,rfl⟩:=(show ∃ k,_=Value.int i k from h)
    obtain ⟨ts,e1,e2⟩:=gt t;exact ⟨(i,k) :: ts,by rw [e1];rfl,by rw [aaH,e2]⟩
theorem qg {X:Cx} (hc:X.calm=true):df X (.builtin "sum") (fun xs H Q=>∃ (p:Addr) (ns:List Int),xs=[.ref p]∧SqL X.K H p (ns.map V.int)∧Q (.int ns.sum) H):=by
  intro pins s σ H xs us Q I r h;obtain ⟨p,ns,rfl,hq,q⟩:=h;obtain ⟨u,rfl,rx⟩:=eK r;cases rx;obtain ⟨its,r',pl,hz⟩:=I.list hq;obtain ⟨ts,e1,e2⟩:=gt r';subst e1;have el:(ts.map (fun p=>Value.int p.1 p.2)).toArray=intItems ts.toArray:=by unfold intItems;simp
  refine sum_intListG (xs:=ts.toArray) (I.ok.hd hc) (by rw [← el];exact pl.isList) fun h' tk t' hk=>?_;have e:preSum (numAt ts.toArray) ts.toArray.size=ns.sum:=by
    rw [preSum_eq,abw (by simp),← e2]
  rw [e];exact ⟨.int ns.sum,H,I.kept (t':=tk) hk,⟨t',rfl⟩,q⟩
open PySem PySem.Spec PyProof.Rows
open PySem PySem.Spec PyProof.Rows
def gR (es:Array DictEntry):Bool:=es.toList.all fun e=>match e.key with|.str _ _=>true|_=>false
theorem pw {es:Array DictEntry} (h:gR es=true):StrKeys es:=fun e he=>by
  have z:=aaD.mp h e (by simpa using he);cases q:e.key with
  | str n t=>exact ⟨n,t,rfl⟩
  | _=>rw [q] at z;cases z
section
variable {K:aab} {C Pa N N':Addr} {nm nm' q q':Str} {bs bs' sub sub':List Value} {hdct hdct':Bool} {sn sn':List Str} {ab ab':Bool} {col col':Option Bool} {dd dd':Option Addr} {k0 k1 k2 k3 k5 k0' k1' k2' k3' k5' oc oc':Option Value}
  {c1 c2:Value} {od od':Option Addr} {es es':Array DictEntry} {n n':Nat} {sl sl':Array (Option Value)}
theorem re (s:K.lookup N=some ⟨c1,od,.dict es n,sl⟩) (t:gR es=true) {h:Heap} (X:K.In h):h.Ns N (nsFind es):=⟨_,es,n,X _ _ s,rfl,pw t,fun _=>rfl⟩
abbrev jP:List Value:=[.type "ValueError",.type "Exception",.type "BaseException",.type "object"]
theorem pU (l:K.lookup C=some (excClassObj nm q C N bs (.ref Pa :: jP) hdct sn sub ab col dd k0 k1 k2 k3 k5 "ValueError.__new__")) (s:K.lookup N=some ⟨c1,od,.dict es n,sl⟩) (t:gR es=true) (i:nsFind es "__init__" = none)
    (l':K.lookup Pa=some (excClassObj nm' q' Pa N' bs' jP hdct' sn' sub' ab' col' dd' k0' k1' k2' k3' k5' "ValueError.__new__")) (s':K.lookup N'=some ⟨c2,od',.dict es' n',sl'⟩) (t':gR es'=true) (i':nsFind es' "__init__" = none):EC K C :=
  ⟨_,_,_,_,_,_,_,_,_,_,_,_,_,_,_,_,"ValueError",_,_,_,nsFind es,PySem.F.excBase_ValueError,(by rfl),i,fun h X=>⟨X _ _ l,re s t X,.own (X _ _ l') (re s' t' X) i' .base⟩⟩
theorem mo (l:K.lookup C=some (excClassObj nm q C N bs (.ref Pa :: jP) hdct sn sub ab col dd k0 k1 k2 k3 k5 "ValueError.__new__"))
    (l':K.lookup Pa=some (excClassObj nm' q' Pa N' bs' jP hdct' sn' sub' ab' col' dd' k0' k1' k2' k3' k5' "ValueError.__new__")):Und K C Pa :=
  ⟨_,_,_,_,_,_,_,_,_,_,_,_,_,_,_,_,_,_,_,_,_,_,_,_,_,_,_,_,_,_,_,_,_,_,(by simp),(by rfl),fun h X=>⟨X _ _ l,X _ _ l'⟩⟩
theorem pN (l:K.lookup C=some (excClassObj nm q C N bs (.ref Pa :: jP) hdct sn sub ab col dd k0 k1 k2 k3 k5 "ValueError.__new__")) (f1:aaZ K (.ref C) "__getattribute__" = some (some (.builtin "BaseException.__getattribute__"))) (f2:aaZ K (.ref C) "__getattr__" = some none)
    (f3:aaZ K (.ref C) "__class__" = some (some (.builtin "object.__class__"))) (f4:aay K (.ref C) (.type "BaseException")=some true) (f5:aay K (.ref C) (.type "object")=some true):ExC K C where
  lk:=fun M h X=>⟨PySem.W.looks_findIn X f1,PySem.W.looks_findIn X f2,PySem.W.looks_findIn X f3,PySem.W.looks_subIn X f4,by
    have e:(".".intercalate ("object.__class__".cutAt '.').dropLast) = "object":=by decide +kernel
    rw [e];exact PySem.W.looks_subIn X f5⟩
  cl:=by unfold aaR;rw [l];rfl
  sl:=⟨"ValueError",PySem.F.attrBase_ValueError.ga⟩
theorem a7 {D:Addr} {cd:ClassData} {b:Bool} (ne:(Value.ref C == Value.ref D)=false) (h1:aaR K D=some cd) (h2:aa1 K (.ref D)=some (.type "type")) (h3:aay K (.ref C) (.ref D)=some b):aaC K (.ref C) (.ref D)=some b:=by
  unfold aaC PySem.W.kitCls;rw [ne,if_neg (by simp)];show (if ((aaR K D).isSome && aa1 K (Value.ref D) == some (Value.type "type"))=true then aay K (Value.ref C) (Value.ref D) else none)=some b;rw [h1,h2];exact (if_pos (by simp)).trans h3
theorem kF:aaC K (.ref C) (.ref C)=some true:=by
  unfold aaC;rw [if_pos (beq_self_eq_true _)]
theorem mH (h3:aay K (.ref C) (.type "ValueError")=some true):aaC K (.ref C) (.type "ValueError")=some true:=by
  unfold aaC PySem.W.kitCls;have e:PySem.W.kitMeta "ValueError" = true:=by decide +kernel
  have e1:(Value.ref C == Value.type "ValueError")=false:=rfl;simp only [e1,e,if_true];exact h3
end
end L2
namespace L2
open PySem
theorem kG {K:aab} {t a b c d:Value} (h1:aaC K t a=some false) (h2:aaC K t b=some false) (h3:aaC K t c=some false) (h4:aaC K t d=some false):PySem.W.kitAny K t [a,b,c,d]=some false:=by
  simp only [PySem.W.kitAny,h1,h2,h3,h4]
open PySem PySem.Spec PyProof.Rows
open PySem PySem.Spec PyProof.Rows
section
variable {X:Cx}
theorem qu {i₀:Nat} {x:Str} {px spos:Pos} {elt tg iter:Expr} {ifs:List Expr} {scope:Scope} {pos:Pos} {cl:List (Str × Addr)} {NY:List Str} {cap:List (Option Nat)} {wi:TI} {g:TG} {tt:TT} {te:TE} (hN:X.N.Nodup) (hiN:X.N[i₀]?=some x) (hx:Loc X.env.scope x) (hc:X.calm=true) (hi:PI X tg iter wi)
    (hclos:closureFor scope X.env=pure cl) (hci:CellsIn X.env cl) (hcap:CapOk X.env (relabel scope X.env) X.N NY cap)
    (hb:∀ fp s H C,PG (ah X scope cl NY fp s H C) tg g∧gp (ah X scope cl NY fp s H C) ifs tt∧PE (ah X scope cl NY fp s H C) elt te)
    (hkind:scope.kind=.function:=by rfl) (hnc:(scope.names.all fun y=>y.2 != .cell)=true:=by rfl)
    (hnames:(scope.names.all fun y=>y.2 != .local || scope.names.lookup y.1 == some .local)=true:=by rfl)
    (hhas:((relabel scope X.env).names.all fun p=>(p.2 != .cell && p.2 != .free) || (cl.lookup p.1).isSome)=true:=by rfl)
    (hs:∀ x,foldedSetIterable iter X.env x=pure x:=by intro _;rfl) (hsw:swapsWith (.ListComp elt [⟨tg,iter,ifs,0⟩] scope pos) (some (.Name x px)) spos.line X.env=pure true:=by rfl)
    (hf:X.fn x=true∨X.env.scope.names.lookup x=some .local:=by first|exact .inl rfl|exact .inr rfl|assumption) :
    PS X (.Assign [.Name x px] (.ListComp elt [⟨tg,iter,ifs,0⟩] scope pos) spos) (rQ (tLc cap wi g tt te) (pH i₀)):=by
  have hnc':∀ y∈scope.names,y.2≠.cell:=fun y hy=>by
    have q:=aaD.mp hnc y hy;simpa using q
  have hnames':∀ y∈scope.names,y.2=.local→scope.names.lookup y.1=some .local:=fun y hy e=>by
    have q:=aaD.mp hnames y hy;rw [e] at q;simpa using q
  intro pins s σ H D I h;rw [exec_Assign_Name_used _ _ _ _ hsw];refine wpAny_bind (wpAny_standAt (wpAny_bind ?_));show wpAny _ X.A (do let _ ← comprehension (.ListComp elt [⟨tg,iter,ifs,0⟩] scope pos) scope X.env _ (newList []) false (eval iter X.env) (some (assign (.Name x px) X.env))) _ _ s;refine wpAny_bind (wpAny_mono (wpAny_comprehension_free (use:=some (assign (.Name x px) X.env)) (Q:=fun _ s'=>∃ σ' H',Inv X pins σ' H' s'∧D.nx σ' H') rfl hs hclos hkind hnames' (wpAny_mono (hi pins s σ H _ I h) (fun v s1 h1=>wpAny_mono h1 (fun itv s2 h2=>?_) fun _ _ e=>e) fun _ _ e=>e)) (fun _ s' hq=>wpAny_pure (wpAny_pure hq)) fun _ _ e=>e);obtain ⟨it,fp,tn,J,H2,e,I2,T,st2,f2,W,⟨m0,w0⟩,turn⟩:=h2;subst e;refine wpAny_newObj_type (wpAny_newFunctionEnv hnc' (by intro y hy;simp at hy) (fun h₁ hns₁ hsb₁=>?_) hkind);dsimp only at hns₁ hsb₁ ⊢;generalize hH2:s2.heap.push { cls:=.type "list",dict:=none,data:=.seq ([]:List Value).toArray }=G2 at hns₁ hsb₁ ⊢;have hC:G2.objs.size=s2.heap.objs.size+1:=by rw [← hH2,abP]
  have hDC:s2.heap.objs.size≠G2.objs.size:=by rw [hC];exact aaq (abQ _)
  have hDlt:s2.heap.objs.size≤G2.objs.size:=by rw [hC];exact abU _
  have below:∀ b,b < s2.heap.objs.size→b≠G2.objs.size∧b≠s2.heap.objs.size:=fun b hb=>⟨by rw [hC];exact aaq (abj hb),aaq hb⟩
  have old:∀ b o,s2.heap.get? b=some o→h₁.get? b=some o:=fun b o e=>hsb₁.extBut b o (below b (aaf e)).1 (aac _ (hH2 ▸ aac _ e));have hacc:h₁.get? s2.heap.objs.size=some { cls:=.type "list",data:=.seq ([]:List Value).toArray 0 }:=hsb₁.extBut _ _ hDC (aac _ (hH2 ▸ aar _ rfl));have fpl:∀ b∈fp,b < s2.heap.objs.size:=fun b hb=>by
    obtain ⟨o,e,_⟩:=T.obj _ _ st2 b hb;exact aaf e
  have freshD:H2 s2.heap.objs.size=none:=I2.hok.fresh (aah _);have freshC:H2 G2.objs.size=none:=I2.hok.fresh hDlt;have cellLt:∀ x c,X.env.cells.lookup x=some c→c < s2.heap.objs.size:=fun x c e=>by
    obtain ⟨v,q⟩:=I2.cell x c e;exact q.lt
  have hclX:∀ x c,cl.lookup x=some c→X.env.cells.lookup x=some c:=fun x c e=>hci.get e;obtain ⟨hbg,hbt,hbe⟩:=hb fp s2 H2 G2.objs.size;have okY:(ah X scope cl NY fp s2 H2 G2.objs.size).Ok:=by
    refine ⟨I2.ok.mod,hkind,I2.ok.glob,I2.ok.blt,hDlt,fun x y c e1 e2=>I2.ok.inj x y c (hclX x c e1) (hclX y c e2),fun x hx=>?_,fun x c hf _=>?_,I2.ok.hd,I2.ok.frames,.inl rfl,fun b hb=>⟨(below b (fpl b hb)).1,fun x c e z=>?_⟩,I2.bs,
      aaJ I2.ok.bsz I2.sz,fun b o e hb=>?_,fun b hb hz=>?_,I2.stack,I2.stkFree⟩
    · have hx':(relabel scope X.env).names.lookup x=some .cell∨(relabel scope X.env).names.lookup x=some .free:=hx;have key:∀ k,(relabel scope X.env).names.lookup x=some k→(k=.cell∨k=.free)→∃ c,cl.lookup x=some c:=fun k e hk=>by
        have q:=aaD.mp hhas (x,k) (aaU e);have q':(cl.lookup x).isSome=true:=by
          rcases hk with rfl|rfl <;> simpa using q
        exact aa8.mp q'
      rcases hx' with e|e
      · exact key _ e (.inl rfl)
      · exact key _ e (.inr rfl)
    · exact absurd (show false=true from hf) aae
    · exact (f2 b hb).2.2.2.2.1 x c (hclX x c e) z
    · rcases (f2 b hb).2.2.2.1 with z|z
      · exact I2.ok.noex b o e z
      · exact absurd (aam (aaf (I2.ok.bs b o e).1) z) (aaT _)
    · rcases aaj.mp (I2.stkSub b hz) with z|z
      · exact (f2 b hb).2.1 z
      · exact (f2 b hb).2.2.1 z
  have fpYs:∀ {H':Hp} {n:Nat} {its:List Value},(∀ b∈fp,H' b=none)→∀ b∈fp,fI (ah X scope cl NY fp s2 H2 G2.objs.size) [(s2.heap.objs.size,{ cls:=.type "list",data:=.seq its.toArray n })] H' b:=fun {H' n its} hn b hb=>by
    refine ⟨hn b hb,(below b (fpl b hb)).1,fun hz=>?_,.inl hb,fun x c e=>(f2 b hb).2.2.2.2.1 x c (hclX x c e),fun p hp=>?_⟩
    · rcases aaj.mp (I2.stkSub b hz) with z|z
      · exact (f2 b hb).2.1 z
      · exact (f2 b hb).2.2.1 z
    · have e:p=(s2.heap.objs.size,{ cls:=.type "list",data:=.seq its.toArray n }):=by simpa [ah] using hp
      rw [e];exact abt (below b (fpl b hb)).2
  have nostk:∀ b,s2.heap.objs.size≤b→b∉frs X.stack:=fun b hb hz=>by
    rcases aaj.mp (I2.stkSub b hz) with z|z
    · have:=I2.lt;rw [← z] at this;exact absurd (aam this hb) (aaT _)
    · exact I2.nofs hb z
  have IY0:Inv (ah X scope cl NY fp s2 H2 G2.objs.size) [(s2.heap.objs.size,{ cls:=.type "list",data:=.seq ([]:List Value).toArray 0 })] (aI cap σ) H2 { s2 with heap:=h₁,toks:=s2.toks+([]:List (Str × Value)).length }:=by
    refine ⟨okY,rfl,I2.bare,Un.kept old,⟨_,hns₁,fun j x v e1 e2 e3=>?_⟩,fun x c e=>?_,freshC,fun x c e=>I2.freeC x c (hclX x c e),fun p hp=>?_,I2.hok.kept old,?_⟩
    · obtain ⟨i,h1,h2,h3,h4⟩:=CapOk.get (σ:=σ) hcap e1 e2;obtain ⟨m,hn,hl⟩:=I2.loc;have vis:Vis X.env.scope x:=by rcases h3 with z|z;exact .inr (.inl z);exact .inr (.inr z)
      obtain ⟨u,r,l⟩:=hl i x v h1 h2 vis;refine ⟨u,r,.inr ⟨h4,?_⟩⟩;rcases l with ⟨k,_⟩|⟨_,c,e,z⟩
      · rcases h3 with z|z <;> (rw [k] at z;cases z)
      · obtain ⟨c',e'⟩:=okY.has x h4;have e':cl.lookup x=some c':=e';have e'':=hclX x c' e';rw [e] at e'';cases e'';obtain ⟨o,ho,hd⟩:=z;exact ⟨c,e',o,old _ _ ho,hd⟩
    · obtain ⟨v,o,ho,hd⟩:=I2.cell x c (hclX x c e);exact ⟨v,o,old _ _ ho,hd⟩
    · have e:p=(s2.heap.objs.size,{ cls:=.type "list",data:=.seq ([]:List Value).toArray 0 }):=by simpa [ah] using hp
      rw [e];exact ⟨hacc,freshD,hDC,nostk _ (aah _),fun v z=>by cases z⟩
    · show (aI cap σ).length=NY.length;unfold aI;rw [aan];exact hcap.len
  have hcY:(ah X scope cl NY fp s2 H2 G2.objs.size).calm=true:=hc;have stW:tn 0 h₁:=T.keep _ _ _ st2 fun b _ o e=>old b o e;have loop:∀ s₃:Shared,s₃={ s2 with heap:=h₁,toks:=s2.toks+([]:List (Str × Value)).length } →
      codeAny (model X.prog X.w) X.A (.compLoop (.ListComp elt [⟨tg,iter,ifs,0⟩] scope pos) 0 (.ref it) (.ref s2.heap.objs.size) (compEnvC scope cl G2.objs.size X.env))
        (compPost (model X.prog X.w) X.A X.xe (some (assign (.Name x px) X.env)) (fun _ s'=>∃ σ' H',Inv X pins σ' H' s'∧D.nx σ' H') (.ref s2.heap.objs.size) G2.objs.size) s₃:=by
    rintro s₃ rfl;refine iY (fun n s'=>∃ i ys its k H',Inv (ah X scope cl NY fp s2 H2 G2.objs.size) [(s2.heap.objs.size,{ cls:=.type "list",data:=.seq its.toArray k })] (aI cap σ) H' s'∧Vals ys its∧ys.length≤sizeLine∧tn i s'.heap∧(∀ b∈fp,H' b=none)∧W i n ys H') ?_ m0
      ⟨0,[],[],0,H2,IY0,.nil,aaQ _,stW,fun b hb=>(f2 b hb).1,w0⟩
    rintro n s3 ⟨i,ys,its,k,H3,I3,rv,hz,st3,fr3,w3⟩;rcases turn i n ys H3 w3 with ⟨stop,qn⟩|⟨go,hlt,step⟩
    · refine wpAny_mono (T.done (ah X scope cl NY fp s2 H2 G2.objs.size) rfl rfl rfl hcY i _ s3 _ H3 (fun _ _=>False) I3 (fpYs fr3) st3 stop) (fun r s4 ⟨hr,I4⟩=>?_) fun _ _ z=>z;subst hr;obtain ⟨m,hnC,_⟩:=id I4.loc;have hnC:s4.heap.Ns G2.objs.size m:=hnC;have pD:=(I4.pin (s2.heap.objs.size,{ cls:=.type "list",data:=.seq its.toArray k }) (by simp [ah]))
      have un:Un (frs X.stack) fp H2 H3 s2.heap s4.heap:=I4.base;have I5:Inv X pins σ H3 s4:=I2.call' (ch:=fp) I4.os un I4.hok I4.bare fun b hb=>⟨(f2 b hb).2.2.2.1,(f2 b hb).2.1,(f2 b hb).2.2.2.2.1,(f2 b hb).2.2.2.2.2⟩
      have cC:H3 G2.objs.size=none:=I4.free;have szX:X.s₀.heap.objs.size≤s2.heap.objs.size:=I2.sz;have I7:Inv X pins σ (upd H3 s2.heap.objs.size (.lst ys)) s4:=I5.adopt pD.2.1 szX (aaN I2.lt) (fun x c e=>aaq (cellLt x c e)) (fun p hp=>aaq (aaf (I2.pin p hp).1))
        ⟨hz,its,k,rv,pD.1⟩
      obtain ⟨oC,es,ep,hoC,hdC,rC⟩:=hnC;have nL:G2.objs.size≠X.env.locals:=aaN (aam I2.lt hDlt);have cC':upd H3 s2.heap.objs.size (.lst ys) G2.objs.size=none:=by rw [aj (abt hDC)];exact cC
      have I8:Inv X ((G2.objs.size,oC) :: pins) σ (upd H3 s2.heap.objs.size (.lst ys)) s4:=I7.pins_of fun p hp=>by
        rcases aaj.mp hp with z|z
        · rw [z];exact ⟨hoC,cC',nL,fun hz=>I2.nofs hDlt hz,fun v z=>by rw [hdC] at z;cases z⟩
        · exact I7.pin p (aaa _ z)
      show wpAny _ X.A (assign (.Name x px) X.env (.ref s2.heap.objs.size)) _ _ s4;refine wpAny_assign_Name (dM (v:=.ref s2.heap.objs.size) I8 hN hiN hx rfl (fun s5 I9=>?_) hf);have pC:=I9.pin (G2.objs.size,oC) (aaa _ aav);refine ⟨m,⟨oC,es,ep,pC.1,hdC,rC⟩,fun h' hsb=>?_⟩;have I10:Inv X pins (σ.set i₀ (some (.ref s2.heap.objs.size))) (upd H3 s2.heap.objs.size (.lst ys)) s5:=I9.pins_of fun p hp=>I9.pin p (aaa _ (aal _ hp));have I11:Inv X pins (σ.set i₀ (some (.ref s2.heap.objs.size))) (upd H3 s2.heap.objs.size (.lst ys)) { s5 with heap:=h' }:=I10.turned (t':=s5.toks) (it:=G2.objs.size) (fun b o hb e=>hsb.extBut b o hb e) cC' nL (.inr (aaJ szX hDlt))
        (fun x c e z=>absurd (cellLt x c e) (by rw [z];exact ab8.mpr hDlt)) (fun p hp z=>absurd (aaf (I2.pin p hp).1) (by rw [z];exact ab8.mpr hDlt))
      exact ⟨_,_,I11,qn _ pD.2.1⟩
    · refine wpAny_mono (T.item (ah X scope cl NY fp s2 H2 G2.objs.size) rfl rfl rfl hcY i _ s3 _ H3 (fun _ _=>False) I3 (fpYs fr3) st3 go) (fun r s4 ⟨u,hr,h4⟩=>?_) fun _ _ z=>z;subst hr;refine wpAny_mono h4 (fun _ s5 ⟨x,H5,I5,r5,y5,st5,fr5⟩=>?_) fun _ _ z=>z;have I5':=I5.pinned (fpYs fr5) (T.obj _ _ st5);refine wpAny_mono (hbg _ s5 _ H5 x u _ I5' r5 (step x H5 y5)) (fun _ s6 ⟨σ6,H6,I6,q6⟩=>?_) fun _ _ z=>z;refine wpAny_mono (hbt _ s6 σ6 H6 _ I6 q6) (fun ok s7 ⟨H7,I7,q7⟩=>?_) fun _ _ z=>z;have lenY:∀ {σ':St} {pn} {H'} {s'},Inv (ah X scope cl NY fp s2 H2 G2.objs.size) pn σ' H' s'→(aI cap σ).length=σ'.length:=fun {σ' pn H' s'} Z=>IY0.len.trans Z.len.symm;have captured:∀ {σ':St} {pn} {H'} {s'},Inv (ah X scope cl NY fp s2 H2 G2.objs.size) pn σ' H' s'→Inv (ah X scope cl NY fp s2 H2 G2.objs.size) pn (aI cap σ) H' s':=fun {σ' pn H' s'} Z=>by
        refine ⟨Z.ok,Z.os,Z.bare,Z.base,?_,Z.cell,Z.free,Z.freeC,Z.pin,Z.hok,IY0.len⟩;obtain ⟨m,hn,_⟩:=Z.loc;refine ⟨m,hn,fun j x v e1 e2 e3=>?_⟩;obtain ⟨i',h1,h2,h3,h4⟩:=CapOk.get (σ:=σ) hcap e1 e2;obtain ⟨m',hn',hl⟩:=I2.loc;have vis:Vis X.env.scope x:=by rcases h3 with z|z;exact .inr (.inl z);exact .inr (.inr z)
        obtain ⟨u,r,l⟩:=hl i' x v h1 h2 vis;refine ⟨u,r,.inr ⟨h4,?_⟩⟩;rcases l with ⟨kk,_⟩|⟨_,c,e,z⟩
        · rcases h3 with z|z <;> (rw [kk] at z;cases z)
        · obtain ⟨c',e'⟩:=okY.has x h4;have e':cl.lookup x=some c':=e';have e'':=hclX x c' e';rw [e] at e'';cases e'';obtain ⟨o,ho,hd⟩:=z;have nfp:c∉fp:=fun hz=>(f2 c hz).2.2.2.2.1 x c e rfl;obtain ⟨sl,q⟩:=Z.base.any (show s2.heap.get? c=some o from ho) (I2.freeC x c e) nfp;exact ⟨c,e',_,q,hd⟩
      have again:∀ {ys':List V} {its':List Value} {k':Nat} {σ':St} {H':Hp} {s':Shared},Inv (ah X scope cl NY fp s2 H2 G2.objs.size) ([(s2.heap.objs.size,{ cls:=.type "list",data:=.seq its'.toArray k' })]++aZ fp s5.heap) σ' H' s'→Vals ys' its'→ys'.length≤sizeLine →
          (∃ m',m' < n∧W (i+1) m' ys' H')→∃ m,m < n∧∃ i ys its k H',Inv (ah X scope cl NY fp s2 H2 G2.objs.size) [(s2.heap.objs.size,{ cls:=.type "list",data:=.seq its.toArray k })] (aI cap σ) H' s'∧Vals ys its∧ys.length≤sizeLine∧tn i s'.heap∧(∀ b∈fp,H' b=none)∧W i m ys H':=fun {ys' its' k' σ' H' s'} Z rv' hz' hw=>by
        obtain ⟨m',hm,w'⟩:=hw;refine ⟨m',hm,i+1,ys',its',k',H',captured Z.unpinned,rv',hz',T.keep _ _ _ st5 fun b hb o e=>(Z.pin (b,o) (aaa _ (aaa _ (a8 hb e)))).1,fun b hb=>?_,w'⟩;obtain ⟨o,e,d⟩:=T.obj _ _ st5 b hb;exact (Z.pin (b,o) (aaa _ (aaa _ (a8 hb e)))).2.1
      cases ok with
      | false =>
        rw [if_neg aae] at q7 ⊢;exact again I7 rv hz q7
      | true =>
        rw [if_pos rfl] at q7 ⊢;refine wpAny_mono (hbe _ s7 σ6 H7 _ I7 q7) (fun xv s8 ⟨v,H8,I8,r8,q8⟩=>?_) fun _ _ z=>z;have pD:=I8.pin (s2.heap.objs.size,{ cls:=.type "list",data:=.seq its.toArray k }) (by simp [ah]);have hlen:=rv.length;refine append_at pD.1 (fun h9 hs9 hD9=>?_) (by rw [aag];lia);have I9:Inv (ah X scope cl NY fp s2 H2 G2.objs.size) (aZ fp s5.heap) σ6 H8 s8:=I8.pins_of fun p hp=>I8.pin p (aaa _ (aaa _ hp));have I10:Inv (ah X scope cl NY fp s2 H2 G2.objs.size) (aZ fp s5.heap) σ6 H8 { s8 with heap:=h9 }:=I9.turned (t':=s8.toks) (it:=s2.heap.objs.size) (fun b o hb e=>hs9.extBut b o hb e) pD.2.1 hDC (.inr (aah _))
          (fun x c e=>aaq (cellLt x c (hclX x c e))) fun p hp=>by
            have hp':p∈aZ fp s5.heap:=by simpa [ah] using hp
            exact abt (abt (below _ (fpl _ (cR hp').1)).2)
        have I11:Inv (ah X scope cl NY fp s2 H2 G2.objs.size) ([(s2.heap.objs.size,{ cls:=.type "list",data:=.seq (its++[xv]).toArray (k+1) })]++aZ fp s5.heap) σ6 H8 { s8 with heap:=h9 }:=I10.pins_of fun p hp=>by
          rcases aap.mp hp with z|z
          · have e:p=(s2.heap.objs.size,{ cls:=.type "list",data:=.seq (its++[xv]).toArray (k+1) }):=by simpa using z
            rw [e];refine ⟨?_,pD.2.1,hDC,nostk _ (aah _),fun v z=>by cases z⟩;rw [List.push_toArray] at hD9;exact hD9
          · exact I10.pin p (aaa _ z)
        exact again I11 (rv.append (.cons r8 .nil)) (by rw [aao,abL];exact hlt) q8
  exact codeAny_compStart_list (loop _ rfl) (T.self _ 0 _ _ _ stW (loop _ rfl))
end
open PySem PySem.Spec PyProof.Rows
section
variable {X:Cx}
end
open PySem PySem.Spec PyProof.Rows
section
variable {prog:Program} {w:World} {A:Around} {E:Value→Shared→Prop} {s:Shared} {I:Addr} {fp wr:List Addr} {G:Array GenState→Array GenState→Prop} {n:Nat} {P:Nat→Value→Prop} {St:Nat→Shared→Prop}
end
end L2
set_option maxHeartbeats 1000000
namespace L2
open PySem PySem.Spec PyProof.Rows
section
variable {X:Cx} {pos:Pos} {t u:TS}
end
open PySem PySem.Spec PyProof.Rows
theorem sM {X:Cx} {pins:List (Addr × Obj)} {σ:St} {H:Hp} {s:Shared} {a:Addr} {y v:V} {u r:Value} {A:Around} {E:Value→Shared→Prop} {H':Hp} {Q:Unit→Shared→Prop} (hu:A.units+1 < cLine) (I:Inv X pins σ H s) (g:DPut H a y v H') (ry:RelV y u) (rv:RelV v r) (h:∀ s',Inv X pins σ H' s'→Q () s') :
    wpAny (model X.prog X.w) A (dictSet a u r) Q E s:=by
  rcases g with ⟨kvs,k,e,ey,l,eH⟩|⟨kvs,k,b,e,ey,eb,l,eH⟩
  · subst ey eH;obtain ⟨z,hd,vs,rel,dd⟩:=mR I.hok e;have hz:vs.length≤sizeLine:=by rw [← rel.length];exact z
    have hl:(cX kvs k v).length≤sizeLine:=by have:=cD kvs k v;lia
    refine wpAny_dictSet_pairs (hsz:=hz) (kI ry) dd fun h' dd' hs=>h _ ?_;have he:∃ q,h'.get? a=some q:=let ⟨q,_,_,hq,_⟩:=dd';⟨q,hq⟩;exact fG I (by rw [e];exact True.intro) hs he (l_ hl hd (rel.put k rv) dd')
  · subst ey eH;cases (show u=Value.ref b from ry);obtain ⟨z,hd,xs,rel,dd⟩:=rp I.hok e;have hz:xs.length≤sizeLine:=by rw [← abk rel];exact z
    have hl:(cX kvs k v).length≤sizeLine:=by have:=cD kvs k v;lia
    have hr:(tupleKind (aK X.prog X.w)).room A:=by show A.units < cLine;lia
    refine wpAny_dictSet_heap (hsz:=hz) hr (jy I.hok eb) dd fun h' dd' hs=>h _ ?_;obtain ⟨q,es,ep,hq,h2,h3,h4,_,h5⟩:=dd';refine fG I (by rw [e];exact True.intro) hs ⟨q,hq⟩ ⟨hl,hd,_,(rel.put k eb rv).keeps fun c ys ec=>?_,q,es,ep,hq,h2,h3,h4,h5⟩;rw [aj (rh ec e (fun z=>nomatch z))];exact ec
theorem mh {prog:Program} {w:World} {A:Around} {R:Result→Shared→Prop} {s:Shared} {kx vx target iter:Expr} {ifs:List Expr} {scope:Scope} {pos:Pos} {it:Value} {D:Addr} {env:Env} (J:Nat→Shared→Prop)
    (turn:∀ n s,J n s→wpAny (model prog w) A (pyNext it) (fun r s₁=>match r with
      | none=>R (.ok .next) s₁
      | some v=>wpAny (model prog w) A (letOwnedTupleGo target it v) (fun _ s₁'=>wpAny (model prog w) A (assign target env v) (fun _ s₂ =>
          wpAny (model prog w) A (forIn ifs true fun c r=>if r=true then do let ok ← isTrue c env (eval c env);pure (ForInStep.yield ok) else pure (ForInStep.yield r)) (fun ok s₃ =>
            if ok=true then wpAny (model prog w) A (eval kx env) (fun kv s₄=>wpAny (model prog w) A (eval vx env) (fun vv s₅ =>
              wpAny (model prog w) A (dictSet D kv vv) (fun _ s₆=>∃ m,m < n∧J m s₆) (fun _ _=>False) s₅) (fun _ _=>False) s₄) (fun _ _=>False) s₃
            else ∃ m,m < n∧J m s₃) (fun _ _=>False) s₂) (fun _ _=>False) s₁') (fun _ _=>False) s₁) (fun _ _=>False) s)
    (n:Nat) (h:J n s) :
    codeAny (model prog w) A (.compLoop (.DictComp kx vx [⟨target,iter,ifs,0⟩] scope pos) 0 it (.ref D) env) R s:=by
  refine codeAny_loop rfl J (fun n s hI=>?_) n h;show wpAny _ A ((compTurn (.DictComp kx vx [⟨target,iter,ifs,0⟩] scope pos) 0 it (.ref D) env).onRaise (fun x=>do noteFrame x env;theTreesLotGoes x)) _ _ s;refine wpAny_noted ?_;rw [compTurn_dict];refine wpAny_bind (wpAny_standAt (wpAny_bind (wpAny_mono (turn n s hI) (fun r s₁ h₁=>?_) fun _ _ h'=>h'.elim)));cases r with
  | none=>exact wpAny_pure h₁
  | some v =>
    refine wpAny_bind (wpAny_mono h₁ (fun _ s₁' h₁'=>?_) fun _ _ h'=>h'.elim);refine wpAny_bind (wpAny_mono h₁' (fun _ s₂ h₂=>wpAny_bind (wpAny_mono h₂ (fun ok s₃ h₃=>?_) fun _ _ h'=>h'.elim)) fun _ _ h'=>h'.elim);cases ok with
    | false=>exact wpAny_pure ⟨rfl,h₃⟩
    | true =>
      exact wpAny_bind (wpAny_bind (wpAny_mono h₃ (fun kv s₄ h₄=>wpAny_bind (wpAny_holding (wpAny_mono h₄ (fun vv s₅ h₅=>wpAny_bind (wpAny_standAt (wpAny_holding (wpAny_mono h₅ (fun _ s₆ h₆=>wpAny_pure ⟨rfl,h₆⟩) fun _ _ h'=>h'.elim)))) fun _ _ h'=>h'.elim))) fun _ _ h'=>h'.elim))
abbrev uc (cap:List (Option Nat)) (g:TG) (tt:TT) (tk tv:TE) (ob:HO) (σ:St) (Q:VK) (J:It) (H1:Hp):Prop:=∃ W:Addr→Nat→Nat→Hp→Prop,(∀ p,H1 p=none→∃ m,W p 0 m (upd H1 p ob))∧∀ p i m H,H1 p=none→W p i m H →
  (J.stop i H∧Q (.ref p) H) ∨
  (J.go i H∧∀ x H',J.yld i H x H'→g x (aI cap σ) H' fun σ2 H2=>tt σ2 H2 fun b H3=>if b=true then tk σ2 H3 fun k H4=>tv σ2 H4 fun v H5=>∃ H6,DPut H5 p k v H6∧∃ m',m' < m∧W p (i+1) m' H6 else ∃ m',m' < m∧W p (i+1) m' H3)
def tDc (cap:List (Option Nat)) (wi:TI) (g:TG) (tt:TT) (tk tv:TE) (ob:HO):TE:=fun σ H Q=>wi σ H (uc cap g tt tk tv ob σ Q)
section
variable {X:Cx}
end
open PySem PySem.Spec PyProof.Rows
section
variable {X:Cx}
end
end L2
namespace PySem
open Builtin Builtin.Str Builtin.Int
section
variable {prog:Program} {w:World} {A:Around} {E:Value→Shared→Prop} {s:Shared} {x:Str} {t:Tok} {Q:Value→Shared→Prop}
  {I:Addr} {fp wr:List Addr} {G:Array GenState→Array GenState→Prop} {n:Nat} {P:Nat→Value→Prop} {St:Nat→Shared→Prop}
end
end PySem
namespace L2
open PySem PySem.Spec PyProof.Rows
section
variable {X:Cx}
end
open PySem PySem.Spec PyProof.Rows
section
variable {X:Cx}
end
open PySem PySem.Spec PyProof.Rows
section
variable {X:Cx} {pins:List (Addr × Obj)} {σ:St} {H:Hp} {s:Shared} {A:Around} {Q:Value→Shared→Prop} {E:Value→Shared→Prop} {b:Bool}
end
section
variable {X:Cx} {a b c d:Expr} {ta tb tc td:TE} {pos:Pos}
end
section
variable {X:Cx}
theorem tK {ob:HO} {kx vx tg iter:Expr} {ifs:List Expr} {scope:Scope} {pos:Pos} {cl:List (Str × Addr)} {NY:List Str} {cap:List (Option Nat)} {wi:TI} {g:TG} {tt:TT} {tk tv:TE} (hob:ob=.dK []∨ob=.dT []) (hu:X.A.units+1 < cLine) (hc:X.calm=true) (hi:PI X tg iter wi)
    (hclos:closureFor scope X.env=pure cl) (hci:CellsIn X.env cl) (hcap:CapOk X.env (relabel scope X.env) X.N NY cap)
    (hb:∀ fp s H C,PG (ah X scope cl NY fp s H C) tg g∧gp (ah X scope cl NY fp s H C) ifs tt∧PE (ah X scope cl NY fp s H C) kx tk∧PE (ah X scope cl NY fp s H C) vx tv)
    (hkind:scope.kind=.function:=by rfl) (hnc:(scope.names.all fun y=>y.2 != .cell)=true:=by rfl)
    (hnames:(scope.names.all fun y=>y.2 != .local || scope.names.lookup y.1 == some .local)=true:=by rfl)
    (hhas:((relabel scope X.env).names.all fun p=>(p.2 != .cell && p.2 != .free) || (cl.lookup p.1).isSome)=true:=by rfl)
    (hs:∀ x,foldedSetIterable iter X.env x=pure x:=by intro _;rfl) :
    PE X (.DictComp kx vx [⟨tg,iter,ifs,0⟩] scope pos) (tDc cap wi g tt tk tv ob):=by
  have hnc':∀ y∈scope.names,y.2≠.cell:=fun y hy=>by
    have q:=aaD.mp hnc y hy;simpa using q
  have hnames':∀ y∈scope.names,y.2=.local→scope.names.lookup y.1=some .local:=fun y hy e=>by
    have q:=aaD.mp hnames y hy;rw [e] at q;simpa using q
  intro pins s σ H Q I h;rw [arm_eval_DictComp];refine wpAny_comprehension_free (use:=none) rfl hs hclos hkind hnames' (wpAny_mono (hi pins s σ H _ I h) (fun v s1 h1=>wpAny_mono h1 (fun itv s2o h2=>?_) fun _ _ e=>e) fun _ _ e=>e);obtain ⟨it,fp,tn,J,H2o,e,I2o,T,st2o,f2o,W,w00,turn⟩:=h2;subst e;have freshO:H2o s2o.heap.objs.size=none:=I2o.hok.fresh (aah _);obtain ⟨m0,w0⟩:=w00 _ freshO;have obk:ObjOk X.prog X.w (upd H2o s2o.heap.objs.size ob) (s2o.heap.push { cls:=.type "dict",data:=.dict #[] }) s2o.heap.objs.size ob:=by
    rcases hob with rfl|rfl
    · exact g8 s2o.heap I2o.big
    · exact kS s2o.heap I2o.big
  have I2:=I2o.laid (a:=s2o.heap.objs.size) (o:=ob) (h':=s2o.heap.push { cls:=.type "dict",data:=.dict #[] }) (t':=s2o.toks) (fun _ _ q=>aac _ q) (aah _) obk;have st2:tn 0 (s2o.heap.push { cls:=.type "dict",data:=.dict #[] }):=T.keep _ _ _ st2o fun b _ o e=>aac _ e;have f2:∀ b∈fp,fI X pins (upd H2o s2o.heap.objs.size ob) b:=fun b hb=>by
    obtain ⟨h1,h2⟩:=f2o b hb;refine ⟨?_,h2⟩;rw [aj (fun z=>?_)]
    · exact h1
    · obtain ⟨o,e,_⟩:=T.obj _ _ st2o b hb;exact absurd (aaf e) (by rw [z];exact aaT _)
  refine wpAny_newObj_type ?_;have hsz0:(s2o.heap.push { cls:=.type "dict",data:=.dict #[] }).objs.size=s2o.heap.objs.size+1:=abP _ _;generalize hs2:({ s2o with heap:=s2o.heap.push { cls:=.type "dict",data:=.dict #[] } }:Shared)=s2 at I2 st2 ⊢;generalize hHH:upd H2o s2o.heap.objs.size ob=H2 at I2 f2 w0;have hDs:s2.heap.objs.size=s2o.heap.objs.size+1:=by rw [← hs2];exact hsz0
  have st2:tn 0 s2.heap:=by rw [← hs2];exact st2
  generalize hDD:s2o.heap.objs.size=DD at freshO w0 hDs ⊢;refine wpAny_newFunctionEnv hnc' (by intro y hy;simp at hy) (fun h₁ hns₁ hsb₁=>?_) hkind
  try dsimp only at hns₁ hsb₁ ⊢
  generalize hG2:s2.heap=G2 at hns₁ hsb₁ ⊢;have hDlt:s2.heap.objs.size≤G2.objs.size:=by rw [hG2];exact aah _
  have below:∀ b,b < s2.heap.objs.size→b≠G2.objs.size:=fun b hb=>by rw [← hG2];exact aaq hb
  have old:∀ b o,s2.heap.get? b=some o→h₁.get? b=some o:=fun b o e=>hsb₁.extBut b o (below b (aaf e)) (aac _ (hG2 ▸ e));have fpl:∀ b∈fp,b < s2.heap.objs.size:=fun b hb=>by
    obtain ⟨o,e,_⟩:=T.obj _ _ st2 b hb;exact aaf e
  have freshC:H2 G2.objs.size=none:=I2.hok.fresh hDlt;have cellLt:∀ x c,X.env.cells.lookup x=some c→c < s2.heap.objs.size:=fun x c e=>by
    obtain ⟨v,q⟩:=I2.cell x c e;exact q.lt
  have hclX:∀ x c,cl.lookup x=some c→X.env.cells.lookup x=some c:=fun x c e=>hci.get e;obtain ⟨hbg,hbt,hbk,hbv⟩:=hb fp s2 H2 G2.objs.size;have okY:(ah X scope cl NY fp s2 H2 G2.objs.size).Ok:=by
    refine ⟨I2.ok.mod,hkind,I2.ok.glob,I2.ok.blt,hDlt,fun x y c e1 e2=>I2.ok.inj x y c (hclX x c e1) (hclX y c e2),fun x hx=>?_,fun x c hf _=>?_,I2.ok.hd,I2.ok.frames,.inl rfl,fun b hb=>⟨(below b (fpl b hb)),fun x c e z=>?_⟩,I2.bs,
      aaJ I2.ok.bsz I2.sz,fun b o e hb=>?_,fun b hb hz=>?_,I2.stack,I2.stkFree⟩
    · have hx':(relabel scope X.env).names.lookup x=some .cell∨(relabel scope X.env).names.lookup x=some .free:=hx;have key:∀ k,(relabel scope X.env).names.lookup x=some k→(k=.cell∨k=.free)→∃ c,cl.lookup x=some c:=fun k e hk=>by
        have q:=aaD.mp hhas (x,k) (aaU e);have q':(cl.lookup x).isSome=true:=by
          rcases hk with rfl|rfl <;> simpa using q
        exact aa8.mp q'
      rcases hx' with e|e
      · exact key _ e (.inl rfl)
      · exact key _ e (.inr rfl)
    · exact absurd (show false=true from hf) aae
    · exact (f2 b hb).2.2.2.2.1 x c (hclX x c e) z
    · rcases (f2 b hb).2.2.2.1 with z|z
      · exact I2.ok.noex b o e z
      · exact absurd (aam (aaf (I2.ok.bs b o e).1) z) (aaT _)
    · rcases aaj.mp (I2.stkSub b hz) with z|z
      · exact (f2 b hb).2.1 z
      · exact (f2 b hb).2.2.1 z
  have fpYs:∀ {H':Hp},(∀ b∈fp,H' b=none)→∀ b∈fp,fI (ah X scope cl NY fp s2 H2 G2.objs.size) [] H' b:=fun {H'} hn b hb=>by
    refine ⟨hn b hb,(below b (fpl b hb)),fun hz=>?_,.inl hb,fun x c e=>(f2 b hb).2.2.2.2.1 x c (hclX x c e),fun p hp=>?_⟩
    · rcases aaj.mp (I2.stkSub b hz) with z|z
      · exact (f2 b hb).2.1 z
      · exact (f2 b hb).2.2.1 z
    · exact absurd hp (by simp [ah])
  have nostk:∀ b,s2.heap.objs.size≤b→b∉frs X.stack:=fun b hb hz=>by
    rcases aaj.mp (I2.stkSub b hz) with z|z
    · have:=I2.lt;rw [← z] at this;exact absurd (aam this hb) (aaT _)
    · exact I2.nofs hb z
  have IY0:Inv (ah X scope cl NY fp s2 H2 G2.objs.size) [] (aI cap σ) H2 { s2 with heap:=h₁,toks:=s2.toks+([]:List (Str × Value)).length }:=by
    refine ⟨okY,rfl,I2.bare,Un.kept old,⟨_,hns₁,fun j x v e1 e2 e3=>?_⟩,fun x c e=>?_,freshC,fun x c e=>I2.freeC x c (hclX x c e),fun p hp=>?_,I2.hok.kept old,?_⟩
    · obtain ⟨i,h1,h2,h3,h4⟩:=CapOk.get (σ:=σ) hcap e1 e2;obtain ⟨m,hn,hl⟩:=I2.loc;have vis:Vis X.env.scope x:=by rcases h3 with z|z;exact .inr (.inl z);exact .inr (.inr z)
      obtain ⟨u,r,l⟩:=hl i x v h1 h2 vis;refine ⟨u,r,.inr ⟨h4,?_⟩⟩;rcases l with ⟨k,_⟩|⟨_,c,e,z⟩
      · rcases h3 with z|z <;> (rw [k] at z;cases z)
      · obtain ⟨c',e'⟩:=okY.has x h4;have e':cl.lookup x=some c':=e';have e'':=hclX x c' e';rw [e] at e'';cases e'';obtain ⟨o,ho,hd⟩:=z;exact ⟨c,e',o,old _ _ ho,hd⟩
    · obtain ⟨v,o,ho,hd⟩:=I2.cell x c (hclX x c e);exact ⟨v,o,old _ _ ho,hd⟩
    · exact absurd hp (by simp [ah])
    · show (aI cap σ).length=NY.length;unfold aI;rw [aan];exact hcap.len
  have hcY:(ah X scope cl NY fp s2 H2 G2.objs.size).calm=true:=hc;have stW:tn 0 h₁:=T.keep _ _ _ st2 fun b _ o e=>old b o e;have loop:∀ s₃:Shared,s₃={ s2 with heap:=h₁,toks:=s2.toks+([]:List (Str × Value)).length } →
      codeAny (model X.prog X.w) X.A (.compLoop (.DictComp kx vx [⟨tg,iter,ifs,0⟩] scope pos) 0 (.ref it) (.ref DD) (compEnvC scope cl G2.objs.size X.env))
        (compPost (model X.prog X.w) X.A X.xe none (EP X pins σ Q) (.ref DD) G2.objs.size) s₃:=by
    rintro s₃ rfl;refine mh (fun n s'=>∃ i H',Inv (ah X scope cl NY fp s2 H2 G2.objs.size) [] (aI cap σ) H' s'∧tn i s'.heap∧(∀ b∈fp,H' b=none)∧W DD i n H') ?_ m0
      ⟨0,H2,IY0,stW,fun b hb=>(f2 b hb).1,w0⟩
    rintro n s3 ⟨i,H3,I3,st3,fr3,w3⟩;rcases turn DD i n H3 freshO w3 with ⟨stop,qn⟩|⟨go,step⟩
    · refine wpAny_mono (T.done (ah X scope cl NY fp s2 H2 G2.objs.size) rfl rfl rfl hcY i _ s3 _ H3 (fun _ _=>False) I3 (fpYs fr3) st3 stop) (fun r s4 ⟨hr,I4⟩=>?_) fun _ _ z=>z;subst hr;obtain ⟨m,hnC,_⟩:=id I4.loc;have hnC:s4.heap.Ns G2.objs.size m:=hnC;have un:Un (frs X.stack) fp H2 H3 s2.heap s4.heap:=I4.base;have I5:Inv X pins σ H3 s4:=I2.call' (ch:=fp) I4.os un I4.hok I4.bare fun b hb=>⟨(f2 b hb).2.2.2.1,(f2 b hb).2.1,(f2 b hb).2.2.2.2.1,(f2 b hb).2.2.2.2.2⟩
      have cC:H3 G2.objs.size=none:=I4.free;have szX:X.s₀.heap.objs.size≤s2.heap.objs.size:=I2.sz;refine ⟨m,hnC,fun h' hsb=>?_⟩;have I6:Inv X pins σ H3 { s4 with heap:=h' }:=I5.turned (t':=s4.toks) (it:=G2.objs.size) (fun b o hb e=>hsb.extBut b o hb e) cC (aaN (aam I2.lt hDlt)) (.inr (aaJ szX hDlt))
        (fun x c e z=>absurd (cellLt x c e) (by rw [z];exact ab8.mpr hDlt)) (fun p hp z=>absurd (aaf (I2.pin p hp).1) (by rw [z];exact ab8.mpr hDlt))
      exact ⟨.ref DD,H3,I6,rfl,qn⟩
    · refine wpAny_mono (T.item (ah X scope cl NY fp s2 H2 G2.objs.size) rfl rfl rfl hcY i _ s3 _ H3 (fun _ _=>False) I3 (fpYs fr3) st3 go) (fun r s4 ⟨u,hr,h4⟩=>?_) fun _ _ z=>z;subst hr;refine wpAny_mono h4 (fun _ s5 ⟨x,H5,I5,r5,y5,st5,fr5⟩=>?_) fun _ _ z=>z;have I5':=I5.pinned (fpYs fr5) (T.obj _ _ st5);refine wpAny_mono (hbg _ s5 _ H5 x u _ I5' r5 (step x H5 y5)) (fun _ s6 ⟨σ6,H6,I6,q6⟩=>?_) fun _ _ z=>z;refine wpAny_mono (hbt _ s6 σ6 H6 _ I6 q6) (fun ok s7 ⟨H7,I7,q7⟩=>?_) fun _ _ z=>z;have lenY:∀ {σ':St} {pn} {H'} {s'},Inv (ah X scope cl NY fp s2 H2 G2.objs.size) pn σ' H' s'→(aI cap σ).length=σ'.length:=fun {σ' pn H' s'} Z=>IY0.len.trans Z.len.symm;have captured:∀ {σ':St} {pn} {H'} {s'},Inv (ah X scope cl NY fp s2 H2 G2.objs.size) pn σ' H' s'→Inv (ah X scope cl NY fp s2 H2 G2.objs.size) pn (aI cap σ) H' s':=fun {σ' pn H' s'} Z=>by
        refine ⟨Z.ok,Z.os,Z.bare,Z.base,?_,Z.cell,Z.free,Z.freeC,Z.pin,Z.hok,IY0.len⟩;obtain ⟨m,hn,_⟩:=Z.loc;refine ⟨m,hn,fun j x v e1 e2 e3=>?_⟩;obtain ⟨i',h1,h2,h3,h4⟩:=CapOk.get (σ:=σ) hcap e1 e2;obtain ⟨m',hn',hl⟩:=I2.loc;have vis:Vis X.env.scope x:=by rcases h3 with z|z;exact .inr (.inl z);exact .inr (.inr z)
        obtain ⟨u,r,l⟩:=hl i' x v h1 h2 vis;refine ⟨u,r,.inr ⟨h4,?_⟩⟩;rcases l with ⟨kk,_⟩|⟨_,c,e,z⟩
        · rcases h3 with z|z <;> (rw [kk] at z;cases z)
        · obtain ⟨c',e'⟩:=okY.has x h4;have e':cl.lookup x=some c':=e';have e'':=hclX x c' e';rw [e] at e'';cases e'';obtain ⟨o,ho,hd⟩:=z;have nfp:c∉fp:=fun hz=>(f2 c hz).2.2.2.2.1 x c e rfl;obtain ⟨sl,q⟩:=Z.base.any (show s2.heap.get? c=some o from ho) (I2.freeC x c e) nfp;exact ⟨c,e',_,q,hd⟩
      have again:∀ {σ':St} {H':Hp} {s':Shared},Inv (ah X scope cl NY fp s2 H2 G2.objs.size) ([]++aZ fp s5.heap) σ' H' s' →
          (∃ m',m' < n∧W DD (i+1) m' H')→∃ m,m < n∧∃ i H',Inv (ah X scope cl NY fp s2 H2 G2.objs.size) [] (aI cap σ) H' s'∧tn i s'.heap∧(∀ b∈fp,H' b=none)∧W DD i m H':=fun {σ' H' s'} Z hw=>by
        obtain ⟨m',hm,w'⟩:=hw;refine ⟨m',hm,i+1,H',captured Z.unpinned,T.keep _ _ _ st5 fun b hb o e=>(Z.pin (b,o) (aaa _ (aaa _ (a8 hb e)))).1,fun b hb=>?_,w'⟩;obtain ⟨o,e,d⟩:=T.obj _ _ st5 b hb;exact (Z.pin (b,o) (aaa _ (aaa _ (a8 hb e)))).2.1
      cases ok with
      | false =>
        rw [if_neg aae] at q7 ⊢;exact again I7 q7
      | true =>
        rw [if_pos rfl] at q7 ⊢;refine wpAny_mono (hbk _ s7 σ6 H7 _ I7 q7) (fun kv s8 ⟨k,H8,I8,r8,q8⟩=>?_) fun _ _ z=>z;refine wpAny_mono (hbv _ s8 σ6 H8 _ I8 q8) (fun vv s9 ⟨v,H9,I9,r9,H10,put,q9⟩=>?_) fun _ _ z=>z;exact sM (X:=ah X scope cl NY fp s2 H2 G2.objs.size) (A:=X.A) hu I9 put r8 r9 fun s10 I10=>again I10 q9
  exact codeAny_compStart_dict (loop _ rfl) (T.self _ 0 _ _ _ stW (loop _ rfl))
end
open PySem PySem.Spec PyProof.Rows
section
variable {X:Cx} {o e:Expr} {es:List Expr} {to:TE} {t:TA} {name:Str} {apos cpos:Pos} {T id:String} {r:V→List V→Hp→VK→Prop} {K:aab}
end
open PySem PySem.Spec PyProof.Rows
structure Trn (J:It) (n:Nat) (Kp:Hp→Prop) (item:Nat→V→Hp→Hp→Prop):Prop where
  go:∀ i H,i < n→Kp H→J.go i H
  stop:∀ H,Kp H→J.stop n H
  yld:∀ i H x H',i < n→Kp H→J.yld i H x H'→item i x H H'
theorem Trn.list {K:aab} {a:Addr} {xs:List V}:Trn (Itl K a) xs.length (fun H=>SqL K H a xs) (fun i x H H'=>H'=H∧xs[i]?=some x) :=
  ⟨fun i H hi q=>⟨xs,xs[i],q,by simp [hi]⟩,fun H q=>⟨xs,q,aah _⟩,fun i H x H' hi q y=>⟨y.1,y.2 xs q⟩⟩
theorem Trn.tup {K:aab} {a:Addr} {xs:List V}:Trn (Itt K a) xs.length (fun H=>SqT K H a xs) (fun i x H H'=>H'=H∧xs[i]?=some x) :=
  ⟨fun i H hi q=>⟨xs,xs[i],q,by simp [hi]⟩,fun H q=>⟨xs,q,aah _⟩,fun i H x H' hi q y=>⟨y.1,y.2 xs q⟩⟩
theorem Trn.range {lo:Int} {n:Nat}:Trn (Itr lo n) n (fun _=>True) (fun i x H H'=>H'=H∧x=.int (lo+i)) :=
  ⟨fun i H hi _=>hi,fun H _=>aah _,fun i H x H' hi _ y=>y⟩
theorem kB {J:It} {n:Nat} {Kp:Hp→Prop} {item:Nat→V→Hp→Hp→Prop} (T:Trn J n Kp item) {cap:List (Option Nat)} {g:TG} {tt:TT} {te:TE} {σ:St} {H:Hp} {Q:VK} (Pv:Nat→List V→Hp→Prop) (h0:Pv 0 [] H) (hk:∀ i ys H,i≤n→Pv i ys H→Kp H∧ys.length < sizeLine)
    (hs:∀ i x ys H H',i < n→item i x H H'→Pv i ys H→∀ Nx:List V→Hp→Prop,(∀ ys' H2,Pv (i+1) ys' H2→Nx ys' H2)→g x (aI cap σ) H' fun σ2 H2=>tt σ2 H2 fun b H3=>if b=true then te σ2 H3 fun v H4=>Nx (ys++[v]) H4 else Nx ys H3)
    (hd:∀ ys H,Pv n ys H→∀ p,H p=none→Q (.ref p) (upd H p (.lst ys))):qW cap g tt te σ Q J H:=by
  refine ⟨fun i m ys H=>m=n - i∧i≤n∧Pv i ys H,⟨n,by simp,aaQ _,h0⟩,?_⟩;rintro i m ys H ⟨rfl,hi,p⟩;by_cases hlt:i < n
  · refine .inr ⟨T.go i H hlt (hk i ys H hi p).1,(hk i ys H hi p).2,fun x H' y=>?_⟩;exact hs i x ys H H' hlt (T.yld i H x H' hlt (hk i ys H hi p).1 y) p (fun ys' H4=>∃ m',m' < n - i∧m'=n - (i+1)∧i+1≤n∧Pv (i+1) ys' H4) fun ys' H2 h=>⟨_,by lia,rfl,hlt,h⟩
  · have e:i=n:=by lia
    subst e;exact .inl ⟨T.stop H (hk _ ys H hi p).1,hd ys H p⟩
theorem sD {J:It} {n:Nat} {Kp:Hp→Prop} {item:Nat→V→Hp→Hp→Prop} (T:Trn J n Kp item) {cap:List (Option Nat)} {g:TG} {tt:TT} {wi2:TI} {g2:TG} {tt2:TT} {te:TE} {σ:St} {H:Hp} {Q:VK} (Pv:Nat→List V→Hp→Prop) (h0:Pv 0 [] H) (hk:∀ i ys H,i≤n→Pv i ys H→Kp H)
    (hs:∀ i x ys H H',i < n→item i x H H'→Pv i ys H→∀ Nx:List V→Hp→Prop,(∀ ys' H2,Pv (i+1) ys' H2→Nx ys' H2)→g x (aI cap σ) H' fun σ2 H2=>tt σ2 H2 fun b H3=>if b=true then wi2 σ2 H3 (rA g2 tt2 te ys σ2 Nx) else Nx ys H3)
    (hd:∀ ys H,Pv n ys H→∀ p,H p=none→Q (.ref p) (upd H p (.lst ys))):rD cap g tt wi2 g2 tt2 te σ Q J H:=by
  refine ⟨fun i m ys H=>m=n - i∧i≤n∧Pv i ys H,⟨n,by simp,aaQ _,h0⟩,?_⟩;rintro i m ys H ⟨rfl,hi,p⟩;by_cases hlt:i < n
  · refine .inr ⟨T.go i H hlt (hk i ys H hi p),fun x H' y=>?_⟩;exact hs i x ys H H' hlt (T.yld i H x H' hlt (hk i ys H hi p) y) p (fun ys' H4=>∃ m',m' < n - i∧m'=n - (i+1)∧i+1≤n∧Pv (i+1) ys' H4) fun ys' H2 h=>⟨_,by lia,rfl,hlt,h⟩
  · have e:i=n:=by lia
    subst e;exact .inl ⟨T.stop H (hk _ ys H hi p),hd ys H p⟩
theorem sy {J:It} {n:Nat} {Kp:Hp→Prop} {item:Nat→V→Hp→Hp→Prop} (T:Trn J n Kp item) {g2:TG} {tt2:TT} {te:TE} {ys:List V} {σ:St} {H:Hp} {Fin:List V→Hp→Prop} (Pv:Nat→List V→St→Hp→Prop) (h0:Pv 0 ys σ H) (hk:∀ i ys σ H,i≤n→Pv i ys σ H→Kp H∧ys.length < sizeLine)
    (hs:∀ i x ys σ H H',i < n→item i x H H'→Pv i ys σ H→∀ Nx:List V→St→Hp→Prop,(∀ ys' σ' H2,Pv (i+1) ys' σ' H2→Nx ys' σ' H2)→g2 x σ H' fun σ3 H5=>tt2 σ3 H5 fun b H6=>if b=true then te σ3 H6 fun v H7=>Nx (ys++[v]) σ3 H7 else Nx ys σ3 H6)
    (hd:∀ ys σ H,Pv n ys σ H→Fin ys H):rA g2 tt2 te ys σ Fin J H:=by
  refine ⟨fun i m ys σ H=>m=n - i∧i≤n∧Pv i ys σ H,⟨n,by simp,aaQ _,h0⟩,?_⟩;rintro i m ys σ H ⟨rfl,hi,p⟩;by_cases hlt:i < n
  · refine .inr ⟨T.go i H hlt (hk i ys σ H hi p).1,(hk i ys σ H hi p).2,fun x H' y=>?_⟩;exact hs i x ys σ H H' hlt (T.yld i H x H' hlt (hk i ys σ H hi p).1 y) p (fun ys' σ' H4=>∃ m',m' < n - i∧m'=n - (i+1)∧i+1≤n∧Pv (i+1) ys' σ' H4) fun ys' σ' H2 h=>⟨_,by lia,rfl,hlt,h⟩
  · have e:i=n:=by lia
    subst e;exact .inl ⟨T.stop H (hk _ ys σ H hi p).1,hd ys σ H p⟩
theorem t6 {J:It} {n:Nat} {Kp:Hp→Prop} {item:Nat→V→Hp→Hp→Prop} (T:Trn J n Kp item) {cap:List (Option Nat)} {g:TG} {tt:TT} {tk tv:TE} {ob:HO} {σ:St} {H:Hp} {Q:VK} (Pv:Addr→Nat→Hp→Prop) (h0:∀ p,H p=none→Pv p 0 (upd H p ob)) (hk:∀ p i H,i≤n→Pv p i H→Kp H)
    (hs:∀ p i x H1 H',H p=none→i < n→item i x H1 H'→Pv p i H1→∀ Nx:Hp→Prop,(∀ H2,Pv p (i+1) H2→Nx H2)→g x (aI cap σ) H' fun σ2 H2=>tt σ2 H2 fun b H3=>if b=true then tk σ2 H3 fun k H4=>tv σ2 H4 fun v H5=>∃ H6,DPut H5 p k v H6∧Nx H6 else Nx H3)
    (hd:∀ p H1,H p=none→Pv p n H1→Q (.ref p) H1):uc cap g tt tk tv ob σ Q J H:=by
  refine ⟨fun p i m H1=>m=n - i∧i≤n∧Pv p i H1,fun p hp=>⟨n,by simp,aaQ _,h0 p hp⟩,?_⟩;rintro p i m H1 hp ⟨rfl,hi,q⟩;by_cases hlt:i < n
  · refine .inr ⟨T.go i H1 hlt (hk p i H1 hi q),fun x H' y=>?_⟩;exact hs p i x H1 H' hp hlt (T.yld i H1 x H' hlt (hk p i H1 hi q) y) q (fun H4=>∃ m',m' < n - i∧m'=n - (i+1)∧i+1≤n∧Pv p (i+1) H4) fun H2 h=>⟨_,by lia,rfl,hlt,h⟩
  · have e:i=n:=by lia
    subst e;exact .inl ⟨T.stop H1 (hk p _ H1 hi q),hd p H1 hp q⟩
open PySem PySem.Spec PyProof.Rows
theorem EqR.pair {K:aab} {H:Hp} {n:Nat} {p q:Int × Int} {x y:V} (hx:PairIn H p x) (hy:PairIn H q y):EqR K H (n+1) x y (decide (p=q)):=by
  obtain ⟨a,rfl,ha⟩:=hx;obtain ⟨b,rfl,hb⟩:=hy;have:=EqR.tup (K:=K) (n:=n) (e:=fun j=>if j=0 then p.1 == q.1 else p.2 == q.2) (SqT.of ha) (SqT.of hb) fun j x y hx hy=>by
    match j,hx,hy with
    | 0,hx,hy=>simp at hx hy;subst hx hy;exact EqR.flat (K:=K) (H:=H) (n:=n) (x:=.int p.1) (y:=.int q.1) rfl rfl
    | 1,hx,hy=>simp at hx hy;subst hx hy;exact EqR.flat (K:=K) (H:=H) (n:=n) (x:=.int p.2) (y:=.int q.2) rfl rfl
    | j+2,hx,hy=>simp at hx
  have e:((abd (min [V.int p.1,V.int p.2].length [V.int q.1,V.int q.2].length)).all (fun j=>if j=0 then p.1 == q.1 else p.2 == q.2) && [V.int p.1,V.int p.2].length == [V.int q.1,V.int q.2].length)=decide (p=q):=by
    obtain ⟨a1,a2⟩:=p;obtain ⟨b1,b2⟩:=q;have : abd (min [V.int a1,V.int a2].length [V.int b1,V.int b2].length)=[0,1]:=rfl;rw [this,abJ];simp
  rw [e] at this;exact this
theorem iQ {X:Cx} {pins:List (Addr × Obj)} {σ:St} {H:Hp} {s:Shared} (I:Inv X pins σ H s) {p:Int × Int}:∀ {ps:List (Int × Int)} {us:List V} {its:List Value},PairsIn H ps us→Vals us its →
    ∃ f:Value→Bool,(∀ y∈its,∃ q v,PairIn H q v∧RelV v y∧f y=decide (q=p))∧its.any f=decide (p∈ps):=by
  classical
  intro ps us its h r;refine ⟨fun y=>decide (∃ a,y=Value.ref a∧H a=some (.tup [.int p.1,.int p.2])),?_,?_⟩
  · induction h generalizing its with
    | nil=>cases r;intro y hy;cases hy
    | @cons q v ps us hq _ ih =>
      cases r with
      | cons rv rt =>
        intro y hy;rcases aaj.mp hy with rfl|hy
        · refine ⟨q,v,hq,rv,?_⟩;obtain ⟨a,rfl,ha⟩:=hq;cases rv;by_cases c:q=p
          · subst c;rw [decide_eq_true rfl];exact decide_eq_true ⟨a,rfl,ha⟩
          · rw [decide_eq_false c];refine decide_eq_false ?_;rintro ⟨b,e,hb⟩;cases e;rw [ha] at hb;apply c;obtain ⟨q1,q2⟩:=q;obtain ⟨p1,p2⟩:=p;simp at hb;rw [hb.1,hb.2]
        · exact ih rt y hy
  · induction h generalizing its with
    | nil=>cases r;simp
    | @cons q v ps us hq _ ih =>
      cases r with
      | cons rv rt =>
        rw [abY,ih rt];obtain ⟨a,rfl,ha⟩:=hq;cases rv;by_cases c:q=p
        · subst c;have e0:decide (∃ b,Value.ref a=Value.ref b∧H b=some (.tup [.int q.1,.int q.2]))=true:=decide_eq_true ⟨a,rfl,ha⟩;show (decide (∃ b,Value.ref a=Value.ref b∧H b=some (.tup [.int q.1,.int q.2])) || _)=_;rw [e0];simp
        · refine (fun (e0:decide (∃ b,Value.ref a=Value.ref b∧H b=some (HO.tup [.int p.1,.int p.2]))=false)=>?_) ?_
          · show (decide (∃ b,Value.ref a=Value.ref b∧H b=some (.tup [.int p.1,.int p.2])) || _)=_;rw [e0,Bool.false_or,abJ,decide_eq_true_eq,decide_eq_true_eq,aaj];exact ⟨.inr,fun h=>h.elim (fun e=>absurd e.symm c) id⟩
          · refine decide_eq_false ?_;rintro ⟨b,e,hb⟩;cases e;rw [ha] at hb;apply c;obtain ⟨q1,q2⟩:=q;obtain ⟨p1,p2⟩:=p;simp at hb;rw [hb.1,hb.2]
def uE (K:aab) (neg:Bool):R2:=fun x y H Q=>∃ (p:Int × Int) (l:Addr) (us:List V) (ps:List (Int × Int)),PairIn H p x∧y=.ref l∧SqL K H l us∧PairsIn H ps us∧Q (.bl (if neg then !decide (p∈ps) else decide (p∈ps))) H
theorem nz {X:Cx} {K:aab} (hK:X.K=K) (hu:X.A.units+64 < cLine):OpR X (compareOp .NotIn) (uE K true):=by
  subst hK;intro pins s σ H x y v u Q I rx ry h;obtain ⟨p,l,us,ps,hp,rfl,hq,hps,q⟩:=h;cases ry;obtain ⟨its,r,pl,hz⟩:=I.list hq;obtain ⟨f,hf,ha⟩:=iQ (p:=p) I hps r;refine SeqAt.notIn_listAt f pl.isList (fun w hw=>?_) ⟨.bl _,H,I,rfl,?_⟩
  · obtain ⟨q',v',h1,h2,h3⟩:=hf w (by simpa using hw);rw [h3];exact (EqR.pair (K:=X.K) (n:=0) h1 hp).at I h2 rx (by show X.A.units+1+(0+1) < cLine;lia)
  · rw [show its.toArray.any f=its.any f by simp,ha];exact q
open PySem PySem.Spec PyProof.Rows
section
variable {X:Cx}
end
open PySem PySem.Spec PyProof.Rows
section
variable {X:Cx} {a b c d e:Expr} {ta tb tc td te:TE} {pos:Pos}
end
end L2
namespace L2
open PySem PySem.Spec PyProof.Rows PySem.W
def cdO (c:Addr) (qual:Str):HO:=.ext fun h=>h.CodeRec (.ref c) qual
structure LTab (P:Addr) (qual:Str) (H:Hp) (ps:Array Value):Prop where
  tab:H P=some (.tbl ps)
  tri:TriplesOk ps.toList
  cds:∀ pos cv,codeAmong pos ps.toList=some cv→∃ c',cv=.ref c'∧H c'=some (cdO c' qual)
theorem iw {pos:Pos} {a b:Int} {c cv:Value} (l:List Value) (h:TriplesOk l) (hn:codeAmong pos (l++[rawInt a,rawInt b,c])=some cv):codeAmong pos l=some cv∨cv=c:=by
  fun_induction TriplesOk l with
  | case1 =>
    simp only [List.nil_append,codeAmong,rawInt] at hn;split at hn
    · exact .inr (aaM hn).symm
    · cases hn
  | case2 a' t b' u x cM ih =>
    simp only [abx,codeAmong] at hn ⊢;split at hn
    · rename_i hc;rw [if_pos hc];exact .inl hn
    · rename_i hc;rw [if_neg hc];exact ih h hn
  | case3 l h1 h2=>exact h.elim
theorem sP {P:Program} {w:World} {H:Hp} {h:Heap} {c:Addr} {qual:Str} (r:h.CodeRec (.ref c) qual):ObjOk P w H h c (cdO c qual):=by
  refine ⟨r,?_,fun h1 h2 p k=>?_⟩
  · obtain ⟨c',o,vs,t,e,ho,_⟩:=r;cases e;exact ⟨o,ho⟩
  · obtain ⟨c',o,vs,t,e,ho,r⟩:=p;cases e;exact ⟨c,o,vs,t,rfl,k o ho,r⟩
section
variable {X:Cx} {pins:List (Addr × Obj)} {σ:St} {H:Hp} {s:Shared}
theorem Inv.tbl (I:Inv X pins σ H s) {P:Addr} {ps:Array Value} (h:H P=some (.tbl ps)):s.heap.get? P=some (tabObj ps):=I.hok P _ h
abbrev dC (X:Cx) (params:Arguments) (body:Expr) (scope:Scope) (c':Addr) (ctv:Value):Obj :=
  kla_obj "<lambda>" (X.env.qual ++ "<lambda>") params body scope [] ((X.mg "__name__").getD .none) c' ctv
theorem o9 (I:Inv X pins σ H s) {params:Arguments} {body:Expr} {scope:Scope} {pos:Pos} {c P:Addr} {ps:Array Value} (hdef:defaultsOf params X.env=([],[])) (hcl:closureFor scope X.env=pure [])
    (hcode:X.env.code=.ref c) (C:CodeHd X.base c P) (hB:X.base.BuiltinsAt X.mg P) (T:LTab P (X.env.qual ++ "<lambda>") H ps) {Q:Value→Shared→Prop}
    (h:∀ f c' ctv H' s',Inv X (pins++[(f,dC X params body scope c' ctv)]) σ H' s'→(∃ ps',LTab P (X.env.qual ++ "<lambda>") H' ps')→H' c'=some (cdO c' (X.env.qual ++ "<lambda>"))→But P H H'→Q (.ref f) s') :
    wpAny (model X.prog X.w) X.A (eval (.Lambda params body scope pos) X.env) Q X.xe s:=by
  refine kla_eval hdef ?_;have hP:=I.tbl T.tab;have hns:s.heap.Ns mainGlobals X.mg:=I.mod.glob.keeps I.bk;have C':CodeHd s.heap c P:=C.keeps I.bk;have pinned:∀ {H':Hp} {h':Heap} {tk:Tok} {c':Addr} {ctv:Value},Inv X pins σ H' { s with heap:=h'.push (dC X params body scope c' ctv),toks:=tk }→s.heap.objs.size≤h'.objs.size→HOk X.prog X.w H' h' →
      Inv X (pins++[(h'.objs.size,dC X params body scope c' ctv)]) σ H' { s with heap:=h'.push (dC X params body scope c' ctv),toks:=tk }:=fun {H' h' tk c' ctv} J hs hk=>by
    refine J.pins_of fun p hp=>?_;rcases aap.mp hp with hp|hp
    · exact J.pin p (aaa _ hp)
    · rw [aak.mp hp];refine ⟨aar _ rfl,hk.fresh (aah _),aaN (aam I.lt hs),I.nofs hs,fun v z=>by cases z⟩
  cases hA:codeAmong pos ps.toList with
  | none =>
    have hgP:mainGlobals≠P:=fun e=>by
      obtain ⟨o,es,ep,e0,d0,_⟩:=hns;rw [e,hP] at e0;cases e0;cases d0
    refine kla_makeFunction hcl I.ok.glob hns hcode C' hP T.tri hA hgP (hB.keeps I.bk) fun c' ctv h' tk hx hge hlt hrec hP'=>?_;have hsz:s.heap.objs.size≤h'.objs.size:=aaJ hge (Nat.le_of_lt hlt);have nc:H c'=none:=I.hok.fresh hge;have ncP:c'≠P:=fun e=>by rw [e,T.tab] at nc;cases nc
    have keepB:∀ b o,b≠P→s.heap.get? b=some o→h'.get? b=some o:=fun b o hb e=>hx b o hb e;have eP:upd (upd H P (.tbl (ps++#[rawInt pos.line,rawInt pos.col,.ref c']))) c' (cdO c' (X.env.qual ++ "<lambda>")) P=some (.tbl (ps++#[rawInt pos.line,rawInt pos.col,.ref c'])):=by
      rw [aj ncP.symm,ac]
    have eO:∀ b,b≠P→b≠c'→upd (upd H P (.tbl (ps++#[rawInt pos.line,rawInt pos.col,.ref c']))) c' (cdO c' (X.env.qual ++ "<lambda>")) b=H b:=fun b h1 h2=>by
      rw [aj h2,aj h1]
    have eS:∀ b o,b≠P→H b=some o→upd (upd H P (.tbl (ps++#[rawInt pos.line,rawInt pos.col,.ref c']))) c' (cdO c' (X.env.qual ++ "<lambda>")) b=some o:=fun b o h1 h2=>by
      rw [eO b h1 (ak h2 nc)];exact h2
    have eC:upd (upd H P (.tbl (ps++#[rawInt pos.line,rawInt pos.col,.ref c']))) c' (cdO c' (X.env.qual ++ "<lambda>")) c'=some (cdO c' (X.env.qual ++ "<lambda>")):=ac;generalize upd (upd H P (.tbl (ps++#[rawInt pos.line,rawInt pos.col,.ref c']))) c' (cdO c' (X.env.qual ++ "<lambda>"))=H2 at eP eO eS eC;have ok:HOk X.prog X.w H2 h':=fun b o e=>by
      by_cases hb:b=P
      · subst hb;rw [eP] at e;cases e;exact hP'
      by_cases hb2:b=c'
      · subst hb2;rw [eC] at e;cases e;exact sP hrec
      rw [eO b hb hb2] at e;refine (I.hok b o e).stay (fun d v hd q=>keepB d v ?_ q) (fun d q=>eS d _ (fun z=>by rw [z,T.tab] at q;cases q) q) fun d xs q=>eS d _ (fun z=>by rw [z,T.tab] at q;cases q) q;rintro rfl;rcases hd with z|z
      · exact hb z.symm
      · rw [T.tab] at z;cases z
    have J:Inv X pins σ H2 { s with heap:=h'.push (dC X params body scope c' ctv),toks:=tk }:=by
      refine I.un (h':=h'.push (dC X params body scope c' ctv)) ⟨fun b o q n _ _=>?_,fun b o q n _ _=>?_,fun b o q n _=>?_,fun b o q _=>?_,fun b xs q=>?_,fun b o xs q=>?_,fun b qs q=>?_⟩ (ok.kept fun b u e=>aac _ e)
      · exact aac _ (keepB b o (fun z=>by rw [z,T.tab] at n;cases n) q)
      · exact ⟨o.slots,aac _ (keepB b o (fun z=>by rw [z,T.tab] at n;cases n) q)⟩
      · rw [eO b (fun z=>by rw [z,T.tab] at n;cases n) (aaq (aam (aaf q) hge))];exact n
      · by_cases hb:b=P
        · subst hb;exact ⟨_,aac _ hP'⟩
        · exact ⟨o,aac _ (keepB b o hb q)⟩
      · exact eS b _ (fun z=>by rw [z,T.tab] at q;cases q) q
      · exact eS b _ (fun z=>by rw [z,T.tab] at q;cases q) q
      · by_cases hb:b=P
        · subst hb;rw [T.tab] at q;cases q;exact ⟨_,eP⟩
        · exact ⟨#[],by rw [eS b _ hb q];simp⟩
    refine h _ c' ctv H2 _ (pinned J hsz ok) ⟨_,eP,?_,fun pos' cv hc=>?_⟩ eC (fun b o hb e=>eS b o hb e)
    · rw [Array.toList_append];exact TriplesOk_snoc _ _ _ _ T.tri
    · rw [Array.toList_append] at hc;rcases iw _ T.tri hc with z|z
      · obtain ⟨d,e1,e2⟩:=T.cds pos' cv z;exact ⟨d,e1,eS d _ (fun y=>by rw [y,T.tab] at e2;cases e2) e2⟩
      · exact ⟨c',z,eC⟩
  | some cv =>
    obtain ⟨c',rfl,ec⟩:=T.cds pos cv hA;refine kla_makeFunctionHit hcl I.ok.glob hns hcode C' hP T.tri hA (hB.keeps I.bk) fun ctv h' tk hk hsz=>?_;have J:Inv X pins σ H { s with heap:=h'.push (dC X params body scope c' ctv),toks:=tk }:=I.kept fun b u e=>aac _ (hk b u e);exact h _ c' ctv H _ (pinned J hsz (I.hok.kept hk)) ⟨ps,T⟩ ec (fun b o _ e=>e)
end
section
variable {CX:CXT} {P:Program} {w:World} {K:aab} {mg:Str→Option Value} {base:Heap} {k:Nat}
theorem o_ {A:Around} {outer:List Env} {s:Shared} {H:Hp} {f c':Addr} {ctv pm:Value} {name qual:Str} {params:Arguments} {body:Expr} {scope:Scope} {N ps:List Str} {args:Args} {us:List Value} {vs:List V} {Q:VK} {E:XK}
    (ho:s.heap.get? f=some (kla_obj name qual params body scope [] pm c' ctv)) (hcd:s.heap.CodeRec (.ref c') qual) (S:FnScope N ps scope) (hr:Room (k+1) A) (e0:Env0 P w K mg base A outer s H)
    (hb:bindArgs (kla_fn name qual params body scope [] pm (.ref c') ctv) args=pure (ps.zip us)) (r:Vals vs us) (hl:vs.length=ps.length)
    (hbody:∃ t,PE (eJ CX P w K mg base N qual scope f (.ref c') A outer s H E) body t∧t (start N vs) H Q):codeAny (model P w) A (.call (.ref f) args) (CR CX outer P w H s Q E) s:=by
  have lim:s.heap.NoLimit:=e0.mod.nolimit.keeps fun b o e=>(e0.bs b o e).1;have hkind:∀ y∈ps.zip us,scope.names.lookup y.1=some .local∨(scope.names.lookup y.1=some .cell∧((cellsFrom (s.heap.objs.size+1) scope.names []).lookup y.1).isSome=true):=fun ⟨n,v⟩ hy=>by
    rcases S.par n (List.of_mem_zip hy).1 with q|q
    · exact .inl q
    · exact .inr ⟨q,ab6 _ _ _ (.inl q)⟩
  refine kla_callFunE hr.depth ho rfl S.co S.gen rfl hcd ?_;refine wpAny_of_eq hb ?_;refine wpAny_newFunctionEnv_cells S.kind hkind fun env he s1 x=>?_;subst he;refine ⟨lim.keeps x.toInCall.keep,kla_codeExpr ?_⟩;obtain ⟨t,ht,hq⟩:=hbody;have I:Inv (eJ CX P w K mg base N qual scope f (.ref c') A outer s H E) [] (start N vs) H s1:=iT S hr.hd e0 hl r x;refine wpAny_mono (ht [] s1 (start N vs) H _ I hq) (fun u s' hs=>?_) fun e s' hs=>hs;obtain ⟨v,H',J,rv,q⟩:=hs;exact ⟨v,H',J.os,J.bare,J.base,J.hok,rv,q⟩
end
def au (kf:Nat→List Int):Nat→Nat
  | 0=>0
  | j+1=>if HT.lexLt (kf (j+1)) (kf (au kf j))=true then j+1 else au kf j
theorem hW (kf:Nat→List Int):∀ j,au kf j≤j
  | 0=>aah _
  | j+1=>by
    unfold au;split
    · exact aah _
    · exact Nat.le_succ_of_le (hW kf j)
section
variable {X:Cx} {pins pl:List (Addr × Obj)} {σ:St} {H:Hp} {s:Shared}
theorem Inv.turn1 {a:Addr} {o o':Obj} {h':Heap} {tk:Nat} (I:Inv X (pins++(a,o) :: pl) σ H s) (k:∀ b ob,b≠a→s.heap.get? b=some ob→h'.get? b=some ob) (e:h'.get? a=some o') (d:∀ v,o'.data≠.cell v)
    (h0:X.s₀.heap.objs.size≤a) (hp:∀ p∈X.pn++pins,p.1≠a) (hpl:∀ p∈pl,p.1≠a):Inv X (pins++(a,o') :: pl) σ H { s with heap:=h',toks:=tk }:=by
  obtain ⟨pe,pn,pL,pf,pd⟩:=I.pin (a,o) (aaa _ (aaa _ aav));have J:Inv X (pins++pl) σ H s:=I.pins_of fun p hp=>I.pin p (aaa _ (by
    rcases aap.mp hp with z|z
    · exact aaz _ z
    · exact aaa _ (aal _ z)))
  have hc:∀ x c,X.env.cells.lookup x=some c→c≠a:=fun x c z y=>by
    obtain ⟨v,oc,ho,hd⟩:=I.cell x c z;rw [y,pe] at ho;cases ho;exact pd v hd
  have h3:∀ p∈X.pn++(pins++pl),p.1≠a:=fun p z=>by
    rcases aap.mp z with z|z
    · exact hp p (aaz _ z)
    · rcases aap.mp z with z|z
      · exact hp p (aaa _ z)
      · exact hpl p z
  have T:Inv X (pins++pl) σ H { s with heap:=h',toks:=tk }:=J.turned k pn pL (.inr h0) hc h3;refine T.pins_of fun p z=>?_;rcases aap.mp z with z|z
  · exact T.pin p (aaa _ (aaz _ z))
  · rcases aaj.mp z with rfl|z
    · exact ⟨e,pn,pL,pf,d⟩
    · exact T.pin p (aaa _ (aaa _ z))
theorem Inv.turn0 {a:Addr} {o:Obj} {h':Heap} {tk:Nat} (I:Inv X (pins++(a,o) :: pl) σ H s) (k:∀ b ob,b≠a→s.heap.get? b=some ob→h'.get? b=some ob)
    (h0:X.s₀.heap.objs.size≤a) (hp:∀ p∈X.pn++pins,p.1≠a) (hpl:∀ p∈pl,p.1≠a):Inv X (pins++pl) σ H { s with heap:=h',toks:=tk }:=by
  obtain ⟨pe,pn,pL,pf,pd⟩:=I.pin (a,o) (aaa _ (aaa _ aav));have J:Inv X (pins++pl) σ H s:=I.pins_of fun p hp=>I.pin p (aaa _ (by
    rcases aap.mp hp with z|z
    · exact aaz _ z
    · exact aaa _ (aal _ z)))
  have hc:∀ x c,X.env.cells.lookup x=some c→c≠a:=fun x c z y=>by
    obtain ⟨v,oc,ho,hd⟩:=I.cell x c z;rw [y,pe] at ho;cases ho;exact pd v hd
  have h3:∀ p∈X.pn++(pins++pl),p.1≠a:=fun p z=>by
    rcases aap.mp z with z|z
    · exact hp p (aaz _ z)
    · rcases aap.mp z with z|z
      · exact hp p (aaa _ z)
      · exact hpl p z
  exact J.turned k pn pL (.inr h0) hc h3
theorem Inv.swap {a b:Addr × Obj} (I:Inv X (pins++[a,b]) σ H s):Inv X (pins++[b,a]) σ H s:=I.pins_of fun p z=>I.pin p (aaa _ (by
  rcases aap.mp z with z|z
  · exact aaz _ z
  · exact aaa _ (by simp at z ⊢;exact z.symm)))
theorem Inv.at {a:Addr} {o:Obj} (I:Inv X (pins++pl) σ H s) (h:(a,o)∈pl):s.heap.get? a=some o:=(I.pin (a,o) (aaa _ (aaa _ h))).1
theorem nK {l q Ia S:Addr} {xs:List V} {kf:Nat→List Int} {Kv:Nat→V→Hp→Prop} {G:Hp→Prop} {Q:VK} (hh:X.A.handled=none) (hlI:l≠Ia) (hSI:S≠Ia)
    (hI0:X.s₀.heap.objs.size≤Ia) (hS0:X.s₀.heap.objs.size≤S) (hpI:∀ p∈X.pn++pins,p.1≠Ia) (hpS:∀ p∈X.pn++pins,p.1≠S) (hl:∀ H,G H→SqL X.K H l xs) (mono:∀ i k H H',Kv i k H→Same H H'→Kv i k H')
    (turn:∀ i x u pl H s,xs[i]?=some x→RelV x u→G H→Inv X (pins++pl) σ H s→wpAny (model X.prog X.w) X.A.in1 (call (.ref q) [u]) (EP X (pins++pl) σ fun k H'=>Kv i k H'∧G H'∧Same H H') (fun _ _=>False) s)
    (cmp:∀ i j k k' u u' pl H s (Q:Value→Shared→Prop),Kv i k H→Kv j k' H→RelV k u→RelV k' u'→Inv X (pins++pl) σ H s→Q (.bool (HT.lexLt (kf i) (kf j))) s→wpAny (model X.prog X.w) X.A.in1 (richCompare .Lt u u') Q (fun _ _=>False) s)
    (hQ:∀ x H,xs[au kf (xs.length - 1)]?=some x→G H→Q x H) :
    ∀ (r j:Nat) (H:Hp) (s:Shared) (vb kb:Value) (xb kv:V) (c:Nat) (oI:Obj),xs.length - (j+1)=r→j+1≤xs.length→Inv X (pins++[(S,seqObj "list" #[vb,kb] c),(Ia,oI)]) σ H s→s.heap.IsListIter Ia l (j+1) →
      xs[au kf j]?=some xb→RelV xb vb→RelV kv kb→Kv (au kf j) kv H→G H →
      codeAny (model X.prog X.w) X.A (.builtin "min.loop" ⟨[.ref Ia,.ref q,.ref S],[]⟩) (fun r s'=>match r with|.ok (.ret v)=>EP X pins σ Q v s'|.ok _=>False|.error e=>X.xe e s') s:=by
  have hname:(toString "min" ++ toString ".loop":String) = "min.loop":=by decide
  have unpin:∀ {pl H s},Inv X (pins++pl) σ H s→Inv X pins σ H s:=fun I=>I.pins_of fun p z=>I.pin p (aaa _ (aaz _ z));intro r
  induction r with
  | zero =>
    intro j H s vb kb xb kv c oI hr hj I hit hxb rvb rkb hk g;have hin:j+1=xs.length:=by lia
    have nS:=I.at (pl:=[(S,seqObj "list" #[vb,kb] c),(Ia,oI)]) (.head _);obtain ⟨its,rl,pL,_⟩:=I.list (hl H g);have W:=aci (prog:=X.prog) (w:=X.w) (A:=X.A.in1) hh Ia l hlI its.toArray;have hsz:its.toArray.size=xs.length:=by rw [aag,rl.length]
    refine codeAny_builtin abf ?_;rw [abr aaA _];show wpAny _ X.A.in1 (seqItems? (.ref S) >>= _) _ _ _;refine wpAny_bind (wpAny_seqItems nS rfl ?_);show wpAny _ X.A.in1 (tryCatch (pyNext (.ref Ia)) _ >>= _) _ _ _;refine wpAny_bind (wpAny_tryCatch (W.done _ _ _ ⟨by rw [hsz,← hin];exact hit,pL.isList⟩ fun h' tk' hk'=>?_));have hk1:∀ b o,b≠Ia→s.heap.get? b=some o→h'.get? b=some o:=fun b o hb e=>hk' b o (by simpa using hb) e;have I1:Inv X (pins++[(S,seqObj "list" #[vb,kb] c)]) σ H { s with heap:=h',toks:=tk' }:=I.swap.turn0 hk1 hI0 hpI (fun p hp=>by rw [aak.mp hp];exact hSI);have hS':=I1.at (pl:=[(S,seqObj "list" #[vb,kb] c)]) (.head _);have s1:=abg h' S (aa0 fun _=>(#[]:Array Value));show wpAny _ X.A.in1 (updateSeq S (fun _=>#[]) >>= _) _ _ _;refine wpAny_bind ?_;refine wpAny_updateSeq hS' rfl (wpAny_bind (wpAny_letGo (wpAny_pure ?_)));have I2:=I1.turn0 (pl:=[]) (h':=h'.update S (aa0 fun _=>(#[]:Array Value))) (tk:=tk') (fun b ob hb e=>(s1.2 b hb).trans e) hS0 hpS (fun p hp=>by simp at hp);rw [abZ] at I2;refine ⟨xb,H,I2,rvb,hQ xb H ?_ g⟩;rw [show xs.length - 1=j by lia];exact hxb
  | succ r ih =>
    intro j H s vb kb xb kv c oI hr hj I hit hxb rvb rkb hk g;have hlt:j+1 < xs.length:=by lia
    have nS:=I.at (pl:=[(S,seqObj "list" #[vb,kb] c),(Ia,oI)]) (.head _);obtain ⟨its,rl,pL,_⟩:=I.list (hl H g);have W:=aci (prog:=X.prog) (w:=X.w) (A:=X.A.in1) hh Ia l hlI its.toArray;have hsz:its.toArray.size=xs.length:=by rw [aag,rl.length]
    refine codeAny_builtin abf ?_;rw [abr aaA _];show wpAny _ X.A.in1 (seqItems? (.ref S) >>= _) _ _ _;refine wpAny_bind (wpAny_seqItems nS rfl ?_);show wpAny _ X.A.in1 (tryCatch (pyNext (.ref Ia)) _ >>= _) _ _ _;refine wpAny_bind (wpAny_tryCatch (W.item (j+1) _ _ _ (by rw [hsz];exact hlt) ⟨hit,pL.isList⟩ fun v h' tk' hP hst' hk'=>?_));have hk1:∀ b o,b≠Ia→s.heap.get? b=some o→h'.get? b=some o:=fun b o hb e=>hk' b o (by simpa using hb) e;have hv:its[j+1]?=some v:=by simpa using hP
    obtain ⟨x,hx,rx⟩:∃ x,xs[j+1]?=some x∧RelV x v:=by
      have hxx:xs[j+1]?=some xs[j+1]:=aad hlt;obtain ⟨u,hu,ru⟩:=rl.get hxx;rw [hv] at hu;cases hu;exact ⟨_,hxx,ru⟩
    obtain ⟨oI',hoI',hoc,hod⟩:=id hst'.1;have I1:Inv X (pins++[(S,seqObj "list" #[vb,kb] c),(Ia,oI')]) σ H { s with heap:=h',toks:=tk' } :=
      (I.swap.turn1 hk1 hoI' (fun v z=>by rw [hod] at z;cases z) hI0 hpI (fun p hp=>by rw [aak.mp hp];exact hSI)).swap
    show wpAny _ X.A.in1 (tryCatch (holding [v] (call (.ref q) [v])) _ >>= _) _ _ _;refine wpAny_bind (wpAny_tryCatch (wpAny_holding (wpAny_mono (turn (j+1) x v _ H _ hx rx g I1) (fun kx s2 he=>?_) fun _ _ hF=>hF.elim)));obtain ⟨kx',H2,I2,rk2,hk2,g2,S2⟩:=he;have hkb:=mono _ _ _ _ hk S2;have nS2:=I2.at (pl:=[(S,seqObj "list" #[vb,kb] c),(Ia,oI')]) (.head _);have nI2:=I2.at (pl:=[(S,seqObj "list" #[vb,kb] c),(Ia,oI')]) (.tail _ (.head _));have hit2:s2.heap.IsListIter Ia l (j+1+1):=⟨oI',nI2,hoc,hod⟩
    show wpAny _ X.A.in1 (tryCatch (holding [v,kx] (richCompare .Lt kx kb >>= _)) _ >>= _) _ _ _;refine wpAny_bind (wpAny_tryCatch (wpAny_holding (wpAny_bind (wpAny_mono (cmp (j+1) (au kf j) kx' kv kx kb _ H2 s2 (fun z s'=>z=.bool (HT.lexLt (kf (j+1)) (kf (au kf j)))∧s'=s2) hk2 hkb rk2 rkb I2 ⟨rfl,rfl⟩) (fun z s3 hz=>?_) fun _ _ hF=>hF.elim))));obtain ⟨rfl,rfl⟩:=hz;refine wpAny_bind (wpAny_holding (wpAny_truthy_bool ?_));refine wpAny_bind (wpAny_letGo (wpAny_pure ?_));by_cases hb':HT.lexLt (kf (j+1)) (kf (au kf j))=true
    · have s1:=abg s3.heap S (aa0 fun _=>#[v,kx]);obtain ⟨c2,hc2⟩:∃ c2,(s3.heap.update S (aa0 fun _=>#[v,kx])).get? S=some (seqObj "list" #[v,kx] c2):=⟨_,get?_update_seq nS2 fun _=>#[v,kx]⟩
      simp only [hb',if_true];refine wpAny_bind ?_;refine wpAny_updateSeq nS2 rfl (wpAny_bind (wpAny_letGo ?_));rw [hname];have eb:au kf (j+1)=j+1:=by conv=>lhs;unfold au;rw [if_pos hb']
      have I3:Inv X (pins++[(S,seqObj "list" #[v,kx] c2),(Ia,oI')]) σ H2 { s3 with heap:=s3.heap.update S (aa0 fun _=>#[v,kx]),toks:=s3.toks } :=
        I2.turn1 (fun b ob hb e=>(s1.2 b hb).trans e) hc2 (fun v z=>by cases z) hS0 hpS (fun p hp=>by rw [aak.mp hp];exact hSI.symm)
      refine wpAny_pure ⟨plainId_quiet aaA _,ih (j+1) H2 _ v kx x kx' c2 oI' (by lia) hlt I3 ⟨oI',(s1.2 Ia hSI.symm).trans nI2,hoc,hod⟩ (by rw [eb];exact hx) rx rk2 (by rw [eb];exact hk2) g2⟩
    · simp only [hb',Bool.false_eq_true,if_false];refine wpAny_bind (wpAny_letGo ?_);rw [hname];have eb:au kf (j+1)=au kf j:=by conv=>lhs;unfold au;rw [if_neg hb']
      refine wpAny_pure ⟨plainId_quiet aaA _,ih (j+1) H2 _ vb kb xb kv c oI' (by lia) hlt I2 hit2 (by rw [eb];exact hxb) rvb rkb (by rw [eb];exact hkb) g2⟩
theorem uI {l q:Addr} {xs:List V} {kf:Nat→List Int} {Kv:Nat→V→Hp→Prop} {G:Hp→Prop} {Q:VK} (hh:X.A.handled=none) (I:Inv X pins σ H s) (hne:0 < xs.length) (g:G H)
    (hl:∀ H,G H→SqL X.K H l xs) (mono:∀ i k H H',Kv i k H→Same H H'→Kv i k H')
    (turn:∀ i x u pl H s,xs[i]?=some x→RelV x u→G H→Inv X (pins++pl) σ H s→wpAny (model X.prog X.w) X.A.in1 (call (.ref q) [u]) (EP X (pins++pl) σ fun k H'=>Kv i k H'∧G H'∧Same H H') (fun _ _=>False) s)
    (cmp:∀ i j k k' u u' pl H s (Q:Value→Shared→Prop),Kv i k H→Kv j k' H→RelV k u→RelV k' u'→Inv X (pins++pl) σ H s→Q (.bool (HT.lexLt (kf i) (kf j))) s→wpAny (model X.prog X.w) X.A.in1 (richCompare .Lt u u') Q (fun _ _=>False) s)
    (hQ:∀ x H,xs[au kf (xs.length - 1)]?=some x→G H→Q x H) :
    wpAny (model X.prog X.w) X.A (call (.builtin "min") [.ref l] [(abX "key",.ref q)]) (EP X pins σ Q) X.xe s:=by
  have hname:(toString "min" ++ toString ".loop":String) = "min.loop":=by decide
  obtain ⟨its,rl,pL,_⟩:=I.list (hl H g);have hls:=pL.isList;obtain ⟨ol,hol,_⟩:=id hls;have hll:l < s.heap.objs.size:=aaf hol;refine kmk_tree PySem.F.kind_min PySem.F.plain_min PySem.F.entry_min (kmk_min_key _ _) ?_;show wpAny _ X.A.in1 (abu "min" ["key","default"] 0 ⟨[],[(abX "key",.ref q)]⟩ >>= _) _ _ s;refine wpAny_bind (wpAny_of_eq (show abu "min" ["key","default"] 0 ⟨[],[(abX "key",.ref q)]⟩=pure [some (.ref q),none] from rfl) ?_);refine wpAny_bind (wpAny_pure ?_);refine wpAny_bind (wpAny_pyIter_list hls ?_);refine wpAny_bind (wpAny_newList ?_ (aaQ _));rw [hname];have hS:(s.heap.push { cls:=.type "list_iterator",data:=.fields #[.ref l,.int 0 0] }).objs.size=s.heap.objs.size+1:=size_push' ..;have hlI:l≠s.heap.objs.size:=aaq hll;have hSI:(s.heap.push { cls:=.type "list_iterator",data:=.fields #[.ref l,.int 0 0] }).objs.size≠s.heap.objs.size:=by rw [hS];exact aaN (abQ _)
  have gI:((s.heap.push { cls:=.type "list_iterator",data:=.fields #[.ref l,.int 0 0] }).push (seqObj "list" #[] 0)).get? s.heap.objs.size=some { cls:=.type "list_iterator",data:=.fields #[.ref l,.int 0 0] } :=
    aac _ (aar _ rfl)
  have gS:((s.heap.push { cls:=.type "list_iterator",data:=.fields #[.ref l,.int 0 0] }).push (seqObj "list" #[] 0)).get? (s.heap.push { cls:=.type "list_iterator",data:=.fields #[.ref l,.int 0 0] }).objs.size=some (seqObj "list" #[] 0):=aar _ rfl;have kk:∀ b u,s.heap.get? b=some u→((s.heap.push { cls:=.type "list_iterator",data:=.fields #[.ref l,.int 0 0] }).push (seqObj "list" #[] 0)).get? b=some u:=fun b u e=>aac _ (aac _ e);have hI0:X.s₀.heap.objs.size≤s.heap.objs.size:=I.sz;have hS0:X.s₀.heap.objs.size≤(s.heap.push { cls:=.type "list_iterator",data:=.fields #[.ref l,.int 0 0] }).objs.size:=by rw [hS];exact Nat.le_succ_of_le I.sz
  have hpI:∀ p∈X.pn++pins,p.1≠s.heap.objs.size:=fun p hp=>aaq (aaf (I.pin p hp).1);have hpS:∀ p∈X.pn++pins,p.1≠(s.heap.push { cls:=.type "list_iterator",data:=.fields #[.ref l,.int 0 0] }).objs.size:=fun p hp=>by rw [hS];exact aaq (abj (aaf (I.pin p hp).1))
  have I0:Inv X (pins++[((s.heap.push { cls:=.type "list_iterator",data:=.fields #[.ref l,.int 0 0] }).objs.size,seqObj "list" #[] 0),(s.heap.objs.size,{ cls:=.type "list_iterator",data:=.fields #[.ref l,.int 0 0] })]) σ H
      { s with heap:=(s.heap.push { cls:=.type "list_iterator",data:=.fields #[.ref l,.int 0 0] }).push (seqObj "list" #[] 0),toks:=s.toks }:=by
    refine (I.kept (t':=s.toks) kk).pins_of fun p hp=>?_;rcases aap.mp hp with hp|hp
    · exact (I.kept (t':=s.toks) kk).pin p (aaa _ hp)
    · rcases aaj.mp hp with rfl|hp
      · refine ⟨gS,I.hok.fresh (by rw [hS];exact abU _),?_,I.nofs (by rw [hS];exact abU _),fun v z=>by cases z⟩;rw [hS];exact aaN (abj I.lt)
      · rw [aak.mp hp];exact ⟨gI,I.hok.fresh (aah _),aaN I.lt,I.nofs (aah _),fun v z=>by cases z⟩
  refine wpAny_pure ⟨plainId_quiet aaA _,?_⟩;have W:=aci (prog:=X.prog) (w:=X.w) (A:=X.A.in1) hh s.heap.objs.size l hlI its.toArray;have hsz:its.toArray.size=xs.length:=by rw [aag,rl.length]
  refine codeAny_builtin abf ?_;rw [abr aaA _];show wpAny _ X.A.in1 (seqItems? (.ref _) >>= _) _ _ _;refine wpAny_bind (wpAny_seqItems gS rfl ?_);show wpAny _ X.A.in1 (tryCatch (pyNext (.ref s.heap.objs.size)) _ >>= _) _ _ _;refine wpAny_bind (wpAny_tryCatch (W.item 0 _ _ _ (by rw [hsz];exact hne) ⟨⟨_,gI,rfl,rfl⟩,hls.at fun o e=>kk _ o e⟩ fun v h' tk' hP hst' hk'=>?_));have hv:its[0]?=some v:=by simpa using hP
  obtain ⟨x,hx,rx⟩:∃ x,xs[0]?=some x∧RelV x v:=by
    have hxx:xs[0]?=some xs[0]:=aad hne;obtain ⟨u,hu,ru⟩:=rl.get hxx;rw [hv] at hu;cases hu;exact ⟨_,hxx,ru⟩
  obtain ⟨oI',hoI',hoc,hod⟩:=id hst'.1;have I1:=(I0.swap.turn1 (h':=h') (tk:=tk') (fun b ob hb e=>hk' b ob (by simpa using hb) e) hoI' (fun v z=>by rw [hod] at z;cases z) hI0 hpI (fun p hp=>by rw [aak.mp hp];exact hSI)).swap;show wpAny _ X.A.in1 (tryCatch (holding [v] (call (.ref q) [v])) _ >>= _) _ _ _;refine wpAny_bind (wpAny_tryCatch (wpAny_holding (wpAny_mono (turn 0 x v _ H _ hx rx g I1) (fun kx s2 he=>?_) fun _ _ hF=>hF.elim)));obtain ⟨kx',H2,I2,rk2,hk2,g2,S2⟩:=he;generalize (s.heap.push { cls:=.type "list_iterator",data:=.fields #[.ref l,.int 0 0] }).objs.size=S at hSI hS0 hpS I2 ⊢;generalize s.heap.objs.size=Ia at hlI hSI hI0 hpI I2 hst' ⊢;have nS2:=I2.at (pl:=[(S,seqObj "list" #[] 0),(Ia,oI')]) (.head _);have nI2:=I2.at (pl:=[(S,seqObj "list" #[] 0),(Ia,oI')]) (.tail _ (.head _));have s1:=abg s2.heap S (aa0 fun _=>#[v,kx]);obtain ⟨c2,hc2⟩:∃ c2,(s2.heap.update S (aa0 fun _=>#[v,kx])).get? S=some (seqObj "list" #[v,kx] c2):=⟨_,get?_update_seq nS2 fun _=>#[v,kx]⟩
  show wpAny _ X.A.in1 (updateSeq S (fun _=>#[v,kx]) >>= _) _ _ _;refine wpAny_bind ?_;refine wpAny_updateSeq nS2 rfl ?_;rw [hname];have I3:Inv X (pins++[(S,seqObj "list" #[v,kx] c2),(Ia,oI')]) σ H2 { s2 with heap:=s2.heap.update S (aa0 fun _=>#[v,kx]),toks:=s2.toks } :=
    I2.turn1 (fun b ob hb e=>(s1.2 b hb).trans e) hc2 (fun v z=>by cases z) hS0 hpS (fun p hp=>by rw [aak.mp hp];exact hSI.symm)
  refine wpAny_pure ⟨plainId_quiet aaA _,?_⟩;exact nK hh hlI hSI hI0 hS0 hpI hpS hl mono turn cmp hQ _ 0 H2 _ v kx x kx' c2 oI' rfl hne I3 ⟨oI',(s1.2 Ia hSI.symm).trans nI2,hoc,hod⟩ hx rx rk2 hk2 g2
end
theorem sB (a b:Int):HT.lexLt [a] [b]=decide (a < b):=by
  show (if a=b then HT.lexLt [] [] else decide (a < b))=_;by_cases h:a=b
  · rw [if_pos h,HT.lexLt_nil_nil,decide_eq_false (by lia)]
  · rw [if_neg h]
def KeyIn (kd:Bool) (ks:List Int) (k:V) (H:Hp):Prop:=if kd=true then ∃ a,k=.ref a∧H a=some (.tup (ks.map V.int)) else ∃ n,ks=[n]∧k=.int n
theorem KeyIn.mono {kd:Bool} {ks:List Int} {k:V} {H H':Hp} (h:KeyIn kd ks k H) (g:Same H H'):KeyIn kd ks k H':=by
  unfold KeyIn at h ⊢;split at h
  · obtain ⟨a,e,ha⟩:=h;rename_i c;rw [if_pos c];exact ⟨a,e,g _ _ ha⟩
  · rename_i c;rw [if_neg c];exact h
theorem PairsIn.tups {H H':Hp} (t:∀ b xs,H b=some (.tup xs)→H' b=some (.tup xs)):∀ {ps:List (Int × Int)} {vs:List V},PairsIn H ps vs→PairsIn H' ps vs
  | _,_,.nil=>.nil
  | _,_,.cons ⟨a,e,h⟩ r=>.cons ⟨a,e,t _ _ h⟩ (PairsIn.tups t r)
def bz (key:Int × Int→List Int) (ps:List (Int × Int)) (i:Nat):List Int:=match ps[i]? with|some p=>key p|none=>[]
def tf (P:Addr) (qual:Str) (key:Int × Int→List Int) (ta:TA):TE:=fun σ H Q=>ta σ H fun vs H1=>∃ l us ps,vs=[.ref l]∧H1 l=some (.lst us)∧PairsIn H1 ps us∧0 < us.length∧(∃ tp,LTab P qual H1 tp) ∧
  ∀ x H',us[au (bz key ps) (us.length - 1)]?=some x→But P H1 H'→(∃ tp,LTab P qual H' tp)→Q x H'
section
variable {X:Cx}
theorem iL {e:Expr} {ta:TA} {tb:TE} {params:Arguments} {body:Expr} {scope:Scope} {lpos kpos p pos:Pos} {c P:Addr} {y:Str} {kd:Bool} {key:Int × Int→List Int} (hr:Room 2 X.A) (hg:Gl X "min") (hm:X.mg "min" = none) (hv:bootBuiltins "min" = some (.builtin "min")) (pa:PA X [e] ta)
    (hdef:defaultsOf params X.env=([],[])) (hcl:closureFor scope X.env=pure []) (hcode:X.env.code=.ref c) (C:CodeHd X.base c P) (hB:X.base.BuiltinsAt X.mg P) (S:FnScope [y] [y] scope)
    (hbind:∀ pm c' ctv u,bindArgs (kla_fn "<lambda>" (X.env.qual ++ "<lambda>") params body scope [] pm (.ref c') ctv) ⟨[u],[]⟩=pure [(y,u)])
    (hbody:∀ f c' s H E,PE (eJ CX0 X.prog X.w X.K X.mg X.base [y] (X.env.qual ++ "<lambda>") scope f (.ref c') X.A.in1 X.stack s H E) body tb)
    (hkey:∀ p x H Q,PairIn H p x→(∀ k H',KeyIn kd (key p) k H'→Same H H'→Q k H')→tb [some x] H Q)
    (he:backTo pos (starEach [e] X.env)=(false,eval e X.env) :: backTo pos (starEach [] X.env):=by rfl)
    (hplain:(backTo pos (starEach [e] X.env)).any (·.1)=false:=by rfl) :
    PE X (.Call (.Name "min" p) [e] [⟨some "key",.Lambda params body scope lpos,kpos⟩] pos) (tf P (X.env.qual ++ "<lambda>") key ta):=by
  intro pins s σ H Q I h;refine wpAny_Call_Name_kw (fW I hg hm hv ?_);refine callWith_kw (thn (pa pos pins s σ H _ I h) fun us0 s1 hz=>?_) he hplain;obtain ⟨vs,H1,I1,r1,l,us,ps,rfl,el,hps,hne,⟨tp,T⟩,q⟩:=hz;obtain ⟨u1,rfl,ru⟩:∃ u,us0=[u]∧RelV (.ref l) u:=by
    cases r1 with
    | cons a b=>cases b;exact ⟨_,rfl,a⟩
  cases ru;refine kws_cons (o9 I1 hdef hcl hcode C hB T fun f c' ctv H2 s2 I2 T2 ec B2=>?_);refine kws_nil ?_;have nlP:l≠P:=fun z=>by rw [z,T.tab] at el;cases el
  have len:=hps.length;refine wpAny_mono (uI (xs:=us) (kf:=bz key ps) (Kv:=fun i k H=>∃ p,ps[i]?=some p∧KeyIn kd (key p) k H) (G:=fun H=>Same H2 H) (Q:=Q) hr.hd I2 hne (Same.refl _) (fun H g=>SqL.of (g _ _ (B2 _ _ nlP el))) (fun i k H H' h g=>by
      obtain ⟨p,e,h⟩:=h;exact ⟨p,e,h.mono g⟩) (fun i x u pl H3 s3 hx rx g I3=>?_) (fun i j k k' u u' pl H3 s3 Q' hk hk' rk rk' I3 hq=>?_) (fun x H3 hx g=>?_)) (fun v s3 hs=>?_) fun e s' hs=>hs
  · obtain ⟨p,hpi,hpx⟩:=cB (PairsIn.tups (fun b xs z=>g _ _ (B2 _ _ (fun y=>by rw [y,T.tab] at z;cases z) z)) hps) hx;have ho:s3.heap.get? f=some (dC X params body scope c' ctv):=(I3.pin (f,dC X params body scope c' ctv) (aaa _ (aaz _ (aaa _ (by simp))))).1;have hcd:s3.heap.CodeRec (.ref c') (X.env.qual ++ "<lambda>"):=(I3.hok c' _ (g _ _ ec)).1;refine wpAny_call (codeAny_mono (o_ (k:=0) (CX:=CX0) (E:=E0) (Q:=fun k H'=>(∃ p,ps[i]?=some p∧KeyIn kd (key p) k H')∧Same H2 H'∧Same H3 H') (vs:=[x]) ho hcd S hr.in1 I3.env0.in1 (us:=[u]) (hbind _ _ _ _) (.cons rx .nil) rfl ⟨tb,hbody _ _ _ _ _,?_⟩) fun r s' hq=>?_)
    · exact hkey p x H3 _ hpx fun k H' hk hs=>⟨⟨p,hpi,hk⟩,g.trans hs,hs⟩
    · cases r with
      | error e=>exact aa2 hq
      | ok fl =>
        cases fl with
        | ret u=>exact I3.after hq
        | next=>exact aa2 hq
        | brk=>exact aa2 hq
        | cont=>exact aa2 hq
  · obtain ⟨p,hp,hk⟩:=hk;obtain ⟨p',hp',hk'⟩:=hk';have e1:bz key ps i=key p:=by unfold bz;rw [hp]
    have e2:bz key ps j=key p':=by unfold bz;rw [hp']
    rw [e1,e2] at hq;cases kd with
    | true =>
      obtain ⟨a,rfl,ea⟩:∃ a,k=.ref a∧H3 a=some (.tup ((key p).map V.int)):=hk;obtain ⟨a',rfl,ea'⟩:∃ a,k'=.ref a∧H3 a=some (.tup ((key p').map V.int)):=hk';cases rk;cases rk';obtain ⟨its,r1,p1,_⟩:=I3.tuple (SqT.of ea);obtain ⟨its2,r2,p2,_⟩:=I3.tuple (SqT.of ea');exact HT.lt_tupInts p1 p2 (dF r1) (dF r2) hr.in1.units0 hq
    | false =>
      obtain ⟨n,en,rfl⟩:∃ n,key p=[n]∧k=.int n:=hk;obtain ⟨n',en',rfl⟩:∃ n,key p'=[n]∧k'=.int n:=hk';rw [en,en',sB] at hq;obtain ⟨t,rfl⟩:∃ t,u=.int n t:=rk;obtain ⟨t',rfl⟩:∃ t,u'=.int n' t:=rk';exact CmpOf.ints_lt (prog:=X.prog) (w:=X.w) (A:=X.A.in1) (P:=fun i v=>∃ t,v=.int (if i=0 then n else n') t) (fun i=>if i=0 then n else n') (fun i v h=>h) 0 1 _ _ _ _ _ ⟨t,rfl⟩ ⟨t',rfl⟩ hq
  · obtain ⟨tp2,T2⟩:=T2;refine q x H3 hx (fun b o hb e=>g _ _ (B2 b o hb e)) ⟨tp2,g _ _ T2.tab,T2.tri,fun pos' cv hc=>?_⟩;obtain ⟨d,e1,e2⟩:=T2.cds pos' cv hc;exact ⟨d,e1,g _ _ e2⟩
  · obtain ⟨x,H3,I3,rx,hq⟩:=hs;exact ⟨x,H3,I3.unpinned,rx,hq⟩
end
end L2
namespace L2
open PySem PySem.Spec PyProof.Rows PySem.W
section
variable {X:Cx} {pins pl:List (Addr × Obj)} {σ:St} {H:Hp} {s:Shared}
theorem nM {l Ia S:Addr} {xs:List V} {kf:Nat→List Int} {H:Hp} {Q:VK} (hh:X.A.handled=none) (hlI:l≠Ia) (hSI:S≠Ia)
    (hI0:X.s₀.heap.objs.size≤Ia) (hS0:X.s₀.heap.objs.size≤S) (hpI:∀ p∈X.pn++pins,p.1≠Ia) (hpS:∀ p∈X.pn++pins,p.1≠S) (hl:SqL X.K H l xs)
    (cmp:∀ i j k k' u u' pl s (Q:Value→Shared→Prop),xs[i]?=some k→xs[j]?=some k'→RelV k u→RelV k' u'→Inv X (pins++pl) σ H s→Q (.bool (HT.lexLt (kf i) (kf j))) s→wpAny (model X.prog X.w) X.A.in1 (richCompare .Lt u u') Q (fun _ _=>False) s)
    (hQ:∀ x,xs[au kf (xs.length - 1)]?=some x→Q x H) :
    ∀ (r j:Nat) (s:Shared) (vb:Value) (xb:V) (c:Nat) (oI:Obj),xs.length - (j+1)=r→j+1≤xs.length→Inv X (pins++[(S,seqObj "list" #[vb,vb] c),(Ia,oI)]) σ H s→s.heap.IsListIter Ia l (j+1) →
      xs[au kf j]?=some xb→RelV xb vb →
      codeAny (model X.prog X.w) X.A (.builtin "min.loop" ⟨[.ref Ia,.none,.ref S],[]⟩) (fun r s'=>match r with|.ok (.ret v)=>EP X pins σ Q v s'|.ok _=>False|.error e=>X.xe e s') s:=by
  have hname:(toString "min" ++ toString ".loop":String) = "min.loop":=by decide
  have unpin:∀ {pl H s},Inv X (pins++pl) σ H s→Inv X pins σ H s:=fun I=>I.pins_of fun p z=>I.pin p (aaa _ (aaz _ z));intro r
  induction r with
  | zero =>
    intro j s vb xb c oI hr hj I hit hxb rvb;have hin:j+1=xs.length:=by lia
    have nS:=I.at (pl:=[(S,seqObj "list" #[vb,vb] c),(Ia,oI)]) (.head _);obtain ⟨its,rl,pL,_⟩:=I.list hl;have W:=aci (prog:=X.prog) (w:=X.w) (A:=X.A.in1) hh Ia l hlI its.toArray;have hsz:its.toArray.size=xs.length:=by rw [aag,rl.length]
    refine codeAny_builtin abf ?_;rw [abr aaA _];show wpAny _ X.A.in1 (seqItems? (.ref S) >>= _) _ _ _;refine wpAny_bind (wpAny_seqItems nS rfl ?_);show wpAny _ X.A.in1 (tryCatch (pyNext (.ref Ia)) _ >>= _) _ _ _;refine wpAny_bind (wpAny_tryCatch (W.done _ _ _ ⟨by rw [hsz,← hin];exact hit,pL.isList⟩ fun h' tk' hk'=>?_));have hk1:∀ b o,b≠Ia→s.heap.get? b=some o→h'.get? b=some o:=fun b o hb e=>hk' b o (by simpa using hb) e;have I1:Inv X (pins++[(S,seqObj "list" #[vb,vb] c)]) σ H { s with heap:=h',toks:=tk' }:=I.swap.turn0 hk1 hI0 hpI (fun p hp=>by rw [aak.mp hp];exact hSI);have hS':=I1.at (pl:=[(S,seqObj "list" #[vb,vb] c)]) (.head _);have s1:=abg h' S (aa0 fun _=>(#[]:Array Value));show wpAny _ X.A.in1 (updateSeq S (fun _=>#[]) >>= _) _ _ _;refine wpAny_bind ?_;refine wpAny_updateSeq hS' rfl (wpAny_bind (wpAny_letGo (wpAny_pure ?_)));have I2:=I1.turn0 (pl:=[]) (h':=h'.update S (aa0 fun _=>(#[]:Array Value))) (tk:=tk') (fun b ob hb e=>(s1.2 b hb).trans e) hS0 hpS (fun p hp=>by simp at hp);rw [abZ] at I2;refine ⟨xb,H,I2,rvb,hQ xb ?_⟩;rw [show xs.length - 1=j by lia];exact hxb
  | succ r ih =>
    intro j s vb xb c oI hr hj I hit hxb rvb;have hlt:j+1 < xs.length:=by lia
    have nS:=I.at (pl:=[(S,seqObj "list" #[vb,vb] c),(Ia,oI)]) (.head _);obtain ⟨its,rl,pL,_⟩:=I.list hl;have W:=aci (prog:=X.prog) (w:=X.w) (A:=X.A.in1) hh Ia l hlI its.toArray;have hsz:its.toArray.size=xs.length:=by rw [aag,rl.length]
    refine codeAny_builtin abf ?_;rw [abr aaA _];show wpAny _ X.A.in1 (seqItems? (.ref S) >>= _) _ _ _;refine wpAny_bind (wpAny_seqItems nS rfl ?_);show wpAny _ X.A.in1 (tryCatch (pyNext (.ref Ia)) _ >>= _) _ _ _;refine wpAny_bind (wpAny_tryCatch (W.item (j+1) _ _ _ (by rw [hsz];exact hlt) ⟨hit,pL.isList⟩ fun v h' tk' hP hst' hk'=>?_));have hk1:∀ b o,b≠Ia→s.heap.get? b=some o→h'.get? b=some o:=fun b o hb e=>hk' b o (by simpa using hb) e;have hv:its[j+1]?=some v:=by simpa using hP
    obtain ⟨x,hx,rx⟩:∃ x,xs[j+1]?=some x∧RelV x v:=by
      have hxx:xs[j+1]?=some xs[j+1]:=aad hlt;obtain ⟨u,hu,ru⟩:=rl.get hxx;rw [hv] at hu;cases hu;exact ⟨_,hxx,ru⟩
    obtain ⟨oI',hoI',hoc,hod⟩:=id hst'.1;have I1:Inv X (pins++[(S,seqObj "list" #[vb,vb] c),(Ia,oI')]) σ H { s with heap:=h',toks:=tk' } :=
      (I.swap.turn1 hk1 hoI' (fun v z=>by rw [hod] at z;cases z) hI0 hpI (fun p hp=>by rw [aak.mp hp];exact hSI)).swap
    have nS2:=I1.at (pl:=[(S,seqObj "list" #[vb,vb] c),(Ia,oI')]) (.head _);have nI2:=I1.at (pl:=[(S,seqObj "list" #[vb,vb] c),(Ia,oI')]) (.tail _ (.head _));show wpAny _ X.A.in1 (tryCatch (holding [v,v] (richCompare .Lt v vb >>= _)) _ >>= _) _ _ _;refine wpAny_bind (wpAny_tryCatch (wpAny_holding (wpAny_bind (wpAny_mono (cmp (j+1) (au kf j) x xb v vb _ _ (fun z s'=>z=.bool (HT.lexLt (kf (j+1)) (kf (au kf j)))∧s'={ s with heap:=h',toks:=tk' }) hx hxb rx rvb I1 ⟨rfl,rfl⟩) (fun z s3 hz=>?_) fun _ _ hF=>hF.elim))));obtain ⟨rfl,rfl⟩:=hz;refine wpAny_bind (wpAny_holding (wpAny_truthy_bool ?_));refine wpAny_bind (wpAny_letGo (wpAny_pure ?_));by_cases hb':HT.lexLt (kf (j+1)) (kf (au kf j))=true
    · have s1:=abg h' S (aa0 fun _=>#[v,v]);obtain ⟨c2,hc2⟩:∃ c2,(h'.update S (aa0 fun _=>#[v,v])).get? S=some (seqObj "list" #[v,v] c2):=⟨_,get?_update_seq nS2 fun _=>#[v,v]⟩
      simp only [hb',if_true];refine wpAny_bind ?_;refine wpAny_updateSeq nS2 rfl (wpAny_bind (wpAny_letGo ?_));rw [hname];have eb:au kf (j+1)=j+1:=by conv=>lhs;unfold au;rw [if_pos hb']
      have I3:Inv X (pins++[(S,seqObj "list" #[v,v] c2),(Ia,oI')]) σ H { s with heap:=h'.update S (aa0 fun _=>#[v,v]),toks:=tk' } :=
        I1.turn1 (fun b ob hb e=>(s1.2 b hb).trans e) hc2 (fun v z=>by cases z) hS0 hpS (fun p hp=>by rw [aak.mp hp];exact hSI.symm)
      refine wpAny_pure ⟨plainId_quiet aaA _,ih (j+1) _ v x c2 oI' (by lia) hlt I3 ⟨oI',(s1.2 Ia hSI.symm).trans nI2,hoc,hod⟩ (by rw [eb];exact hx) rx⟩
    · simp only [hb',Bool.false_eq_true,if_false];refine wpAny_bind (wpAny_letGo ?_);rw [hname];have eb:au kf (j+1)=au kf j:=by conv=>lhs;unfold au;rw [if_neg hb']
      refine wpAny_pure ⟨plainId_quiet aaA _,ih (j+1) _ vb xb c oI' (by lia) hlt I1 ⟨oI',nI2,hoc,hod⟩ (by rw [eb];exact hxb) rvb⟩
theorem uJ {l:Addr} {xs:List V} {kf:Nat→List Int} {Q:VK} (hh:X.A.handled=none) (I:Inv X pins σ H s) (hne:0 < xs.length)
    (hl:SqL X.K H l xs)
    (cmp:∀ i j k k' u u' pl s (Q:Value→Shared→Prop),xs[i]?=some k→xs[j]?=some k'→RelV k u→RelV k' u'→Inv X (pins++pl) σ H s→Q (.bool (HT.lexLt (kf i) (kf j))) s→wpAny (model X.prog X.w) X.A.in1 (richCompare .Lt u u') Q (fun _ _=>False) s)
    (hQ:∀ x,xs[au kf (xs.length - 1)]?=some x→Q x H) :
    wpAny (model X.prog X.w) X.A (call (.builtin "min") [.ref l]) (EP X pins σ Q) X.xe s:=by
  have hname:(toString "min" ++ toString ".loop":String) = "min.loop":=by decide
  obtain ⟨its,rl,pL,_⟩:=I.list hl;have hls:=pL.isList;obtain ⟨ol,hol,_⟩:=id hls;have hll:l < s.heap.objs.size:=aaf hol;refine call_function_tree PySem.F.kind_min PySem.F.plain_min PySem.F.entry_min (PySem.F.args_min1 _) ?_;show wpAny _ X.A.in1 (abu "min" ["key","default"] 0 ⟨[],[]⟩ >>= _) _ _ s;refine wpAny_bind (wpAny_of_eq (show abu "min" ["key","default"] 0 ⟨[],[]⟩=pure [none,none] from rfl) ?_);refine wpAny_bind (wpAny_pure ?_);refine wpAny_bind (wpAny_pyIter_list hls ?_);refine wpAny_bind (wpAny_newList ?_ (aaQ _));rw [hname];have hS:(s.heap.push { cls:=.type "list_iterator",data:=.fields #[.ref l,.int 0 0] }).objs.size=s.heap.objs.size+1:=size_push' ..;have hlI:l≠s.heap.objs.size:=aaq hll;have hSI:(s.heap.push { cls:=.type "list_iterator",data:=.fields #[.ref l,.int 0 0] }).objs.size≠s.heap.objs.size:=by rw [hS];exact aaN (abQ _)
  have gI:((s.heap.push { cls:=.type "list_iterator",data:=.fields #[.ref l,.int 0 0] }).push (seqObj "list" #[] 0)).get? s.heap.objs.size=some { cls:=.type "list_iterator",data:=.fields #[.ref l,.int 0 0] } :=
    aac _ (aar _ rfl)
  have gS:((s.heap.push { cls:=.type "list_iterator",data:=.fields #[.ref l,.int 0 0] }).push (seqObj "list" #[] 0)).get? (s.heap.push { cls:=.type "list_iterator",data:=.fields #[.ref l,.int 0 0] }).objs.size=some (seqObj "list" #[] 0):=aar _ rfl;have kk:∀ b u,s.heap.get? b=some u→((s.heap.push { cls:=.type "list_iterator",data:=.fields #[.ref l,.int 0 0] }).push (seqObj "list" #[] 0)).get? b=some u:=fun b u e=>aac _ (aac _ e);have hI0:X.s₀.heap.objs.size≤s.heap.objs.size:=I.sz;have hS0:X.s₀.heap.objs.size≤(s.heap.push { cls:=.type "list_iterator",data:=.fields #[.ref l,.int 0 0] }).objs.size:=by rw [hS];exact Nat.le_succ_of_le I.sz
  have hpI:∀ p∈X.pn++pins,p.1≠s.heap.objs.size:=fun p hp=>aaq (aaf (I.pin p hp).1);have hpS:∀ p∈X.pn++pins,p.1≠(s.heap.push { cls:=.type "list_iterator",data:=.fields #[.ref l,.int 0 0] }).objs.size:=fun p hp=>by rw [hS];exact aaq (abj (aaf (I.pin p hp).1))
  have I0:Inv X (pins++[((s.heap.push { cls:=.type "list_iterator",data:=.fields #[.ref l,.int 0 0] }).objs.size,seqObj "list" #[] 0),(s.heap.objs.size,{ cls:=.type "list_iterator",data:=.fields #[.ref l,.int 0 0] })]) σ H
      { s with heap:=(s.heap.push { cls:=.type "list_iterator",data:=.fields #[.ref l,.int 0 0] }).push (seqObj "list" #[] 0),toks:=s.toks }:=by
    refine (I.kept (t':=s.toks) kk).pins_of fun p hp=>?_;rcases aap.mp hp with hp|hp
    · exact (I.kept (t':=s.toks) kk).pin p (aaa _ hp)
    · rcases aaj.mp hp with rfl|hp
      · refine ⟨gS,I.hok.fresh (by rw [hS];exact abU _),?_,I.nofs (by rw [hS];exact abU _),fun v z=>by cases z⟩;rw [hS];exact aaN (abj I.lt)
      · rw [aak.mp hp];exact ⟨gI,I.hok.fresh (aah _),aaN I.lt,I.nofs (aah _),fun v z=>by cases z⟩
  refine wpAny_pure ⟨plainId_quiet aaA _,?_⟩;have W:=aci (prog:=X.prog) (w:=X.w) (A:=X.A.in1) hh s.heap.objs.size l hlI its.toArray;have hsz:its.toArray.size=xs.length:=by rw [aag,rl.length]
  refine codeAny_builtin abf ?_;rw [abr aaA _];show wpAny _ X.A.in1 (seqItems? (.ref _) >>= _) _ _ _;refine wpAny_bind (wpAny_seqItems gS rfl ?_);show wpAny _ X.A.in1 (tryCatch (pyNext (.ref s.heap.objs.size)) _ >>= _) _ _ _;refine wpAny_bind (wpAny_tryCatch (W.item 0 _ _ _ (by rw [hsz];exact hne) ⟨⟨_,gI,rfl,rfl⟩,hls.at fun o e=>kk _ o e⟩ fun v h' tk' hP hst' hk'=>?_));have hv:its[0]?=some v:=by simpa using hP
  obtain ⟨x,hx,rx⟩:∃ x,xs[0]?=some x∧RelV x v:=by
    have hxx:xs[0]?=some xs[0]:=aad hne;obtain ⟨u,hu,ru⟩:=rl.get hxx;rw [hv] at hu;cases hu;exact ⟨_,hxx,ru⟩
  obtain ⟨oI',hoI',hoc,hod⟩:=id hst'.1;have I1:=(I0.swap.turn1 (h':=h') (tk:=tk') (fun b ob hb e=>hk' b ob (by simpa using hb) e) hoI' (fun v z=>by rw [hod] at z;cases z) hI0 hpI (fun p hp=>by rw [aak.mp hp];exact hSI)).swap;generalize (s.heap.push { cls:=.type "list_iterator",data:=.fields #[.ref l,.int 0 0] }).objs.size=S at hSI hS0 hpS I1 ⊢;generalize s.heap.objs.size=Ia at hlI hSI hI0 hpI I1 hst' hoI' ⊢;have nS2:=I1.at (pl:=[(S,seqObj "list" #[] 0),(Ia,oI')]) (.head _);have nI2:=I1.at (pl:=[(S,seqObj "list" #[] 0),(Ia,oI')]) (.tail _ (.head _));have s1:=abg h' S (aa0 fun _=>#[v,v]);obtain ⟨c2,hc2⟩:∃ c2,(h'.update S (aa0 fun _=>#[v,v])).get? S=some (seqObj "list" #[v,v] c2):=⟨_,get?_update_seq nS2 fun _=>#[v,v]⟩
  show wpAny _ X.A.in1 (updateSeq S (fun _=>#[v,v]) >>= _) _ _ _;refine wpAny_bind ?_;refine wpAny_updateSeq nS2 rfl ?_;rw [hname];have I3:Inv X (pins++[(S,seqObj "list" #[v,v] c2),(Ia,oI')]) σ H { s with heap:=h'.update S (aa0 fun _=>#[v,v]),toks:=tk' } :=
    I1.turn1 (fun b ob hb e=>(s1.2 b hb).trans e) hc2 (fun v z=>by cases z) hS0 hpS (fun p hp=>by rw [aak.mp hp];exact hSI.symm)
  refine wpAny_pure ⟨plainId_quiet aaA _,?_⟩;exact nM hh hlI hSI hI0 hS0 hpI hpS hl cmp hQ _ 0 _ v x c2 oI' rfl hne I3 ⟨oI',(s1.2 Ia hSI.symm).trans nI2,hoc,hod⟩ hx rx
end
section
variable {X:Cx}
def eQ (p:Int × Int):List Int:=[p.1,p.2]
theorem oi (hr:Room 1 X.A):df X (.builtin "min") (fun xs H Q=>∃ l us ps,xs=[.ref l]∧H l=some (.lst us)∧PairsIn H ps us∧0 < us.length∧∀ x,us[au (bz eQ ps) (us.length - 1)]?=some x→Q x H):=by
  intro pins s σ H xs us0 Q I r h;obtain ⟨l,us,ps,rfl,el,hps,hne,q⟩:=h;obtain ⟨u1,rfl,ru⟩:∃ u,us0=[u]∧RelV (.ref l) u:=by
    cases r with
    | cons a b=>cases b;exact ⟨_,rfl,a⟩
  cases ru;refine uJ (kf:=bz eQ ps) hr.hd I hne (SqL.of el) (fun i j k k' u u' pl s3 Q' hk hk' rk rk' I3 hq=>?_) q;obtain ⟨p,hp,a,rfl,ea⟩:=cB hps hk;obtain ⟨p',hp',a',rfl,ea'⟩:=cB hps hk';have e1:bz eQ ps i=[p.1,p.2]:=by unfold bz;rw [hp];rfl
  have e2:bz eQ ps j=[p'.1,p'.2]:=by unfold bz;rw [hp'];rfl
  rw [e1,e2] at hq;cases rk;cases rk';obtain ⟨its,r1,p1,_⟩:=I3.tuple (SqT.of ea);obtain ⟨its2,r2,p2,_⟩:=I3.tuple (SqT.of ea');exact HT.lt_tupInts p1 p2 (dF (ns:=[p.1,p.2]) r1) (dF (ns:=[p'.1,p'.2]) r2) hr.in1.units0 hq
end
end L2
namespace L2
open PySem PySem.Spec PyProof.Rows PySem.W
structure FunC (K:aab) (x qual:Str) (st:Stmt) (f:Addr) (fd:FuncData) (c:Addr):Prop where
  ex:∃ (oc:Value) (od:Option Addr) (kV doc pm:Value) (an:Option Addr) (ct:Value) (osl:Array (Option Value)),
    fd=aaP x qual (bi st) (aQ st) (ai st) .none kV doc pm an (.ref c) ct∧K.lookup f=some ⟨oc,od,.func fd,osl⟩∧aba K (.ref c) qual=true
  kp:aaO K (.ref f)=true
section
variable {P:Program} {w:World} {K:aab} {mg:Str→Option Value} {base:Heap}
theorem FunC.ok {x qual:Str} {st:Stmt} {f:Addr} {fd:FuncData} {N ps:List Str} {k:Nat} {sp:Sp} {c:Addr} (F:FunC K x qual st f fd c) (S:FnScope N ps (ai st)) (len:∀ vs H Q E,sp vs H Q E→vs.length=ps.length)
    (hbody:∀ (A:Around) (outer:List Env) (s:Shared) (H:Hp) (vs:List V) (Q:VK) (E:XK),Room k (A.deeper (envOfC qual (ai st) s.heap.objs.size f (.ref c)))→sp vs H Q E →
      ∃ t,PSs (eJ CX0 P w K mg base N qual (ai st) f (.ref c) A outer s H E).nox (aQ st) t∧t { nx:=fun _ H'=>Q .non H',rt:=Q } (start N vs) H):FnOk P w K mg base CX0 (k+1) f fd ps sp:=by
  obtain ⟨oc,od,kV,doc,pm,an,ct,osl,rfl,lk,hcd⟩:=F.ex;refine mM lk hcd S len fun A outer s H vs Q E hr hsp=>?_;obtain ⟨t,h,q⟩:=hbody A outer s H vs Q E hr hsp;exact ⟨t,h.nox,q⟩
theorem qR {x qual:Str} {st:Stmt} {f c:Addr} {oc:Value} {od an:Option Addr} {osl:Array (Option Value)} {kV doc pm ct:Value} (l:K.lookup f=some ⟨oc,od,.func (aaP x qual (bi st) (aQ st) (ai st) .none kV doc pm an (.ref c) ct),osl⟩)
    (h:aba K (.ref c) qual=true) (k:aaO K (.ref f)=true):FunC K x qual st f (aaP x qual (bi st) (aQ st) (ai st) .none kV doc pm an (.ref c) ct) c:=⟨⟨oc,od,kV,doc,pm,an,ct,osl,rfl,l,h⟩,k⟩
end
open PySem PySem.Spec PyProof.Rows
theorem nO {T c:Addr} {qual:Str} {P:Program} {w:World} {K:aab} {mg mb:Str→Option Value} {CX:CXT} {k:Nat} {fa a:Addr} {fd:FuncData} {x:Str} {sp:Sp} {s₁:Shared} {vs:List Value} {ns:List Int}
    (KX:K.In s₁.heap) (hns:s₁.heap.Ns mainGlobals mg) (hb:s₁.heap.Ns builtinsNs mb) (hbb:∀ x:Str,x ≠ "__name__"→mb x=bootBuiltins x) (hlim:s₁.heap.NoLimit) (hsm:∃ mm,s₁.heap.Ns sysModules mm) (hg:s₁.gens=#[])
    (ha:s₁.heap.get? a=some { cls:=.type "list",data:=.seq vs.toArray }) (hi:IntsAre vs ns) (hl:ns.length≤sizeLine) (hr:Room k callerA)
    (hT:s₁.heap.get? T=some (PySem.W.tabObj #[])) (hTc:s₁.heap.TableAt c T #[]) (hKT:K.lookup T=none) (hBT:s₁.heap.BuiltinsAt mg T)
    (F:∀ base:Heap,K.In base→base.Ns mainGlobals mg→base.BuiltinsAt mg T→FnOk P w K mg base CX k fa fd [x] sp) (hbind:∀ (s:Shared) (u:Value),BindsTo s fd ⟨[u],[]⟩ [(x,u)])
    (hsp:∀ H:Hp,LTab T qual H #[]→SqL K H a (ns.map V.int)→sp [.ref a] H (fun v _=>v=.bl true) fun _ _ _=>False)
    (hCX:∀ H e s',CX [] H s₁ (fun _ _ _=>False) e s'→False) :
    codeAny (model P w) callerA (.call (.ref fa) ⟨[.ref a],[]⟩) (fun r s'=>r=.ok (.ret (.bool true))∧OldK s₁.heap s'.heap∧s'.os=s₁.os∧AllBare s'.gens) s₁:=by
  have rv:=iA hi;have lenV:=hi.length;have nTa:T≠a:=fun e=>by rw [e,ha] at hT;cases hT
  have core:∀ H0:Hp,uR H0→SqL K H0 a (ns.map V.int)→HOk P w H0 s₁.heap→(∀ b,H0 b≠none→b=a)→(H0 a≠none→K.lookup a=none) →
      codeAny (model P w) callerA (.call (.ref fa) ⟨[.ref a],[]⟩) (fun r s'=>r=.ok (.ret (.bool true))∧OldK s₁.heap s'.heap∧s'.os=s₁.os∧AllBare s'.gens) s₁:=by
    intro H0 hO hS0 hok0 hA0 hK0;have h0T:H0 T=none:=by
      cases q:H0 T with
      | none=>rfl
      | some u=>exact absurd (hA0 T (by rw [q];simp)) nTa
    obtain ⟨H,eH⟩:∃ H:Hp,H=upd H0 T (.tbl #[]):=⟨_,rfl⟩
    have eT:H T=some (.tbl #[]):=by rw [eH,ac]
    have eN:∀ b,b≠T→H b=H0 b:=fun b hb=>by rw [eH,aj hb]
    have eS:∀ b o,H0 b=some o→H b=some o:=fun b o e=>by rw [eN b (ak e h0T)];exact e
    have hok:HOk P w H s₁.heap:=fun b o e=>by
      by_cases hb:b=T
      · subst hb;rw [eT] at e;cases e;exact hT
      · rw [eN b hb] at e;exact (hok0 b o e).stay (fun _ _ _ q=>q) (fun d q=>eS d _ q) fun d xs q=>eS d _ q
    have hS:SqL K H a (ns.map V.int):=by
      rcases hS0 with (h|⟨o,h⟩)|h
      · exact .inl (.inl (eS _ _ h))
      · exact .inl (.inr ⟨o,eS _ _ h⟩)
      · exact .inr h
    have hA:∀ b,H b≠none→b=a∨b=T:=fun b h=>by
      by_cases hb:b=T
      · exact .inr hb
      · rw [eN b hb] at h;exact .inl (hA0 b h)
    have base_of:∀ {b:Addr} {o:Obj},s₁.heap.get? b=some o→H b=none→(ir s₁.heap H).get? b=some o:=fun e n=>pE e n;have noB:∀ {b:Addr} {o:Obj},s₁.heap.get? b=some o→o.cls≠.none→(∀ its n,o.data≠.seq its n)→H b=none:=fun {b o} e d1 d2=>by
      cases q:H b with
      | none=>rfl
      | some u =>
        rcases hA b (by rw [q];simp) with z|z
        · subst z;rw [ha] at e;cases e;exact absurd rfl (d2 _ _)
        · subst z;rw [hT] at e;cases e;exact absurd rfl d1
    have noA:∀ {b:Addr} {o:Obj} {es:Array DictEntry} {ep:Nat},s₁.heap.get? b=some o→o.data=.dict es ep→H b=none:=fun {b o es ep} e d=>by
      cases q:H b with
      | none=>rfl
      | some u =>
        rcases hA b (by rw [q];simp) with z|z
        · subst z;rw [ha] at e;cases e;cases d
        · subst z;rw [hT] at e;cases e;cases d
    have nsK:∀ {b:Addr} {m:Str→Option Value},s₁.heap.Ns b m→(ir s₁.heap H).Ns b m:=fun {b m} ⟨o,es,ep,e,d,r⟩=>⟨o,es,ep,base_of e (noA e d),d,r⟩
    have hKb:K.In (ir s₁.heap H):=fun b o e=>base_of (KX b o e) (by
      cases q:H b with
      | none=>rfl
      | some u =>
        rcases hA b (by rw [q];simp) with z|z
        · subst z;rw [eN b nTa.symm] at q;rw [hK0 (by rw [q];simp)] at e;cases e
        · subst z;rw [hKT] at e;cases e)
    have hBb:(ir s₁.heap H).BuiltinsAt mg T:=by
      obtain ⟨bm,ob,b1,b2,b3,b4,b5,b6,b7,b8⟩:=hBT;exact ⟨bm,ob,b1,b2,b3,b4,base_of b5 (noB b5 (by rw [b6];simp) (fun its n z=>by rw [b8] at z;cases z)),b6,b7,b8⟩
    have hM:Mod K mg (ir s₁.heap H):=⟨hKb,nsK hns,⟨mb,nsK hb,hbb⟩,let ⟨mc,h1,h2⟩:=hlim;⟨mc,nsK h1,h2⟩,let ⟨mm,h1⟩:=hsm;⟨mm,nsK h1⟩⟩
    have e0:Env0 P w K mg (ir s₁.heap H) callerA [] s₁ H:=⟨rfl,hM,fun b o e=>qG e,Nat.le_of_eq (nY _ _),trivial,fun b hb=>absurd (show b∈([]:List Addr) from hb) (by simp),hok,.of_eq hg⟩
    have hL:LTab T qual H #[]:=⟨eT,trivial,fun pos cv z=>by cases z⟩
    refine codeAny_mono ((F _ hKb (nsK hns) hBb).run callerA [] s₁ H ⟨[.ref a],[]⟩ [.ref a] [.ref a] _ _ hr e0 (hbind s₁ (.ref a)) (.cons rfl .nil) (hsp H hL hS)) fun r s' h=>?_;cases r with
    | error e=>exact (hCX H e s' h).elim
    | ok fl =>
      cases fl with
      | next=>exact aa2 h
      | brk=>exact aa2 h
      | cont=>exact aa2 h
      | ret u =>
        obtain ⟨v,H',os,bare,un,hok',r',q⟩:=h;have q':v=.bl true:=q;subst q';obtain rfl:u=Value.bool true:=r';refine ⟨rfl,⟨fun b o e=>?_,fun b o e=>un.there b o e (by simp)⟩,os,bare⟩;by_cases hbT:b=T
        · subst hbT;rw [hT] at e;cases e;obtain ⟨more,e2⟩:=un.tbls b #[] eT;have e3:s'.heap.get? b=some (PySem.W.tabObj (#[]++more)):=hok' b _ e2;exact .inr (.inl ⟨hTc.isCodeTable,rfl,#[],more,rfl,e3⟩)
        · cases q:H b with
          | none=>exact .inl (un.keep b o e q (by intro z;exact absurd (show b∈([]:List Addr) from z) (by simp)) (by simp))
          | some u =>
            rw [eN b hbT] at q;rcases hO b with z|⟨ob,xs,z⟩
            · rw [q] at z;cases z
            · have z2:=un.frzs b ob _ (eS _ _ z);obtain ⟨e1,_⟩:=hok0 b _ z;obtain ⟨e2,_⟩:=hok' b _ z2;rw [e] at e1;cases e1;exact .inl e2
  cases hk:K.lookup a with
  | some o =>
    have e:=KX a o hk;rw [ha] at e;cases e;refine core (fun _=>none) (fun _=>.inl rfl) (.inr ⟨_,vs.toArray,_,hk,rfl,rfl,rfl,by rw [aag,lenV];exact hl,by simpa using rv⟩) (fun b u z=>by have z':(none:Option HO)=some u:=z;cases z') (fun b z=>absurd rfl z) fun z=>absurd rfl z
  | none =>
    refine core (fun b=>if b=a then some (.frz { cls:=.type "list",data:=.seq vs.toArray } (.lst (ns.map V.int))) else none) (fun b=>?_) (.inl (.inr ⟨{ cls:=.type "list",data:=.seq vs.toArray },if_pos rfl⟩)) (fun b u z=>?_) (fun b z=>?_) fun _=>hk
    · by_cases hb:b=a
      · exact .inr ⟨_,_,if_pos hb⟩
      · exact .inl (if_neg hb)
    · by_cases hb:b=a
      · have z':=(if_pos hb).symm.trans z;cases z';subst hb;exact ⟨ha,by rw [aan];exact hl,vs,_,rv,ha⟩
      · have z':=(if_neg hb).symm.trans z;cases z'
    · by_cases hb:b=a
      · exact hb
      · exact absurd (if_neg hb) z
theorem walk_ofT {T c:Addr} {qual:Str} {l:PySem.W.OpenLaw} {n k:Nat} {q:Program} {loose:List Str} {XP:(Str→Option Value)→Heap→Prop} {YP:World→Heap→Prop} {d:DefRec} {K:Params→aab} {CX:World→CXT} {sp:World→Sp} {x:Str}
    (hn:l.most=some n) (hn2:n≤sizeLine) (hdf:d.params.defaults=[]) (hr:Room k callerA) (hi:PyProof.Rows.importsNone q=true)
    (hY:∀ (w:World) (h:Heap),YP w h→(K w.params).In h∧h.get? T=some (PySem.W.tabObj #[])) (hC:∀ w:World,PySem.W.codeHdIn (K w.params) c T=true) (hKT:∀ w:World,(K w.params).lookup T=none)
    (F:∀ (w:World) (mg:Str→Option Value) (fa:Addr) (h:Heap),(K w.params).In h→h.Ns mainGlobals mg→mg d.name=some (.ref fa) →
      ∃ fd:FuncData,(∀ (s:Shared) (u:Value),BindsTo s fd ⟨[u],[]⟩ [(x,u)]) ∧
        ∀ base:Heap,(K w.params).In base→base.Ns mainGlobals mg→base.BuiltinsAt mg T→FnOk l.prog w (K w.params) mg base (CX w) k fa fd [x] (sp w))
    (hsp:∀ (w:World) (H:Hp) (a:Addr) (ns:List Int),ns.length≤n→LTab T qual H #[]→SqL (K w.params) H a (ns.map V.int)→sp w [.ref a] H (fun v _=>v=.bl true) fun _ _ _=>False)
    (hCX:∀ (w:World) (H:Hp) (s:Shared) (e:Value) (s':Shared),CX w [] H s (fun _ _ _=>False) e s'→False) :
    PySem.W.WalkO q loose XP YP l.row.toRowW d [] (fun f vs=>PySem.call f vs):=by
  refine Att.attach_call hn hdf fun w s₀ s₁ mg mb fa o pm cd doc a vs ns G Y ho hd hcd hmg hobj hints hlen hg=>?_;obtain ⟨KX,hT⟩:=hY w _ Y;obtain ⟨fd,hb,hF⟩:=F w mg fa _ KX G.T.g hmg;have hTc:s₁.heap.TableAt c T #[]:=(PySem.W.codeHd_of_K KX (hC w)).tab hT;obtain ⟨bm,ob,b1,b2,b3,b4,b5,b6⟩:=G.T.bmain;have hBT:s₁.heap.BuiltinsAt mg T:=by
    refine ⟨bm,ob,b1,b2,fun z=>?_,fun z=>?_,b3,b4,b5,b6⟩
    · obtain ⟨o',es,ep,e,hd',_⟩:=G.T.g;rw [z,e] at b3;cases b3;rw [hd'] at b6;cases b6
    · rw [z,hT] at b3;cases b3;cases b4
  exact nO (qual:=qual) KX G.T.g G.T.b G.T.builtins G.T.nolimit (let ⟨mm,h1,_⟩:=(G.T.seer hi).mods;⟨mm,h1⟩) hg hobj hints (aaJ hlen hn2) hr hT hTc (hKT w) hBT hF hb (fun H hL hS=>hsp w H a ns hlen hL hS) fun H e s'=>hCX w H s₁ e s'
open PySem PySem.Spec PyProof.Rows
theorem sC {J:It} {n:Nat} {Kp:Hp→Prop} {item:Nat→V→Hp→Hp→Prop} (T:Trn J n Kp item) {cap:List (Option Nat)} {g:TG} {tt:TT} {wi2:TI} {g2:TG} {tt2:TT} {wi3:TI} {g3:TG} {tt3:TT} {te:TE} {σ:St} {H:Hp} {Q:VK} (Pv:Nat→List V→Hp→Prop) (h0:Pv 0 [] H) (hk:∀ i ys H,i≤n→Pv i ys H→Kp H)
    (hs:∀ i x ys H H',i < n→item i x H H'→Pv i ys H→∀ Nx:List V→Hp→Prop,(∀ ys' H2,Pv (i+1) ys' H2→Nx ys' H2)→g x (aI cap σ) H' fun σ2 H2=>tt σ2 H2 fun b H3=>if b=true then wi2 σ2 H3 (qi g2 tt2 wi3 g3 tt3 te ys σ2 Nx) else Nx ys H3)
    (hd:∀ ys H,Pv n ys H→∀ p,H p=none→Q (.ref p) (upd H p (.lst ys))):rB cap g tt wi2 g2 tt2 wi3 g3 tt3 te σ Q J H:=by
  refine ⟨fun i m ys H=>m=n - i∧i≤n∧Pv i ys H,⟨n,by simp,aaQ _,h0⟩,?_⟩;rintro i m ys H ⟨rfl,hi,p⟩;by_cases hlt:i < n
  · refine .inr ⟨T.go i H hlt (hk i ys H hi p),fun x H' y=>?_⟩;exact hs i x ys H H' hlt (T.yld i H x H' hlt (hk i ys H hi p) y) p (fun ys' H4=>∃ m',m' < n - i∧m'=n - (i+1)∧i+1≤n∧Pv (i+1) ys' H4) fun ys' H2 h=>⟨_,by lia,rfl,hlt,h⟩
  · have e:i=n:=by lia
    subst e;exact .inl ⟨T.stop H (hk _ ys H hi p),hd ys H p⟩
theorem qK {J:It} {n:Nat} {Kp:Hp→Prop} {item:Nat→V→Hp→Hp→Prop} (T:Trn J n Kp item) {g2:TG} {tt2:TT} {wi3:TI} {g3:TG} {tt3:TT} {te:TE} {ys:List V} {σ:St} {H:Hp} {Fin:List V→Hp→Prop} (Pv:Nat→List V→St→Hp→Prop) (h0:Pv 0 ys σ H) (hk:∀ i ys σ H,i≤n→Pv i ys σ H→Kp H)
    (hs:∀ i x ys σ H H',i < n→item i x H H'→Pv i ys σ H→∀ Nx:List V→St→Hp→Prop,(∀ ys' σ' H2,Pv (i+1) ys' σ' H2→Nx ys' σ' H2)→g2 x σ H' fun σ3 H5=>tt2 σ3 H5 fun b H6=>if b=true then wi3 σ3 H6 (jL g3 tt3 te ys σ3 Nx) else Nx ys σ3 H6)
    (hd:∀ ys σ H,Pv n ys σ H→Fin ys H):qi g2 tt2 wi3 g3 tt3 te ys σ Fin J H:=by
  refine ⟨fun i m ys σ H=>m=n - i∧i≤n∧Pv i ys σ H,⟨n,by simp,aaQ _,h0⟩,?_⟩;rintro i m ys σ H ⟨rfl,hi,p⟩;by_cases hlt:i < n
  · refine .inr ⟨T.go i H hlt (hk i ys σ H hi p),fun x H' y=>?_⟩;exact hs i x ys σ H H' hlt (T.yld i H x H' hlt (hk i ys σ H hi p) y) p (fun ys' σ' H4=>∃ m',m' < n - i∧m'=n - (i+1)∧i+1≤n∧Pv (i+1) ys' σ' H4) fun ys' σ' H2 h=>⟨_,by lia,rfl,hlt,h⟩
  · have e:i=n:=by lia
    subst e;exact .inl ⟨T.stop H (hk _ ys σ H hi p),hd ys σ H p⟩
theorem qJ {J:It} {n:Nat} {Kp:Hp→Prop} {item:Nat→V→Hp→Hp→Prop} (T:Trn J n Kp item) {g2:TG} {tt2:TT} {te:TE} {ys:List V} {σ:St} {H:Hp} {Fin:List V→St→Hp→Prop} (Pv:Nat→List V→St→Hp→Prop) (h0:Pv 0 ys σ H) (hk:∀ i ys σ H,i≤n→Pv i ys σ H→Kp H∧ys.length < sizeLine)
    (hs:∀ i x ys σ H H',i < n→item i x H H'→Pv i ys σ H→∀ Nx:List V→St→Hp→Prop,(∀ ys' σ' H2,Pv (i+1) ys' σ' H2→Nx ys' σ' H2)→g2 x σ H' fun σ3 H5=>tt2 σ3 H5 fun b H6=>if b=true then te σ3 H6 fun v H7=>Nx (ys++[v]) σ3 H7 else Nx ys σ3 H6)
    (hd:∀ ys σ H,Pv n ys σ H→Fin ys σ H):jL g2 tt2 te ys σ Fin J H:=by
  refine ⟨fun i m ys σ H=>m=n - i∧i≤n∧Pv i ys σ H,⟨n,by simp,aaQ _,h0⟩,?_⟩;rintro i m ys σ H ⟨rfl,hi,p⟩;by_cases hlt:i < n
  · refine .inr ⟨T.go i H hlt (hk i ys σ H hi p).1,(hk i ys σ H hi p).2,fun x H' y=>?_⟩;exact hs i x ys σ H H' hlt (T.yld i H x H' hlt (hk i ys σ H hi p).1 y) p (fun ys' σ' H4=>∃ m',m' < n - i∧m'=n - (i+1)∧i+1≤n∧Pv (i+1) ys' σ' H4) fun ys' σ' H2 h=>⟨_,by lia,rfl,hlt,h⟩
  · have e:i=n:=by lia
    subst e;exact .inl ⟨T.stop H (hk _ ys σ H hi p).1,hd ys σ H p⟩
open PySem PySem.Spec PyProof.Rows
def tI (K:aab) (neg:Bool):R2:=fun x y H Q=>∃ (p:Int × Int) (l:Addr) (us:List V) (ps:List (Int × Int)),PairIn H p x∧y=.ref l∧(SqL K H l us∨SqT K H l us)∧PairsIn H ps us∧Q (.bl (if neg then !decide (p∈ps) else decide (p∈ps))) H
theorem lO {X:Cx} {K:aab} (hK:X.K=K) (hu:X.A.units+64 < cLine):OpR X (compareOp .NotIn) (tI K true):=by
  intro pins s σ H x y v u Q I rx ry h;obtain ⟨p,l,us,ps,hp,e,hq,hps,q⟩:=h;rcases hq with hq|hq
  · exact nz hK hu pins s σ H x y v u Q I rx ry ⟨p,l,us,ps,hp,e,hq,hps,q⟩
  · subst hK;subst e;cases ry;obtain ⟨its,r,pl,hz⟩:=I.tuple hq;obtain ⟨f,hf,ha⟩:=iQ (p:=p) I hps r;refine SeqAt.notIn_tupleAt f pl (fun w hw=>?_) ⟨.bl _,H,I,rfl,?_⟩
    · obtain ⟨q',v',h1,h2,h3⟩:=hf w (by simpa using hw);rw [h3];exact (EqR.pair (K:=X.K) (n:=0) h1 hp).at I h2 rx (by show X.A.units+1+(0+1) < cLine;lia)
    · rw [show its.toArray.any f=its.any f by simp,ha];exact q
open PySem PySem.Spec PyProof.Rows
section
variable {prog:Program} {w:World} {A:Around} {E:Value→Shared→Prop} {s:Shared}
theorem ju (d:Addr) (hd:(d == sysModules)=false) :
    MeetsIn prog w (Builtin.«dict.items» ⟨[.ref d],[]⟩) (fun _ R s=>s.TypeIs (.ref d) "dict" ∧
      R (.ok (.ret (.ref s.heap.objs.size))) { s with heap:=s.heap.push { cls:=.type "dict_items",data:=.fields #[.ref d] } }) :=
  .of_wp fun A R s ⟨hm,h⟩=>by
    unfold Builtin.«dict.items»;refine wpAny_bind ?_;unfold Builtin.Dict.noArgs;refine wpAny_bind (wpAny_notOrdered_dict hm ?_);show wpAny _ _ (pure d) _ _ s;refine wpAny_pure ?_;show wpAny _ _ (Builtin.Dict.showsAll d >>= _) _ _ s;unfold Builtin.Dict.showsAll;rw [if_neg (by rw [hd];exact aae)];refine wpAny_bind (wpAny_pure ?_);exact wpAny_bind (wpAny_newObj_type (wpAny_pure ⟨_,rfl,h⟩))
theorem l0 {v d:Addr} {o:Obj} {es:Array DictEntry} {ep:Nat} {Q:Value→Shared→Prop} (hv:s.heap.IsItemsView v d) (ho:s.heap.get? d=some o) (hdat:o.data=.dict es ep)
    (hQ:Q (.ref s.heap.objs.size) { s with heap:=s.heap.push { cls:=.type "dict_itemiterator",data:=.fields #[.none,.bool false,.ref d,.int 0 0,.int es.size 0,.int ep 0,.none,.none] } }) :
    wpAny (model prog w) A (pyIter (.ref v)) Q E s:=by
  obtain ⟨ov,hov,hcv,hdv⟩:=id hv;refine wpAny_pyIter_slot hv.typeIs F.slot_dict_items_iter (wpAny_call_entry F.slot_dict_items_iter hv.typeIs F.entry_dict_items_iter ?_ (F.args_dict_items_iter_1 _));unfold Builtin.«dict_items.__iter__»;refine wpAny_bind (wpAny_pure ?_);refine wpAny_bind ?_;unfold Builtin.Dict_items.dictOf;refine wpAny_bind (wpAny_field hov hdv (x:=.ref d) rfl (wpAny_pure ?_));refine wpAny_bind ?_;unfold Builtin.Dict_items.newIterator;refine wpAny_bind (wpAny_dictEntries ho hdat ?_);refine wpAny_bind (wpAny_dictEpoch ho hdat ?_);have hown:abI "dict_itemiterator" = true:=by decide
  simp only [hown,if_true];refine wpAny_newObj_type (wpAny_pure ⟨_,rfl,"dict_itemiterator",_,⟨_,aar _ rfl,rfl⟩,F.slot_dict_itemiterator_next.lookup,?_⟩)
    (by simp only [sizeOk,abR,aag,aao,aaB,aaV,sizeLine_eq];lia)
  simpa [rawInt,abR] using hQ
theorem nG {it d:Addr} {i n ep:Nat} {od:Obj} {es:Array DictEntry} {e:DictEntry} {ok ov:Value} {Q:Option Value→Shared→Prop} (hit:IsItemIter s.heap it d i n ep ok ov) (hod:s.heap.get? d=some od) (hdd:od.data=.dict es ep) (hsz:es.size=n) (hx:es[i]?=some e)
    (hQ:∀ h',IsItemIterOut h' it d (i+1) n ep e.key e.val s.heap.objs.size →
      h'.get? s.heap.objs.size=some { cls:=.type "tuple",data:=.seq #[e.key,e.val] }→h'.objs.size=s.heap.objs.size+1 →
      (∀ b o,b≠it→s.heap.get? b=some o→h'.get? b=some o)→Q (some (.ref s.heap.objs.size)) { s with heap:=h' }) :
    wpAny (model prog w) A (pyNext (.ref it)) Q E s:=by
  obtain ⟨hp,g,dr,tk,os⟩:=s;have hT:Shared.TypeIs ⟨hp,g,dr,tk,os⟩ (.ref it) "dict_itemiterator":=⟨_,hit,rfl⟩
  unfold pyNext;refine wpAny_bind (wpAny_attempt (wpAny_callSpecial?_slot (name:=abX "__next__") hT abo
    (wpAny_call_entry abo hT F.entry_dict_itemiterator_next ?_ (ab7 _))))
  refine wpAny_bind (wpAny_pure ?_);refine wpAny_bind ?_;refine wpAny_bind ?_
  first|refine wpAny_bind (wpAny_typeNameOfWhole_itemiter hT (wpAny_pure ?_))|refine wpAny_bind (wpAny_typeNameOf_itemiter hT (wpAny_pure ?_))
  refine wpAny_bind (wpAny_fieldsOf hit rfl ?_);have hown:abI "dict_itemiterator" = true:=by decide
  simp only [hown,if_true];show wpAny _ _ (if (Value.ref d == Value.none)=true then _ else _) _ _ _;rw [if_neg (show ¬ ((Value.ref d == Value.none)=true) from aae)];refine wpAny_bind (wpAny_pure ?_);refine wpAny_bind (wpAny_dictEntries hod hdd ?_);rw [if_neg (by rw [hsz];simp)];refine wpAny_bind (wpAny_pure ?_);refine wpAny_bind (wpAny_dictEpoch hod hdd ?_);rw [if_neg (by simp)];refine wpAny_pure ?_;simp only [show ¬ ((i:Int) < 0) from by lia,if_false,Int.toNat_natCast,hx];refine wpAny_bind ?_
  first|refine wpAny_bind (wpAny_typeNameOfWhole_itemiter hT (wpAny_pure ?_))|refine wpAny_bind (wpAny_typeNameOf_itemiter hT (wpAny_pure ?_))
  refine wpAny_bind (wpAny_isOneOf_itemiter hT ?_);show wpAny _ _ (setField (.ref it) 3 (rawInt ((i:Int)+1)) >>= _) _ _ ⟨hp,g,dr,tk,os⟩;refine wpAny_bind (wpAny_setField_rec hit (by simp) fun h₁ he₁ hs₁=>?_)
  replace hs₁:abz it hp h₁:=hs₁
  replace he₁:IsItemIter h₁ it d (i+1) n ep ok ov:=by
    have e:((i+1:Nat):Int)=(i:Int)+1:=by lia
    unfold IsItemIter;rw [e];simpa [rawInt] using he₁
  have hT₁:Shared.TypeIs ⟨h₁,g,dr,tk,os⟩ (.ref it) "dict_itemiterator":=⟨_,he₁,rfl⟩
  refine wpAny_bind (wpAny_holding ?_);refine wpAny_bind (wpAny_isOneOf_itemiter hT₁ ?_);refine wpAny_bind (wpAny_isOneOf_itemiter hT₁ ?_);show wpAny _ _ (ab4 (.ref it) 6 e.key e.val) _ _ ⟨h₁,g,dr,tk,os⟩;unfold ab4;refine wpAny_bind (wpAny_newTuple ?_);have he₂:IsItemIter (h₁.push { cls:=.type "tuple",data:=.seq #[e.key,e.val] }) it d (i+1) n ep ok ov:=aac _ he₁;generalize hh₂:h₁.push { cls:=.type "tuple",data:=.seq #[e.key,e.val] }=h₂ at he₂;have hz₁:h₁.objs.size=hp.objs.size:=hs₁.1;have hil:it < hp.objs.size:=aaf hit;have ht₂:h₂.get? hp.objs.size=some { cls:=.type "tuple",data:=.seq #[e.key,e.val] }:=by rw [← hh₂,← hz₁];exact aar _ rfl
  have hz₂:h₂.objs.size=hp.objs.size+1:=by rw [← hh₂,abP,hz₁]
  have hk₂:∀ b o,b≠it→hp.get? b=some o→h₂.get? b=some o:=fun b o hb e=>by rw [← hh₂];exact aac _ (hs₁.extBut b o hb e)
  show wpAny _ _ (abS (.ref it) >>= _) _ _ ⟨h₂,g,dr,tk,os⟩;rw [hz₁];clear hh₂ he₁ hs₁ hT₁ hz₁ h₁;refine wpAny_bind ?_;unfold abS;refine wpAny_bind (wpAny_field he₂ rfl (x:=.none) rfl (wpAny_pure ?_));simp only [if_true];refine wpAny_bind (wpAny_field he₂ rfl (x:=ok) rfl ?_);refine wpAny_bind (wpAny_field he₂ rfl (x:=ov) rfl ?_);refine wpAny_bind (wpAny_setField_rec he₂ (by simp) fun h₃ he₃ hs₃=>?_)
  replace hs₃:abz it h₂ h₃:=hs₃
  replace he₃:IsItemIter h₃ it d (i+1) n ep e.key ov:=he₃
  refine wpAny_bind (wpAny_setField_rec he₃ (by simp) fun h₄ he₄ hs₄=>?_)
  replace hs₄:abz it h₃ h₄:=hs₄
  replace he₄:IsItemIter h₄ it d (i+1) n ep e.key e.val:=he₄
  refine wpAny_bind (wpAny_setField_rec he₄ (by simp) fun h₅ he₅ hs₅=>?_)
  replace hs₅:abz it h₄ h₅:=hs₅
  replace he₅:IsItemIterOut h₅ it d (i+1) n ep e.key e.val hp.objs.size:=he₅
  refine wpAny_bind (wpAny_setField_rec he₅ (by simp) fun h₆ he₆ hs₆=>?_)
  replace hs₆:abz it h₅ h₆:=hs₆
  replace he₆:IsItemIterOut h₆ it d (i+1) n ep e.key e.val hp.objs.size:=he₆
  refine wpAny_bind (wpAny_letGo (wpAny_pure (wpAny_pure ⟨_,rfl,wpAny_pure (hQ h₆ he₆ ?_ ?_ ?_)⟩)))
  · exact hs₆.extBut _ _ (aaN hil) (hs₅.extBut _ _ (aaN hil) (hs₄.extBut _ _ (aaN hil) (hs₃.extBut _ _ (aaN hil) ht₂)))
  · show h₆.objs.size=hp.objs.size+1;rw [hs₆.1,hs₅.1,hs₄.1,hs₃.1,hz₂]
  · exact fun b o hb e=>hs₆.extBut b o hb (hs₅.extBut b o hb (hs₄.extBut b o hb (hs₃.extBut b o hb (hk₂ b o hb e))))
theorem lU {it d:Addr} {i n ep:Nat} {od:Obj} {es:Array DictEntry} {ok ov:Value} {Q:Option Value→Shared→Prop} (hh:A.handled=none) (hit:IsItemIter s.heap it d i n ep ok ov) (hod:s.heap.get? d=some od) (hdd:od.data=.dict es ep) (hsz:es.size=n) (hge:es.size≤i)
    (hQ:∀ h',Heap.ExtBut it s.heap h'→Q none { s with heap:=h' }):wpAny (model prog w) A (pyNext (.ref it)) Q E s:=by
  have hT:s.TypeIs (.ref it) "dict_itemiterator":=⟨_,hit,rfl⟩
  unfold pyNext;refine wpAny_bind (wpAny_attempt (wpAny_callSpecial?_slot (name:=abX "__next__") hT abo
    (wpAny_call_entry abo hT F.entry_dict_itemiterator_next ?_ (ab7 _))))
  refine wpAny_bind (wpAny_pure ?_);refine wpAny_bind ?_;refine wpAny_bind ?_
  first|refine wpAny_bind (wpAny_typeNameOfWhole_itemiter hT (wpAny_pure ?_))|refine wpAny_bind (wpAny_typeNameOf_itemiter hT (wpAny_pure ?_))
  refine wpAny_bind (wpAny_fieldsOf hit rfl ?_);have hown:abI "dict_itemiterator" = true:=by decide
  simp only [hown,if_true];show wpAny _ _ (if (Value.ref d == Value.none)=true then _ else _) _ _ s;rw [if_neg (show ¬ ((Value.ref d == Value.none)=true) from aae)];refine wpAny_bind (wpAny_pure ?_);refine wpAny_bind (wpAny_dictEntries hod hdd ?_);rw [if_neg (by rw [hsz];simp)];refine wpAny_bind (wpAny_pure ?_);refine wpAny_bind (wpAny_dictEpoch hod hdd ?_);rw [if_neg (by simp)];refine wpAny_pure ?_;simp only [show ¬ ((i:Int) < 0) from by lia,if_false,Int.toNat_natCast,Array.getElem?_eq_none hge];refine wpAny_bind ?_
  first|refine wpAny_bind (wpAny_typeNameOfWhole_itemiter hT (wpAny_pure ?_))|refine wpAny_bind (wpAny_typeNameOf_itemiter hT (wpAny_pure ?_))
  show wpAny _ _ (setField (.ref it) 2 .none >>= _) _ _ s;refine wpAny_bind (wpAny_setField hit rfl (by simp) ?_);show wpAny _ _ (newExc (.type "StopIteration") [] >>= _) _ _ _;refine wpAny_bind ?_;simp only [newExc,newTuple];refine wpAny_bind (wpAny_newObj_type ?_ (by size_fits));refine wpAny_bind (m:=firstArgMember _ _) (wpAny_of_eq (a:=Value.none) (by first|rfl|(simp only [firstArgMember];rfl)) ?_);refine wpAny_newObj_type ?_ (by size_fits);simp only [raiseNew];refine wpAny_bind (wpAny_handled ?_);rw [show A.in1.handled=none from hh];refine wpAny_bind (wpAny_pure (wpAny_throw ?_));refine wpAny_bind (wpAny_isInstance (T:="StopIteration") (b:=true) ⟨_,aar _ rfl,rfl⟩ isSubtype_stop ?_);exact wpAny_pure (hQ _ (((abg ..).extBut.push _).push _))
end
def oA (kvs:List (List Key × V)):Nat→V→V→Hp→Prop:=fun i k y H=>∃ kv b,kvs[i]?=some kv∧k=.ref b∧y=kv.2∧H b=some (.tup (kv.1.map kV))
def oD (kvs:List (Key × V)):Nat→V→V→Hp→Prop:=fun i k y _=>∃ kv,kvs[i]?=some kv∧k=kV kv.1∧y=kv.2
def Iti (d:Addr) (o:Obj) (u:HO) (n:Nat) (rw:Nat→V→V→Hp→Prop):It :=
  ⟨fun i H=>H d=some (.frz o u)∧i < n,fun i H x H'=>∃ p k y,H p=none∧x=.ref p∧H'=upd H p (.tup [k,y])∧rw i k y H,fun i H=>H d=some (.frz o u)∧n≤i⟩
def Ent (P:Program) (w:World) (d:Addr) (o:Obj) (u:HO) (n:Nat) (rw:Nat→V→V→Hp→Prop) (es:Array DictEntry) (ep:Nat):Prop :=
  o.data=.dict es ep∧es.size=n∧∀ H h,HOk P w H h→H d=some (.frz o u)→h.get? d=some o∧∀ i e,es[i]?=some e→∃ k y,RelV k e.key∧RelV y e.val∧rw i k y H
theorem rm {P:Program} {w:World} {H:Hp} {h:Heap} {d:Addr} {o:Obj} {kvs:List (List Key × V)} (ok:HOk P w H h) (e:H d=some (.frz o (.dT kvs))) :
    h.get? d=some o∧o.ExactDict∧(d == sysModules)=false∧∃ es ep,Ent P w d o (.dT kvs) kvs.length (oA kvs) es ep:=by
  obtain ⟨ho,z,hs,xs,rel,o2,es,ep,ho2,c,dat,_⟩:=(show ObjOk P w H h d (.frz o (.dT kvs)) from ok d _ e)
  rw [ho] at ho2;cases ho2;obtain ⟨_,_,_,hsz,_⟩:=pJ ok e dat;refine ⟨ho,c,hs,es,ep,dat,hsz,fun H h ok e=>?_⟩;obtain ⟨ho,_,_,hsz,xs,rel,l⟩:=pJ ok e dat;refine ⟨ho,fun i en he=>?_⟩;have lx:=abk rel;have hi:i < es.size:=by
    rcases Nat.lt_or_ge i es.size with h|h
    · exact h
    · rw [Array.getElem?_eq_none h] at he;cases he
  have hx:xs[i]?=some xs[i]:=aad (by lia);have hkv:kvs[i]?=some kvs[i]:=aad (by lia);rw [entry_at l i,hx] at he;have he:entryOfKey (tupleKind (aK P w)) xs[i]=en:=aaM he;subst he;have r:=Paired.nth rel i _ _ hkv hx;exact ⟨.ref xs[i].2.1,kvs[i].2,rfl,r.2.2,_,_,hkv,rfl,rfl,r.2.1⟩
theorem iO {P:Program} {w:World}:∀ {es:List DictEntry} {vs:List (Key × Value)},Pairs (aK P w) es vs→∀ {i:Nat} {e:DictEntry},es[i]?=some e→∃ kv,vs[i]?=some kv∧(aK P w).is kv.1 e.key=true∧e.val=kv.2
  | _,_,.nil,i,e,h=>by simp at h
  | _,_,.cons a b c,0,e,h=>by simp at h;subst h;exact ⟨_,rfl,a,b⟩
  | _,_,.cons a b c,i+1,e,h=>by simpa using iO c (by simpa using h)
theorem rn {P:Program} {w:World} {H:Hp} {h:Heap} {d:Addr} {o:Obj} {kvs:List (Key × V)} (ok:HOk P w H h) (e:H d=some (.frz o (.dK kvs))) :
    h.get? d=some o∧o.ExactDict∧(d == sysModules)=false∧∃ es ep,Ent P w d o (.dK kvs) kvs.length (oD kvs) es ep:=by
  obtain ⟨ho,z,hs,vs,rel,o2,es,ep,ho2,c,dat,ks,pr,nd⟩:=(show ObjOk P w H h d (.frz o (.dK kvs)) from ok d _ e)
  rw [ho] at ho2;cases ho2;have lv:=abk rel;have hsz:es.size=kvs.length:=by rw [← Array.length_toList,pr.length];lia
  refine ⟨ho,c,hs,es,ep,dat,hsz,fun H h ok e=>?_⟩;obtain ⟨ho,z,hs,vs,rel,o2,es2,ep2,ho2,c,dat2,ks,pr,nd⟩:=(show ObjOk P w H h d (.frz o (.dK kvs)) from ok d _ e)
  rw [ho] at ho2;cases ho2;rw [dat] at dat2;cases dat2;refine ⟨ho,fun i en he=>?_⟩;obtain ⟨kv,e1,e2,e3⟩:=iO pr (i:=i) (e:=en) (by simpa using he);have hi:i < vs.length:=(aai.mp e1).1;have lv:=abk rel;have hkv:kvs[i]?=some kvs[i]:=aad (by lia);have r:=Paired.nth rel i _ _ hkv e1;refine ⟨kV kvs[i].1,kvs[i].2,?_,by rw [e3];exact r.2,_,hkv,rfl,rfl⟩;rw [r.1];rcases a5 e2 with ⟨j,t,q1,q2⟩|⟨x,t,q1,q2⟩
  · rw [q1,q2];exact ⟨t,rfl⟩
  · rw [q1,q2];exact ⟨t,rfl⟩
theorem lp {P:Program} {w:World} {K:aab} {elts:List Expr} {k:Nat} {pos:Pos} (d it:Addr) (hdi:d≠it) (o:Obj) (u:HO) (n:Nat) (rw:Nat→V→V→Hp→Prop) (es:Array DictEntry) (ep:Nat) (hE:Ent P w d o u n rw es ep) :
    Turn P w K (.Tuple elts k pos) (Iti d o u n rw) [it] it (fun i h=>∃ ok ov,IsItemIter h it d i n ep ok ov) where
  mem:=by simp
  obj:=fun i h st b hb=>by
    have e:b=it:=by simpa using hb
    subst e;obtain ⟨ok,ov,e⟩:=st;exact ⟨_,e,fun v z=>by cases z⟩
  keep:=fun i h h' st k=>by
    obtain ⟨ok,ov,e⟩:=st;exact ⟨ok,ov,k it (by simp) _ e⟩
  item:=by
    intro X hP hw hK hc i pins s σ H E I hf st hg;subst hP hw hK;obtain ⟨e,hlt⟩:=hg;obtain ⟨dat,hsz,hE⟩:=hE;obtain ⟨ho,hE⟩:=hE H s.heap I.hok e;obtain ⟨f0,f1,f2,f3,f4,f5⟩:=hf it (by simp);obtain ⟨ok,ov,hit⟩:=st;have hx:es[i]?=some es[i]:=Array.getElem?_eq_getElem (by lia);obtain ⟨kx,y,r1,r2,r3⟩:=hE i _ hx;have hilt:it < s.heap.objs.size:=aaf hit;refine nG hit ho dat hsz hx fun h' hit' hT hz hk=>?_;refine ⟨_,rfl,wpAny_letOwnedTupleGo_items hit' fun h'' he' hs'=>?_⟩;have hs2:abz it h' h'':=hs';have keep:∀ b o,b∉[it]→s.heap.get? b=some o→h''.get? b=some o:=fun b o hb q=>by
      have b1:b≠it:=fun z=>hb (by simp [z]);exact (hs2.2 b b1).trans (hk b o b1 q)
    have I1:Inv X pins σ H { s with heap:=h'',toks:=s.toks }:=I.turnedL keep hf;have gT:h''.get? s.heap.objs.size=some { cls:=.type "tuple",data:=.seq #[es[i].key,es[i].val] }:=(hs2.2 _ (aaN hilt)).trans hT;have fresh:H s.heap.objs.size=none:=I.hok.fresh (aah _);have I2:=I1.adopt (a:=s.heap.objs.size) (o:=.tup [kx,y]) fresh I.sz (aaN I.lt) (fun y c e1=>by
        obtain ⟨v,q⟩:=I.cell y c e1;exact aaq q.lt) (fun q hq=>aaq (aaf (I.pin q hq).1)) ⟨by show 2≤sizeLine;decide,[es[i].key,es[i].val],.cons r1 (.cons r2 .nil),⟨_,gT,rfl,_,rfl⟩⟩
    refine ⟨.ref s.heap.objs.size,_,I2,rfl,⟨_,kx,y,fresh,rfl,rfl,r3⟩,⟨_,_,he'⟩,fun b hb=>?_⟩;have z:b=it:=by simpa using hb
    subst z;rw [aj (aaq hilt)];exact f0
  done:=by
    intro X hP hw hK hc i pins s σ H E I hf st hg;subst hP hw hK;obtain ⟨e,hge⟩:=hg;obtain ⟨dat,hsz,hE⟩:=hE;obtain ⟨ho,hE⟩:=hE H s.heap I.hok e;obtain ⟨f0,f1,f2,f3,f4,f5⟩:=hf it (by simp);obtain ⟨ok,ov,hit⟩:=st;exact lU (I.ok.hd hc) hit ho dat hsz (by lia) fun h' eb=>⟨rfl,I.turned (t':=s.toks) (fun b o hb e=>eb b o hb e) f0 f1 f3 f4 f5⟩
  self:=fun _ _ _ _ _ st h=>by
    obtain ⟨ok,ov,hit⟩:=st;exact PySem.W.kcp_self hit h
def sK (te:TE):TI:=fun σ H R=>te σ H fun x H1=>∃ d,x=.ref d ∧
  ((∃ kvs,H1 d=some (.dT kvs)∧∀ o,R (Iti d o (.dT kvs) kvs.length (oA kvs)) (upd H1 d (.frz o (.dT kvs))))∨(∃ kvs,H1 d=some (.dK kvs)∧∀ o,R (Iti d o (.dK kvs) kvs.length (oD kvs)) (upd H1 d (.frz o (.dK kvs)))) ∨
   (∃ o kvs,H1 d=some (.frz o (.dT kvs))∧R (Iti d o (.dT kvs) kvs.length (oA kvs)) H1)∨∃ o kvs,H1 d=some (.frz o (.dK kvs))∧R (Iti d o (.dK kvs) kvs.length (oD kvs)) H1)
theorem oO {X:Cx} {elts:List Expr} {k:Nat} {tpos:Pos} {o:Expr} {to:TE} {apos cpos:Pos} (ho:PE X o to)
    (hbase:attributeBase o "items" X.env (eval o X.env)=eval o X.env:=by rfl) (hline:(apos.endLine == cpos.line)=true:=by rfl):PI X (.Tuple elts k tpos) (.Call (.Attribute o "items" apos) [] [] cpos) (sK to):=by
  intro pins s σ H R I h;refine wpAny_Call_method0_late hbase hline (thn (ho pins s σ H _ I h) fun v s1 ⟨x,H1,I1,r1,d,ex,q1⟩=>?_);subst ex;cases r1;have main:∀ (ob:Obj) (u:HO) (n:Nat) (rw:Nat→V→V→Hp→Prop) (es:Array DictEntry) (ep:Nat) (H2:Hp),s1.heap.get? d=some ob→ob.ExactDict→(d == sysModules)=false→Inv X pins σ H2 s1→Ent X.prog X.w d ob u n rw es ep→R (Iti d ob u n rw) H2 →
      MethodOn X.prog X.w X.A "items" cpos (.ref d) [] (fun v s1=>wpAny (model X.prog X.w) X.A (pyIter v) (PIE X pins σ (.Tuple elts k tpos) R) X.xe s1) X.xe s1:=fun ob u n rw es ep H2 g c hs I2 hE q=>by
    have hT:s1.TypeIs (.ref d) "dict":=⟨ob,g,c.1⟩
    refine ⟨"dict","dict.items",PySem.F.plainAttrs_dict,PySem.F.slot_dict_items,PySem.F.type_dict_items,hT,fun a e=>by cases e;exact ⟨ob,g,c.2.1⟩,Calls.callWith_builtin rfl (PySem.evalArgs_none ?_)⟩;refine call_meetsIn PySem.F.slot_dict_items hT PySem.F.entry_dict_items (PySem.F.args_dict_items_1 _) (ju d hs) ⟨hT,?_⟩;have g1:(s1.heap.push { cls:=.type "dict_items",data:=.fields #[.ref d] }).get? d=some ob:=aac _ g;refine l0 (s:={ s1 with heap:=s1.heap.push { cls:=.type "dict_items",data:=.fields #[.ref d] } }) (v:=s1.heap.objs.size) (d:=d) ⟨_,aar _ rfl,rfl,rfl⟩ g1 hE.1 ?_;have kp:∀ b o,s1.heap.get? b=some o→((s1.heap.push { cls:=.type "dict_items",data:=.fields #[.ref d] }).push { cls:=.type "dict_itemiterator",data:=.fields #[.none,.bool false,.ref d,.int 0 0,.int es.size 0,.int ep 0,.none,.none] }).get? b=some o:=fun b o e=>aac _ (aac _ e);have hlt:d < s1.heap.objs.size:=aaf g;have hsz:(s1.heap.push { cls:=.type "dict_items",data:=.fields #[.ref d] }).objs.size=s1.heap.objs.size+1:=abP _ _;refine ⟨(s1.heap.push { cls:=.type "dict_items",data:=.fields #[.ref d] }).objs.size,[(s1.heap.push { cls:=.type "dict_items",data:=.fields #[.ref d] }).objs.size],_,_,H2,rfl,I2.kept (t':=s1.toks) kp,lp d _ (by rw [hsz];exact aaq (abj hlt)) ob u n rw es ep hE,⟨.none,.none,?_⟩,fun b hb=>?_,q⟩
    · have e:=aar (s1.heap.push { cls:=.type "dict_items",data:=.fields #[.ref d] }) (o:={ cls:=.type "dict_itemiterator",data:=.fields #[.none,.bool false,.ref d,.int 0 0,.int es.size 0,.int ep 0,.none,.none] }) rfl;rw [hE.2.1] at e;rw [hE.2.1];exact e
    · have e:b=(s1.heap.push { cls:=.type "dict_items",data:=.fields #[.ref d] }).objs.size:=by simpa using hb
      have hb2:s1.heap.objs.size≤b:=by rw [e,hsz];exact abU _
      exact I2.fpOk hb2 (I2.hok.fresh hb2)
  have nf:∀ u,H1 d=some u→(∀ o v,u≠.frz o v)→∀ o v,X.H₀ d≠some (.frz o v):=fun u e1 n o v q=>by
    have z:=I1.base.frzs d o v q;rw [e1] at z;injection z with z;exact n _ _ z
  rcases q1 with ⟨kvs,e1,q⟩|⟨kvs,e1,q⟩|⟨ob,kvs,e1,q⟩|⟨ob,kvs,e1,q⟩
  · obtain ⟨z,hd,xs,rel,ob,es,ep,hob,c⟩:=(show ObjOk X.prog X.w H1 s1.heap d (.dT kvs) from I1.hok d _ e1)
    have I2:Inv X pins σ (upd H1 d (.frz ob (.dT kvs))) s1:=I1.retype e1 (fun _ z=>nomatch z) (fun _ z=>nomatch z) (fun _ z=>nomatch z) (nf _ e1 fun _ _ z=>nomatch z) ⟨hob,I1.hok d _ e1⟩;obtain ⟨h1,h2,h3,es',ep',hE⟩:=rm I2.hok (ac (H:=H1) (a:=d));exact main ob _ _ _ _ _ _ h1 h2 h3 I2 hE (q ob)
  · obtain ⟨z,hd,vs,rel,ob,es,ep,hob,c⟩:=(show ObjOk X.prog X.w H1 s1.heap d (.dK kvs) from I1.hok d _ e1)
    have I2:Inv X pins σ (upd H1 d (.frz ob (.dK kvs))) s1:=I1.retype e1 (fun _ z=>nomatch z) (fun _ z=>nomatch z) (fun _ z=>nomatch z) (nf _ e1 fun _ _ z=>nomatch z) ⟨hob,I1.hok d _ e1⟩;obtain ⟨h1,h2,h3,es',ep',hE⟩:=rn I2.hok (ac (H:=H1) (a:=d));exact main ob _ _ _ _ _ _ h1 h2 h3 I2 hE (q ob)
  · obtain ⟨h1,h2,h3,es',ep',hE⟩:=rm I1.hok e1;exact main ob _ _ _ _ _ _ h1 h2 h3 I1 hE q
  · obtain ⟨h1,h2,h3,es',ep',hE⟩:=rn I1.hok e1;exact main ob _ _ _ _ _ _ h1 h2 h3 I1 hE q
theorem Trn.items {d:Addr} {o:Obj} {u:HO} {n:Nat} {rw:Nat→V→V→Hp→Prop}:Trn (Iti d o u n rw) n (fun H=>H d=some (.frz o u)) (fun i x H H'=>∃ p k y,H p=none∧x=.ref p∧H'=upd H p (.tup [k,y])∧rw i k y H) :=
  ⟨fun i H hi q=>⟨q,hi⟩,fun H q=>⟨q,aah _⟩,fun i H x H' hi q y=>y⟩
theorem jC {J:It} {n:Nat} {Kp:Hp→Prop} {item:Nat→V→Hp→Hp→Prop} (T:Trn J n Kp item) {g:TG} {tb:TS} {D:Ends} {σ:St} {H:Hp} (Pv:Nat→St→Hp→Prop) (h0:Pv 0 σ H) (hk:∀ i σ H,i≤n→Pv i σ H→Kp H)
    (hs:∀ i x σ H H',i < n→item i x H H'→Pv i σ H→g x σ H' fun σ2 H2=>tb { D with nx:=Pv (i+1),ct:=Pv (i+1),bk:=D.nx } σ2 H2) (hd:∀ σ H,Pv n σ H→D.nx σ H) :
    ∃ W:Nat→Nat→St→Hp→Prop,(∃ m,W 0 m σ H)∧∀ i m σ H,W i m σ H →
      (J.stop i H∧D.nx σ H)∨(J.go i H∧∃ N:St→Hp→Prop,(∀ σ' H',N σ' H'→∃ m',m' < m∧W (i+1) m' σ' H')∧∀ x H',J.yld i H x H'→g x σ H' fun σ2 H2=>tb { D with nx:=N,ct:=N,bk:=D.nx } σ2 H2):=by
  refine ⟨fun i m σ H=>m=n - i∧i≤n∧Pv i σ H,⟨n,by simp,aaQ _,h0⟩,?_⟩;rintro i m σ H ⟨rfl,hi,p⟩;have q:=hk i σ H hi p;by_cases hlt:i < n
  · exact .inr ⟨T.go i H hlt q,Pv (i+1),fun σ' H' p'=>⟨n - (i+1),by lia,rfl,hlt,p'⟩,fun x H' y=>hs i x σ H H' hlt (T.yld i H x H' hlt q y) p⟩
  · have e:i=n:=by lia
    subst e;exact .inl ⟨T.stop H q,hd σ H p⟩
def mi (H:Hp) (d:Addr):Prop:=∀ o v,H d≠some (.frz o v)
def sX (t:TE):TE:=fun σ H Q=>t σ H fun v H'=>∃ d o u,mi H d∧H' d=some (.frz o u)∧Q v (upd H' d u)
theorem qy {X:Cx} {e:Expr} {t:TE} (he:PE X e t):PE X e (sX t):=by
  intro pins s σ H Q I h;refine thn (he pins s σ _ _ I h) fun u s1 ⟨v,H1,I2,r,d,o,u',nf,e1,q⟩=>⟨v,upd H1 d u',?_,r,q⟩
  have hf:∀ o v,X.H₀ d≠some (.frz o v):=fun o v q=>nf _ _ (I.base.frzs d o v q);exact I2.retype e1 (fun _ z=>nomatch z) (fun _ z=>nomatch z) (fun _ z=>nomatch z) hf (show ObjOk X.prog X.w H1 s1.heap d (.frz o u') from I2.hok d _ e1).2
end L2
namespace PySem
open Sem (wp)
namespace F
end F
section
variable {prog:Program} {w:World} {A:Around} {E:Value→Shared→Prop} {h:Heap} {g:Array GenState} {d:Drawn} {t:Nat} {os:OsState} {a:Addr} {xs:Array Value} {k:Nat}
end
end PySem
namespace L2
open PySem PySem.Spec PyProof.Rows
section
variable {prog:Program} {w:World} {A:Around} {E:Value→Shared→Prop} {s:Shared}
end
open PySem PySem.Spec PyProof.Rows
def qX (P:Program) (w:World) (K:aab) (mg:Str→Option Value) (base:Heap) (x:Str) (k:Nat) (ps:List Str) (sp:Sp) (dvs:List V):Prop :=
  ∃ f fd ds,FnOk P w K mg base CX0 k f fd ps sp∧Binds K fd ps ds∧Vals dvs ds∧aaO K (.ref f)=true∧mg x=some (.ref f)
section
variable {X:Cx}
theorem mB {x:Str} {k k':Nat} {ps:List Str} {sp:Sp} {dvs:List V} {e:Expr} {es:List Expr} {t:TA} {p pos:Pos} (C:qX X.prog X.w X.K X.mg X.base x k ps sp dvs) (hr:Room k' X.A) (hk:k≤k') (hg:Gl X x) (ha:PA X (e :: es) t)
    (hdb:(x == ("__debug__":Str))=false:=by decide) (he:starEach (e :: es) X.env=(false,eval e X.env) :: starEach es X.env:=by rfl) (hpl:(backTo pos (starEach es X.env)).any (·.1)=false:=by rfl) :
    PE X (.Call (.Name x p) (e :: es) [] pos) (iC sp dvs E0 t):=by
  obtain ⟨f,fd,ds,F,b,hd,kp,m⟩:=C;exact ji F (hr.mono hk) hg m kp b hd oX ha hdb he hpl
end
theorem rG {us:List Value} {d:Value} (h:(us++[d]).length=3):∃ a b,us=[a,b]:=by
  rw [aao] at h
  match us,h with
  | [a,b],_=>exact ⟨a,b,rfl⟩
structure FunD (K:aab) (x qual:Str) (st:Stmt) (f:Addr) (fd:FuncData) (tD:Addr):Prop where
  ex:∃ (oc:Value) (od:Option Addr) (kV doc pm:Value) (an:Option Addr) (cdv ct:Value) (osl:Array (Option Value)),
    fd=aaP x qual (bi st) (aQ st) (ai st) (.ref tD) kV doc pm an cdv ct∧K.lookup f=some ⟨oc,od,.func fd,osl⟩∧aba K cdv qual=true
  kp:aaO K (.ref f)=true
section
variable {P:Program} {w:World} {K:aab} {mg:Str→Option Value} {base:Heap}
theorem FunD.ok {x qual:Str} {st:Stmt} {f:Addr} {fd:FuncData} {tD:Addr} {N ps:List Str} {k:Nat} {sp:Sp} (F:FunD K x qual st f fd tD) (S:FnScope N ps (ai st)) (len:∀ vs H Q E,sp vs H Q E→vs.length=ps.length)
    (hbody:∀ (cdv:Value) (A:Around) (outer:List Env) (s:Shared) (H:Hp) (vs:List V) (Q:VK) (E:XK),Room k (A.deeper (envOfC qual (ai st) s.heap.objs.size f cdv))→sp vs H Q E →
      ∃ t,PSs (eJ CX0 P w K mg base N qual (ai st) f cdv A outer s H E).nox (aQ st) t∧t { nx:=fun _ H'=>Q .non H',rt:=Q } (start N vs) H):FnOk P w K mg base CX0 (k+1) f fd ps sp:=by
  obtain ⟨oc,od,kV,doc,pm,an,cdv,ct,osl,rfl,lk,hcd⟩:=F.ex;refine mM lk hcd S len fun A outer s H vs Q E hr hsp=>?_;obtain ⟨t,h,q⟩:=hbody cdv A outer s H vs Q E hr hsp;exact ⟨t,h.nox,q⟩
theorem FunD.binds {x qual:Str} {st:Stmt} {f:Addr} {fd:FuncData} {tD:Addr} {ps:List Str} {ds:List Value} (F:FunD K x qual st f fd tD)
    (h:∀ (kV doc pm:Value) (an:Option Addr) (cdv ct:Value) (s:Shared) (us:List Value),K.In s.heap→(us++ds).length=ps.length→BindsTo s (aaP x qual (bi st) (aQ st) (ai st) (.ref tD) kV doc pm an cdv ct) ⟨us,[]⟩ (ps.zip (us++ds))):Binds K fd ps ds:=by
  obtain ⟨oc,od,kV,doc,pm,an,cdv,ct,osl,rfl,lk,hcd⟩:=F.ex;exact h kV doc pm an cdv ct
theorem qQ {x qual:Str} {st:Stmt} {f tD:Addr} {oc:Value} {od an:Option Addr} {osl:Array (Option Value)} {kV doc pm cdv ct:Value} (l:K.lookup f=some ⟨oc,od,.func (aaP x qual (bi st) (aQ st) (ai st) (.ref tD) kV doc pm an cdv ct),osl⟩)
    (c:aba K cdv qual=true) (k:aaO K (.ref f)=true):FunD K x qual st f (aaP x qual (bi st) (aQ st) (ai st) (.ref tD) kV doc pm an cdv ct) tD:=⟨⟨oc,od,kV,doc,pm,an,cdv,ct,osl,rfl,l,c⟩,k⟩
end
open PySem PySem.Spec PyProof.Rows
section
variable {X:Cx} {tg:Expr}
end
open PySem PySem.Spec PyProof.Rows
end L2
namespace L2
open PySem PySem.Spec PyProof.Rows PySem.W
section
variable {prog:Program} {w:World} {A:Around} {E:Value→Shared→Prop} {s:Shared}
end
open PySem PySem.Spec PyProof.Rows
def sA (e l:Nat→Bool) (n m:Nat):Nat→Nat→Bool
  | _,0=>decide (n < m)
  | j,k+1=>if e j=true then sA e l n m (j+1) k else l j
section
open PySem.SeqAt
open PySem.AutoSeq1 (wpAny_loadPart')
open PySem.MeetsSeq PySem.MeetsSeq2 PySem.MeetsSeq3
end
inductive LtR (K:aab) (H:Hp):Nat→V→V→Bool→Prop
  | int {n:Nat} {a b:Int}:LtR K H n (.int a) (.int b) (decide (a < b))
  | tup {n:Nat} {a b:Addr} {xs ys:List V} {e l:Nat→Bool} (ha:SqT K H a xs) (hb:SqT K H b ys) (h:∀ (j:Nat) x y,xs[j]?=some x→ys[j]?=some y→EqR K H n x y (e j)) (hl:∀ (j:Nat) x y,xs[j]?=some x→ys[j]?=some y→e j=false→LtR K H n x y (l j)) :
      LtR K H (n+1) (.ref a) (.ref b) (sA e l xs.length ys.length 0 (min xs.length ys.length))
section
variable {X:Cx} {pins:List (Addr × Obj)} {σ:St} {H:Hp} {s:Shared}
end
section
variable {X:Cx}
end
open PySem PySem.Spec PyProof.Rows
def Fq (K:aab) (x:Str) (s:Stmt) (f:Addr):Prop:=aas K mainGlobals x=some (some (.ref f))∧∃ fd,Fun K x x s f fd
theorem Fq.mk4 {K:aab} {x:Str} {st:Stmt} {f:Addr} {oc:Value} {od an:Option Addr} {osl:Array (Option Value)} {kV doc pm cdv ct:Value} (a:aas K mainGlobals x=some (some (.ref f))) (l:K.lookup f=some ⟨oc,od,.func (aaP x x (bi st) (aQ st) (ai st) .none kV doc pm an cdv ct),osl⟩)
    (c:aba K cdv x=true) (k:aaO K (.ref f)=true):Fq K x st f:=⟨a,_,pI l c k⟩
theorem Fq.use {K:aab} {x:Str} {st:Stmt} {f:Addr} {h:Heap} {mg:Str→Option Value} (q:Fq K x st f) (X:K.In h) (G:h.Ns mainGlobals mg) {ps:List Str}
    (hb:∀ (kV doc pm:Value) (an:Option Addr) (cdv ct:Value) (us:List Value),us.length=ps.length→bindArgs (aaP x x (bi st) (aQ st) (ai st) .none kV doc pm an cdv ct) ⟨us,[]⟩=pure (ps.zip us)):∃ fd,Fun K x x st f fd∧Binds K fd ps []∧mg x=some (.ref f):=by
  obtain ⟨a,fd,F⟩:=q;exact ⟨fd,F,F.binds hb,aaL X G a⟩
open PySem PySem.Spec PyProof.Rows
open PySem PySem.Spec PyProof.Rows
open PySem PySem.Spec PyProof.Rows
open PySem PySem.Spec PyProof.Rows
section
variable {prog:Program} {w:World} {A:Around} {E:Value→Shared→Prop} {s:Shared}
end
end L2
namespace L2
open PySem
def t9 (xs:Array Nat):Prop:=xs.toList.Pairwise (· < ·)
def Okm (m:Nat):Prop:=m=7∨m=15∨m=31∨m=63∨m=127∨m=255∨m=511∨m=1023
end L2
namespace L2
open PySem
end L2
namespace L2
open PySem
structure GT (n:Nat) (b:Bool) (t:SetTable):Prop where
  okm:Okm t.mask
  dum:t.dummies=#[]
  pl:t.plain=true
  rise:t9 t.place
  size:t.place.size=n
  led:t.led=b
  room:n * 5 < t.mask * 3
structure GT1 (n:Nat) (b:Bool) (t:SetTable):Prop where
  okm:Okm t.mask
  dum:t.dummies=#[]
  pl:t.plain=true
  rise:t9 t.place
  size:t.place.size=n
  led:t.led=b
  room:(n - 1) * 5 < t.mask * 3
open PySem PySem.Spec PyProof.Rows
section
variable {prog:Program} {w:World} {A:Around} {E:Value→Shared→Prop} {s:Shared}
end
end L2
set_option maxHeartbeats 3200000
namespace L2
open PySem PySem.Spec PyProof.Rows
section
variable {prog:Program} {w:World} {A:Around} {E:Value→Shared→Prop} {s:Shared}
variable {R:Result→Shared→Prop} {I:Addr} {fp wr:List Addr} {G:Array GenState→Array GenState→Prop} {n:Nat} {P:Nat→Value→Prop} {St:Nat→Shared→Prop}
end
section
variable {prog:Program} {w:World} {A:Around} {E:Value→Shared→Prop} {s:Shared}
end
open PySem PySem.Spec PyProof.Rows
section
variable {prog:Program} {w:World} {A:Around} {E:Value→Shared→Prop} {s:Shared}
end
end L2
namespace PySem.F
end PySem.F
namespace L2
open PySem PySem.Spec PyProof.Rows
section
variable {prog:Program} {w:World} {A:Around} {E:Value→Shared→Prop} {s:Shared}
end
open PySem PySem.Spec PyProof.Rows
section
variable {prog:Program} {w:World} {A:Around} {E:Value→Shared→Prop} {s:Shared}
end
open PySem PySem.Spec PyProof.Rows
end L2
namespace PySem.F
end PySem.F
namespace L2
open PySem PySem.Spec PyProof.Rows
structure SI (prog:Program) (w:World) (h:Heap) (a:Addr) (o:Obj) (es:Array (Int × Value)) (ep:Nat) (t:SetTable):Prop where
  at':h.get? a=some o
  ex:o.ExactSet
  dat:o.data=.set es ep t
  fit:t.fits es.size=true
  els:ElemsOf (intKind prog w) es.toList
  few:es.size < scanBound
section
variable {prog:Program} {w:World} {A:Around} {E:Value→Shared→Prop} {s:Shared}
end
open PySem PySem.Spec PyProof.Rows
section
variable {prog:Program} {w:World} {A:Around} {E:Value→Shared→Prop} {s:Shared}
end
open PySem PySem.Spec PyProof.Rows
section
variable {prog:Program} {w:World} {A:Around} {E:Value→Shared→Prop} {s:Shared}
end
open PySem PySem.Spec PyProof.Rows
section
variable {prog:Program} {w:World} {A:Around} {E:Value→Shared→Prop} {s:Shared}
end
open PySem PySem.Spec PyProof.Rows
section
variable {prog:Program} {w:World} {A:Around} {E:Value→Shared→Prop} {s:Shared}
end
open PySem PySem.Spec PyProof.Rows
section
variable {prog:Program} {w:World} {A:Around} {E:Value→Shared→Prop} {s:Shared}
end
open PySem PySem.Spec PyProof.Rows
open PySem PySem.Spec PyProof.Rows
open PySem PySem.Spec PyProof.Rows
open PySem PySem.Spec PyProof.Rows
open PySem PySem.Spec PyProof.Rows
section
variable {X:Cx}
end
open PySem PySem.Spec PyProof.Rows
open PySem PySem.Spec PyProof.Rows
section
open PySem.SeqAt
open PySem.AutoSeq1 (wpAny_loadPart')
open PySem.MeetsSeq PySem.MeetsSeq2 PySem.MeetsSeq3
end
inductive LtQ (K:aab) (H:Hp):Nat→V→V→Bool→Prop
  | int {n:Nat} {a b:Int}:LtQ K H n (.int a) (.int b) (decide (a < b))
  | lst {n:Nat} {a b:Addr} {xs ys:List V} {e l:Nat→Bool} (ha:SqL K H a xs) (hb:SqL K H b ys) (h:∀ (j:Nat) x y,xs[j]?=some x→ys[j]?=some y→EqR K H n x y (e j)) (hl:∀ (j:Nat) x y,xs[j]?=some x→ys[j]?=some y→e j=false→LtQ K H n x y (l j)) :
      LtQ K H (n+1) (.ref a) (.ref b) (sA e l xs.length ys.length 0 (min xs.length ys.length))
section
variable {X:Cx} {pins:List (Addr × Obj)} {σ:St} {H:Hp} {s:Shared}
end
end L2
namespace Tim
open PySem PyProof.Rows
section
variable {prog:Program} {w:World} {A:Around} {E:Value→Shared→Prop} {s:Shared}
end
end Tim
namespace L2
open PySem PySem.Spec PyProof.Rows
section
variable {prog:Program} {w:World} {A:Around} {E:Value→Shared→Prop} {s:Shared}
end
structure Rnk (K:aab) (H:Hp) (n:Nat) (us:List V) (kf:V→Int):Prop where
  two:∀ x∈us,∃ t k wv ks,x=.ref t∧H t=some (.tup [.ref k,wv])∧H k=some (.lst ks)
  cmp:∀ t t' k k' wv wv',V.ref t∈us→V.ref t'∈us→H t=some (.tup [.ref k,wv])→H t'=some (.tup [.ref k',wv']) →
    EqR K H n (.ref k) (.ref k') (decide (kf (.ref t)=kf (.ref t')))∧(kf (.ref t)≠kf (.ref t')→LtQ K H n (.ref k) (.ref k') (decide (kf (.ref t) < kf (.ref t'))))∧(kf (.ref t)=kf (.ref t')→EqR K H n wv wv' true)
open PySem PySem.Spec PyProof.Rows
section
variable {X:Cx} {tg:Expr}
end
section
variable {X:Cx}
end
open PySem PySem.Spec PyProof.Rows
open PySem PySem.Spec PyProof.Rows
def CauT (K:aab) (H:Hp) (x:V) (t:Value):Prop:=(x=.non∧t=.type "NoneType")∨∃ ea C,x=.ref ea∧H ea=some (cZ ea C)∧ExC K C∧t=.ref C
theorem CauT.mono {K:aab} {H H':Hp} {x:V} {t:Value} (s:∀ b o,H b=some o→H' b=some o) (h:CauT K H x t):CauT K H' x t:=by
  rcases h with h|⟨ea,C,e1,e2,e3,e4⟩
  · exact .inl h
  · exact .inr ⟨ea,C,e1,s _ _ e2,e3,e4⟩
theorem br {X:Cx}:df X (.builtin "isinstance") (fun xs H Q=>∃ x c t u b,xs=[x,c]∧CauT X.K H x t∧(∀ u',RelV c u'→u'=u)∧aaC X.K t u=some b∧Q (.bl b) H):=by
  intro pins s σ H xs us Q I r h;obtain ⟨x,c,t,u,b,rfl,hx,hu,hk,q⟩:=h;obtain ⟨u1,u2,rfl,r1,r2⟩:=mn r;obtain rfl:=hu _ r2;rcases hx with ⟨rfl,rfl⟩|⟨ea,C,rfl,he,x,rfl⟩
  · cases (show u1=Value.none from r1);exact aaW PySem.W.kitx_none I.kIn True.intro hk (fun z=>nomatch z) fun tk=>⟨.bl b,H,I.tok tk,rfl,q⟩
  · cases r1;obtain ⟨⟨o,vs,h1,h2,_⟩,_⟩:=(show ObjOk X.prog X.w H s.heap ea (cZ ea C) from I.hok ea _ he)
    exact aaW (kE x) I.kIn ⟨o,h1,h2⟩ hk (fun z=>nomatch z) fun tk=>⟨.bl b,H,I.tok tk,rfl,q⟩
theorem iz {X:Cx}:df X (.builtin "isinstance") (fun xs H Q=>∃ x tp cs t us b,xs=[x,.ref tp]∧CauT X.K H x t∧H tp=some (.tup cs)∧(∀ us',Vals cs us'→us'=us)∧PySem.W.kitAny X.K t us=some b∧Q (.bl b) H):=by
  intro pins s σ H xs us Q I r h;obtain ⟨x,tp,cs,t,us,b,rfl,hx,ht,hu,hk,q⟩:=h;obtain ⟨u1,u2,rfl,r1,r2⟩:=mn r;cases r2;obtain ⟨_,its,rv,ot,g1,g2,k,g3⟩:=(show ObjOk X.prog X.w H s.heap tp (.tup cs) from I.hok tp _ ht)
  obtain rfl:=hu _ rv;obtain ⟨oc,od,dat,sl⟩:=ot;cases (show oc=_ from g2);cases (show dat=_ from g3);rcases hx with ⟨rfl,rfl⟩|⟨ea,C,rfl,he,x,rfl⟩
  · cases (show u1=Value.none from r1);exact PySem.W.kia_tup PySem.W.kitx_none I.kIn True.intro g1 hk (fun z=>nomatch z) fun tk=>⟨.bl b,H,I.tok tk,rfl,q⟩
  · cases r1;obtain ⟨⟨o,vs,h1,h2,_⟩,_⟩:=(show ObjOk X.prog X.w H s.heap ea (cZ ea C) from I.hok ea _ he)
    exact PySem.W.kia_tup (kE x) I.kIn ⟨o,h1,h2⟩ g1 hk (fun z=>nomatch z) fun tk=>⟨.bl b,H,I.tok tk,rfl,q⟩
section
variable {X:Cx} {pos:Pos}
end
end L2
namespace L2
open PySem PySem.Spec PyProof.Rows PySem.W
section
variable {X:Cx} {pins pl:List (Addr × Obj)} {σ:St} {H:Hp} {s:Shared}
end
section
variable {X:Cx}
end
end L2
namespace L2
open PySem PySem.Spec PyProof.Rows PySem.W
section
variable {X:Cx} {pins pl:List (Addr × Obj)} {σ:St} {H:Hp} {s:Shared}
end
section
variable {X:Cx}
end
open PySem PySem.Spec PyProof.Rows
inductive Thw (H:Hp):Hp→Hp→Prop
  | refl (H1:Hp):Thw H H1 H1
  | step {H1 H2:Hp} {d:Addr} {o:Obj} {u:HO} (h:Thw H H1 H2) (nf:mi H d) (e:H2 d=some (.frz o u)):Thw H H1 (upd H2 d u)
open PySem PySem.Spec PyProof.Rows
open PySem PySem.Spec PyProof.Rows
section
variable {X:Cx} {tg:Expr}
end
open PySem PySem.Spec PyProof.Rows
section
variable {prog:Program} {w:World} {A:Around} {E:Value→Shared→Prop} {R:Result→Shared→Prop} {s:Shared}
end
section
variable {prog:Program} {w:World}
end
section
variable {X:Cx}
end
open PySem PySem.Spec PyProof.Rows
section
variable {M:Model} {A:Around} {E:Value→Shared→Prop} {s:Shared}
end
section
variable {X:Cx}
end
open PySem PySem.Spec PyProof.Rows
open PySem PySem.Spec PyProof.Rows
section
variable {X:Cx} {pins:List (Addr × Obj)} {σ:St} {H:Hp} {s:Shared}
end
end L2
namespace L2
open PySem
variable {X:Cx}
theorem qB {x:Str} {k k':Nat} {ps:List Str} {sp:Sp} {p pos:Pos} (C:Cal X.prog X.w X.K X.mg X.base x k ps sp) (hr:Room k' X.A) (hk:k≤k') (hg:Gl X x) (hdb:(x == ("__debug__":Str))=false:=by decide) :
    PE X (.Call (.Name x p) [] [] pos) (iC sp [] E0 rL):=by
  obtain ⟨f,fd,F,b,kp,m⟩:=C;exact oV F (hr.mono hk) hg m kp b .nil oX hdb
open PySem PySem.Spec PyProof.Rows
theorem Same.upd {H H1:Hp} {p:Addr} {o:HO} (a:Same H H1) (h:H p=none):Same H (L2.upd H1 p o):=fun b u q=>by
  rw [aj (ak q h)];exact a b u q
end L2
namespace Put
open PySem L2
def top (i:Nat):Stmt:=PySem.Challenge.pw_putsigns_k15_refused_by_bounds.main.body.getD i (.Pass ⟨0,0,0,0⟩)
inductive Sg where
  | plus|minus|times
  deriving DecidableEq
def Sg.str:Sg→Str
  | .plus=>"+"
  | .minus=>"-"
  | .times=>"*"
inductive Wy where
  | num (i:Int)
  | node (g:Sg) (l r:Wy)
  deriving DecidableEq
def Wy.size:Wy→Nat
  | .num _=>1
  | .node _ l r=>l.size+r.size
theorem Wy.size_pos:∀ w:Wy,1≤w.size
  | .num _=>aah _
  | .node _ l r=>by have:=l.size_pos;show 1≤l.size+r.size;lia
def WyIn (H:Hp):Wy→V→Prop
  | .num i,v=>v=.int i
  | .node g l r,v=>∃ a vl vr,v=.ref a∧H a=some (.tup [.str g.str,vl,vr])∧WyIn H l vl∧WyIn H r vr
def Tups (H H':Hp):Prop:=∀ b xs,H b=some (.tup xs)→H' b=some (.tup xs)
theorem Tups.of {H H':Hp} (a:Same H H'):Tups H H':=fun b xs h=>a b _ h
theorem Tups.trans {H H1 H2:Hp} (a:Tups H H1) (b:Tups H1 H2):Tups H H2:=fun c xs h=>b c xs (a c xs h)
theorem WyIn.mono {H H':Hp} (t:Tups H H'):∀ {w:Wy} {v:V},WyIn H w v→WyIn H' w v
  | .num _,_,h=>h
  | .node g l r,v,h=>by
    obtain ⟨a,vl,vr,e,h1,h2,h3⟩:=h;exact ⟨a,vl,vr,e,t _ _ h1,WyIn.mono t h2,WyIn.mono t h3⟩
structure Bu (K:aab) (mg:Str→Option Value):Prop where
  ilen:mg "len" = none
  iisinstance : mg "isinstance" = none
  iint:mg "int" = none
  ibool:mg "bool" = none
  istr:mg "str" = none
  ituple:mg "tuple" = none
  ilist:mg "list" = none
  isorted:mg "sorted" = none
  irange:mg "range" = none
  irepr:mg "repr" = none
  ienumerate:mg "enumerate" = none
  isum:mg "sum" = none
  iall:mg "all" = none
  imin:mg "min" = none
  imax:mg "max" = none
  iabs:mg "abs" = none
  idivmod:mg "divmod" = none
  idict:mg "dict" = none
  iset:mg "set" = none
  ireversed:mg "reversed" = none
  iany:mg "any" = none
  izip:mg "zip" = none
structure Co (K:aab) (mg:Str→Option Value) (tk:Tok) (aS:Addr):Prop where
  gMOST_NUMBERS:mg "MOST_NUMBERS" = some (.int 9 tk)
  gSIGNS:mg "SIGNS" = some (.ref aS)
  sSIGNS:∀ H,SqT K H aS [.str "+",.str "-",.str "*"]
section
variable {P:Program} {w:World} {K:aab} {mg:Str→Option Value} {base:Heap} {f:Addr} {fd:FuncData}
def i_ (K:aab):Sp:=fun vs H Q _=>∃ x n,vs=[x]∧TyOf K H x (.type n)∧Q (.bl (decide (n = "int"))) H
abbrev ff:Stmt:=top 16
theorem jX:FnScope ["thing"] ["thing"] (ai ff):=⟨rfl,rfl,rfl,by decide +kernel,rfl,by decide +kernel,by decide +kernel⟩
theorem ki (F:Fun K "is_whole" "is_whole" ff f fd) (B:Bu K mg):FnOk P w K mg base CX0 1 f fd ["thing"] (i_ K):=by
  refine F.ok jX (fun vs H Q E h=>?_) (fun cdv A outer s H vs Q E hr h=>?_)
  · obtain ⟨x,n,rfl,_⟩:=h;rfl
  obtain ⟨x,n,rfl,ty,q⟩:=h;refine ⟨_,(@am _ _ _ (@az _ _ _ _ (@oW _ _ _ _ _ _ _ (@ax _ _ _ _ _ _ _ _ _ (@de _ ("int")) rfl B.iisinstance aaw (@aa _ _ _ _ _ (pv 0) (@aa _ _ _ _ _ (@fC _ _ (.ty "int") _ _ rfl B.iint PyProof.Rows.boot_int rfl (by decide) (by decide)) ad (by rfl)) (by rfl)) (by decide) (by decide) (by rfl) (by rfl)) (@oR _ _ _ _ _ (@sg _ _ _ _ (@ax _ _ _ _ _ _ _ _ _ (@de _ ("bool")) rfl B.iisinstance aaw (@aa _ _ _ _ _ (pv 0) (@aa _ _ _ _ _ (@fC _ _ (.ty "bool") _ _ rfl B.ibool PyProof.Rows.boot_bool rfl (by decide) (by decide)) ad (by rfl)) (by rfl)) (by decide) (by decide) (by rfl) (by rfl))))))),?_⟩;cases ty with
  | non=>exact ⟨_,rfl,_,_,false,rfl,.non,rfl,false,rfl,bH q⟩
  | bl y=>exact ⟨_,rfl,_,_,true,rfl,.bl y,rfl,true,rfl,eI ⟨_,rfl,_,_,true,rfl,.bl y,rfl,true,rfl,q⟩⟩
  | int i=>exact ⟨_,rfl,_,_,true,rfl,.int i,rfl,true,rfl,eI ⟨_,rfl,_,_,false,rfl,.int i,rfl,false,rfl,q⟩⟩
  | str y=>exact ⟨_,rfl,_,_,false,rfl,.str y,rfl,false,rfl,bH q⟩
  | flt y=>exact ⟨_,rfl,_,_,false,rfl,.flt y,rfl,false,rfl,bH q⟩
  | lst e=>exact ⟨_,rfl,_,_,false,rfl,.lst e,rfl,false,rfl,bH q⟩
  | frz e=>exact ⟨_,rfl,_,_,false,rfl,.frz e,rfl,false,rfl,bH q⟩
  | tup e=>exact ⟨_,rfl,_,_,false,rfl,.tup e,rfl,false,rfl,bH q⟩
  | dK e=>exact ⟨_,rfl,_,_,false,rfl,.dK e,rfl,false,rfl,bH q⟩
  | dT e=>exact ⟨_,rfl,_,_,false,rfl,.dT e,rfl,false,rfl,bH q⟩
open PySem L2
theorem cr {n:Nat} (h:n≤1000):n≤sizeLine:=Nat.le_of_lt (aU h)
def Wy.nums:Wy→List Int
  | .num i=>[i]
  | .node _ l r=>l.nums++r.nums
theorem Wy.nums_len:∀ w:Wy,w.nums.length=w.size
  | .num _=>rfl
  | .node _ l r=>by show (l.nums++r.nums).length=l.size+r.size;rw [aao,l.nums_len,r.nums_len]
def aw:List Sg→Str
  | []=>""
  | g :: r=>g.str++aw r
end
open PySem L2
def Wel (H:Hp) (w:Addr) (_M:Int):Prop:=∃ a b,H w=some (.lst [.int a,.int b])∧0≤b∧b < 2147483629
theorem Wel.keep {H H':Hp} {w:Addr} {M M':Int} (h:Wel H w M) (s:Same H H') (m:M≤M'):Wel H' w M':=by
  obtain ⟨a,b,e,h0,h1⟩:=h;exact ⟨a,b,s _ _ e,h0,h1⟩
theorem Wel.more {H:Hp} {w:Addr} {M M':Int} (h:Wel H w M) (m:M≤M'):Wel H w M':=h.keep (Same.refl H) m
theorem But.free {w p:Addr} {H H':Hp} {M:Int} (b:But w H H') (h:Wel H' w M) (n:H' p=none):H p=none:=by
  cases q:H p with
  | none=>rfl
  | some o =>
    by_cases e:p=w
    · subst e;obtain ⟨_,_,z,_⟩:=h;rw [z] at n;cases n
    · rw [b p o e q] at n;cases n
theorem Wel.ne {w p:Addr} {H:Hp} {M:Int} (h:Wel H w M) (n:H p=none):p≠w:=fun e=>by
  subst e;obtain ⟨_,_,z,_⟩:=h;rw [z] at n;cases n
section
variable {P:Program} {w:World} {K:aab} {mg:Str→Option Value} {base:Heap} {f:Addr} {fd:FuncData}
theorem ku (x m:Int) (h:0 < m):0≤x % m∧x % m < m:=⟨Int.emod_nonneg x (by lia),Int.emod_lt_of_pos x h⟩
def lC:Sp:=fun vs H Q _=>∃ cell,vs=[.int cell]∧∀ p H',Same H H'→H p=none→Wel H' p 0→Q (.ref p) H'
abbrev dS:Stmt:=top 41
theorem je:FnScope ["cell"] ["cell"] (ai dS):=⟨rfl,rfl,rfl,by decide +kernel,rfl,by decide +kernel,by decide +kernel⟩
theorem qD (F:Fun K "_law_well" "_law_well" dS f fd) (B:Bu K mg):FnOk P w K mg base CX0 1 f fd ["cell"] lC:=by
  refine F.ok je (fun vs H Q E h=>?_) (fun cdv A outer s H vs Q E hr h=>?_)
  · obtain ⟨x,rfl,_⟩:=h;rfl
  obtain ⟨cell,rfl,q⟩:=h;refine ⟨_,(@ag _ _ _ _ _ (@cA _ _ _ _ _ _ _ _ (@aX _ _ _ _ _ _ _ _ rd (pv 0) (@aq _ _ _ _ _ _ _ _ dB af af) (bt _)) (@am _ _ _ (@az _ _ _ _ (@aD _ _ _ _ (@aa _ _ _ _ _ (pv 0) (@aa _ _ _ _ _ (@aq _ _ _ _ _ _ _ _ d9 (pv 0) af) ad (by rfl)) (by rfl))))) bo) (@am _ _ _ (@az _ _ _ _ (@aD _ _ _ _ (@aa _ _ _ _ _ af (@aa _ _ _ _ _ (@aq _ _ _ _ _ _ _ _ d9 (pv 0) af) ad (by rfl)) (by rfl)))))),?_⟩;have z:=ku cell 2147483629 (by decide);refine ⟨_,rfl,_,_,rfl,rfl,⟨by decide,by decide,by decide⟩,_,_,rfl,rfl,_,rfl,iq (fun _=>?_) (fun _=>?_)⟩
  · exact ⟨_,rfl,_,rfl,_,_,rfl,rfl,(show (0:Int) < 2147483629 by decide),(by show 2≤sizeLine;decide),fun p hp=>q p _ (Same.new hp _) hp ⟨_,_,ac,z.1,z.2⟩⟩
  · exact ⟨_,rfl,_,_,rfl,rfl,(show (0:Int) < 2147483629 by decide),(by show 2≤sizeLine;decide),fun p hp=>q p _ (Same.new hp _) hp ⟨_,_,ac,z.1,z.2⟩⟩
def fM:Sp:=fun vs H Q _=>∃ w m M,vs=[.ref w,.int m]∧0 < m∧m < 2 ^ 63∧Wel H w M∧M < 1000000000∧∀ r H',0≤r→r < m→But w H H'→Wel H' w (M+1)→Q (.int r) H'
abbrev dW:Stmt:=top 42
theorem cK:FnScope ["well","many","got","stirred"] ["well","many"] (ai dW):=⟨rfl,rfl,rfl,by decide +kernel,rfl,by decide +kernel,by decide +kernel⟩
theorem qF (F:Fun K "_law_draw" "_law_draw" dW f fd):FnOk P w K mg base CX0 2 f fd ["well","many"] fM:=by
  refine F.ok cK (fun vs H Q E h=>?_) (fun cdv A outer s H vs Q E hr h=>?_)
  · obtain ⟨x,m,M,rfl,_⟩:=h;rfl
  obtain ⟨wl,m,M,rfl,h0,h1,⟨a,b,e,c0,c1⟩,hM,q⟩:=h;refine ⟨_,(@ag _ _ _ _ _ (@cA _ _ _ _ _ _ _ _ (@aX _ _ _ _ _ _ _ _ tL (@a4 _ _ _ _ _ _ _ aY (pv 0) af (fun _ _=>rfl)) af (bt _)) (@ag _ _ _ _ _ (@aC _ _ (2) _ _ _ _ (cK).nd rfl (Or.inl rfl) (@aq _ _ _ _ _ _ _ _ d9 (@a4 _ _ _ _ _ _ _ aY (pv 0) af (fun _ _=>rfl)) (pv 1)) (by rfl) (by first|exact .inl rfl|exact .inr rfl|assumption)) (@ag _ _ _ _ _ (@dj _ _ _ _ _ _ (@aq _ _ _ _ _ _ _ _ ke (@a4 _ _ _ _ _ _ _ aY (pv 0) af (fun _ _=>rfl)) (pv 1)) (@oP _ _ _ _ _ _ _ (pv 0) af jU (by intro _;rfl)) (by rfl) (by rfl) (by rfl)) (@am _ _ _ (@az _ _ _ _ (pv 2))))) bo) (@ag _ _ _ _ _ (@aC _ _ (3) _ _ _ _ (cK).nd rfl (Or.inl rfl) (@aq _ _ _ _ _ _ _ _ d9 (@aq _ _ _ _ _ _ _ _ cq (@aq _ _ _ _ _ _ _ _ dZ (@a4 _ _ _ _ _ _ _ aY (pv 0) af (fun _ _=>rfl)) af) af) af) (by rfl) (by first|exact .inl rfl|exact .inr rfl|assumption)) (@ag _ _ _ _ _ (@aC _ _ (3) _ _ _ _ (cK).nd rfl (Or.inl rfl) (@aq _ _ _ _ _ _ _ _ d9 (@aq _ _ _ _ _ _ _ _ dZ (pv 3) (pv 3)) af) (by rfl) (by first|exact .inl rfl|exact .inr rfl|assumption)) (@ag _ _ _ _ _ (@dj _ _ _ _ _ _ (@aq _ _ _ _ _ _ _ _ d9 (@aq _ _ _ _ _ _ _ _ cq (@aq _ _ _ _ _ _ _ _ dZ (pv 3) af) af) af) (@oP _ _ _ _ _ _ _ (pv 0) af jU (by intro _;rfl)) (by rfl) (by rfl) (by rfl)) (@am _ _ _ (@az _ _ _ _ (@aq _ _ _ _ _ _ _ _ d9 (@aq _ _ _ _ _ _ _ _ ke (@a4 _ _ _ _ _ _ _ aY (pv 0) af (fun _ _=>rfl)) af) (pv 1)))))))),?_⟩;refine ⟨_,rfl,wl,_,_,_,rfl,rfl,SqL.of e,rfl,_,_,rfl,rfl,_,rfl,iq (fun _=>?_) (fun _=>?_)⟩
  · refine ⟨_,rfl,wl,_,_,_,rfl,rfl,SqL.of e,rfl,_,rfl,_,_,rfl,rfl,h0,?_⟩;refine ⟨_,rfl,wl,_,_,_,rfl,rfl,SqL.of e,rfl,_,rfl,_,_,rfl,rfl,⟨h0,by lia⟩,_,rfl,wl,_,_,0,rfl,rfl,e,rfl,?_⟩;refine ⟨_,rfl,?_⟩;have z:=ku a m h0;exact q _ _ z.1 z.2 But.put ⟨_,_,ac,c0,c1⟩
  · refine ⟨_,rfl,wl,_,_,_,rfl,rfl,SqL.of e,rfl,_,_,rfl,rfl,.inr ⟨by decide,by decide⟩,_,_,rfl,rfl,_,_,rfl,rfl,(show (0:Int) < 2147483647 by decide),?_⟩;refine ⟨_,rfl,_,rfl,_,_,rfl,rfl,.inl ⟨by lia,by lia⟩,_,_,rfl,rfl,(show (0:Int) < 2147483587 by decide),?_⟩;refine ⟨_,rfl,_,_,rfl,rfl,.inr ⟨by decide,by decide⟩,_,_,rfl,rfl,_,_,rfl,rfl,(show (0:Int) < 2147483629 by decide),_,rfl,wl,_,_,1,rfl,rfl,e,rfl,?_⟩;have hd:=ku ((b * 48271+11) % 2147483647 * ((b * 48271+11) % 2147483647) % 2147483587 * 69621+40692) 2147483629 (by decide);refine ⟨_,rfl,wl,_,_,_,rfl,rfl,SqL.of ac,rfl,_,_,rfl,rfl,⟨by decide,by decide⟩,_,rfl,_,_,rfl,rfl,h0,?_⟩;have z:=ku (((b * 48271+11) % 2147483647 * ((b * 48271+11) % 2147483647) % 2147483587 * 69621+40692) % 2147483629 / 8) m h0;exact q _ _ z.1 z.2 But.put ⟨_,_,ac,hd.1,hd.2⟩
open PySem L2
def Small (ns:List Int):Prop:=∀ i∈ns,-1000000000000 < i∧i < 1000000000000
def ou:Sp:=fun vs H Q _=>∃ w n M,vs=[.ref w,.int n]∧0≤n∧n≤20∧Wel H w M∧M < 999990000 ∧
  ∀ p ns H',But w H H'→Wel H' w (M+400)→H p=none→H' p=some (.lst (ns.map V.int))→(ns.length:Int)=n→Small ns→Q (.ref p) H'
theorem j_ {xs:List Int} {r:Int} (h0:0≤r) (h1:r < xs.length):∃ u:Int,atI (xs.map V.int) r=some (.int u)∧u∈xs:=by
  obtain ⟨j,rfl⟩:∃ j:Nat,r=(j:Int):=⟨r.toNat,by lia⟩
  have hj:j < xs.length:=by lia
  exact ⟨xs[j],fH (by rw [aaY,aad hj];rfl),ace hj⟩
theorem pm {k:Int} (h0:0≤k) (h1:k < 2):∃ z:Int,atI [V.int 1,.int (-1)] k=some (.int z)∧(z=1∨z=-1):=by
  have : k=0∨k=1:=by lia
  rcases this with rfl|rfl
  · exact ⟨1,rfl,.inl rfl⟩
  · exact ⟨-1,rfl,.inr rfl⟩
theorem p4 {k:Int} (h0:0≤k) (h1:k < 4):∃ z:Int,atI [V.int (10 ^ (4:Int).toNat),.int (10 ^ (6:Int).toNat),.int (10 ^ (9:Int).toNat),.int (10 ^ (12:Int).toNat)] k=some (.int z)∧0 < z∧z≤1000000000000:=by
  have : k=0∨k=1∨k=2∨k=3:=by lia
  rcases this with rfl|rfl|rfl|rfl <;> exact ⟨_,rfl,by decide,by decide⟩
abbrev fh:Stmt:=top 43
theorem bj:FnScope ["well","many","kind","found","k","some","wide","own"] ["well","many"] (ai fh):=⟨rfl,rfl,rfl,by decide +kernel,rfl,by decide +kernel,by decide +kernel⟩
theorem ss (F:Fun K "_law_row" "_law_row" fh f fd) (B:Bu K mg) (C__law_draw:Cal P w K mg base "_law_draw" 2 ["well","many"] fM):FnOk P w K mg base CX0 3 f fd ["well","many"] ou:=by
  refine F.ok bj (fun vs H Q E h=>?_) (fun cdv A outer s H vs Q E hr h=>?_)
  · obtain ⟨x,m,M,rfl,_⟩:=h;rfl
  obtain ⟨wl,n,M,rfl,h0,h1,hw,hM,q⟩:=h;refine ⟨_,(@ag _ _ _ _ _ (@aC _ _ (2) _ _ _ _ (bj).nd rfl (Or.inl rfl) (@aB _ _ _ _ _ _ _ _ _ _ _ C__law_draw hr (by lia) rfl (@aa _ _ _ _ _ (pv 0) (@aa _ _ _ _ _ af ad (by rfl)) (by rfl)) (by decide) (by rfl) (by rfl)) (by rfl) (by first|exact .inl rfl|exact .inr rfl|assumption)) (@ag _ _ _ _ _ (@aC _ _ (3) _ _ _ _ (bj).nd rfl (Or.inl rfl) (@aD _ _ _ _ ad) (by rfl) (by first|exact .inl rfl|exact .inr rfl|assumption)) (@ag _ _ _ _ _ (@dA _ _ _ _ _ _ _ _ abb rfl (@cO _ _ _ _ _ _ rfl B.irange (@aa _ _ _ _ _ (pv 1) ad (by rfl)) (by rfl)) (@ao _ _ (4) _ (bj).nd rfl (Or.inl rfl) (.inl rfl)) (@ag _ _ _ _ _ (@aC _ _ (5) _ _ _ _ (bj).nd rfl (Or.inl rfl) (@aD _ _ _ _ (@aa _ _ _ _ _ (@aB _ _ _ _ _ _ _ _ _ _ _ C__law_draw hr (by lia) rfl (@aa _ _ _ _ _ (pv 0) (@aa _ _ _ _ _ af ad (by rfl)) (by rfl)) (by decide) (by rfl) (by rfl)) (@aa _ _ _ _ _ (@aq _ _ _ _ _ _ _ _ cc (@aB _ _ _ _ _ _ _ _ _ _ _ C__law_draw hr (by lia) rfl (@aa _ _ _ _ _ (pv 0) (@aa _ _ _ _ _ af ad (by rfl)) (by rfl)) (by decide) (by rfl) (by rfl)) af) (@aa _ _ _ _ _ (@aq _ _ _ _ _ _ _ _ cc (@aB _ _ _ _ _ _ _ _ _ _ _ C__law_draw hr (by lia) rfl (@aa _ _ _ _ _ (pv 0) (@aa _ _ _ _ _ af ad (by rfl)) (by rfl)) (by decide) (by rfl) (by rfl)) af) (@aa _ _ _ _ _ (@aq _ _ _ _ _ _ _ _ cc (@aB _ _ _ _ _ _ _ _ _ _ _ C__law_draw hr (by lia) rfl (@aa _ _ _ _ _ (pv 0) (@aa _ _ _ _ _ af ad (by rfl)) (by rfl)) (by decide) (by rfl) (by rfl)) af) ad (by rfl)) (by rfl)) (by rfl)) (by rfl))) (by rfl) (by first|exact .inl rfl|exact .inr rfl|assumption)) (@ag _ _ _ _ _ (@aC _ _ (5) _ _ _ _ (bj).nd rfl (Or.inl rfl) (@aq _ _ _ _ _ _ _ _ dl (pv 5) (@aD _ _ _ _ (@aa _ _ _ _ _ (@aq _ _ _ _ _ _ _ _ dZ (@aq _ _ _ _ _ _ _ _ cc (@aq _ _ _ _ _ _ _ _ cc (@aq _ _ _ _ _ _ _ _ dB af af) af) (@aB _ _ _ _ _ _ _ _ _ _ _ C__law_draw hr (by lia) rfl (@aa _ _ _ _ _ (pv 0) (@aa _ _ _ _ _ af ad (by rfl)) (by rfl)) (by decide) (by rfl) (by rfl))) (@a4 _ _ _ _ _ _ _ aY (@aD _ _ _ _ (@aa _ _ _ _ _ af (@aa _ _ _ _ _ (@oQ _ _ _ _ _ _ la af) ad (by rfl)) (by rfl))) (@aB _ _ _ _ _ _ _ _ _ _ _ C__law_draw hr (by lia) rfl (@aa _ _ _ _ _ (pv 0) (@aa _ _ _ _ _ af ad (by rfl)) (by rfl)) (by decide) (by rfl) (by rfl)) (fun _ _=>rfl))) (@aa _ _ _ _ _ (@aq _ _ _ _ _ _ _ _ cq af (@aB _ _ _ _ _ _ _ _ _ _ _ C__law_draw hr (by lia) rfl (@aa _ _ _ _ _ (pv 0) (@aa _ _ _ _ _ af ad (by rfl)) (by rfl)) (by decide) (by rfl) (by rfl))) ad (by rfl)) (by rfl)))) (by rfl) (by first|exact .inl rfl|exact .inr rfl|assumption)) (@ag _ _ _ _ _ (@aC _ _ (6) _ _ _ _ (bj).nd rfl (Or.inl rfl) (@aq _ _ _ _ _ _ _ _ cq (@aq _ _ _ _ _ _ _ _ dZ (@aB _ _ _ _ _ _ _ _ _ _ _ C__law_draw hr (by lia) rfl (@aa _ _ _ _ _ (pv 0) (@aa _ _ _ _ _ (@aq _ _ _ _ _ _ _ _ dB af af) ad (by rfl)) (by rfl)) (by decide) (by rfl) (by rfl)) (@aq _ _ _ _ _ _ _ _ dB af af)) (@aB _ _ _ _ _ _ _ _ _ _ _ C__law_draw hr (by lia) rfl (@aa _ _ _ _ _ (pv 0) (@aa _ _ _ _ _ (@aq _ _ _ _ _ _ _ _ dB af af) ad (by rfl)) (by rfl)) (by decide) (by rfl) (by rfl))) (by rfl) (by first|exact .inl rfl|exact .inr rfl|assumption)) (@ag _ _ _ _ _ (@aC _ _ (6) _ _ _ _ (bj).nd rfl (Or.inl rfl) (@aq _ _ _ _ _ _ _ _ dZ (@aq _ _ _ _ _ _ _ _ d9 (pv 6) (@a4 _ _ _ _ _ _ _ aY (@aD _ _ _ _ (@aa _ _ _ _ _ (@aq _ _ _ _ _ _ _ _ dB af af) (@aa _ _ _ _ _ (@aq _ _ _ _ _ _ _ _ dB af af) (@aa _ _ _ _ _ (@aq _ _ _ _ _ _ _ _ dB af af) (@aa _ _ _ _ _ (@aq _ _ _ _ _ _ _ _ dB af af) ad (by rfl)) (by rfl)) (by rfl)) (by rfl))) (@aB _ _ _ _ _ _ _ _ _ _ _ C__law_draw hr (by lia) rfl (@aa _ _ _ _ _ (pv 0) (@aa _ _ _ _ _ af ad (by rfl)) (by rfl)) (by decide) (by rfl) (by rfl)) (fun _ _=>rfl))) (@a4 _ _ _ _ _ _ _ aY (@aD _ _ _ _ (@aa _ _ _ _ _ af (@aa _ _ _ _ _ (@oQ _ _ _ _ _ _ la af) ad (by rfl)) (by rfl))) (@aB _ _ _ _ _ _ _ _ _ _ _ C__law_draw hr (by lia) rfl (@aa _ _ _ _ _ (pv 0) (@aa _ _ _ _ _ af ad (by rfl)) (by rfl)) (by decide) (by rfl) (by rfl)) (fun _ _=>rfl))) (by rfl) (by first|exact .inl rfl|exact .inr rfl|assumption)) (@ag _ _ _ _ _ (@aC _ _ (7) _ _ _ _ (bj).nd rfl (Or.inl rfl) (@aB _ _ _ _ _ _ _ _ _ _ _ C__law_draw hr (by lia) rfl (@aa _ _ _ _ _ (pv 0) (@aa _ _ _ _ _ af ad (by rfl)) (by rfl)) (by decide) (by rfl) (by rfl)) (by rfl) (by first|exact .inl rfl|exact .inr rfl|assumption)) (@am _ _ _ (@cz _ _ _ _ (@gG _ _ _ _ _ _ _ _ _ _ _ _ aa3 abm abn dq (pv 3) (@aa _ _ _ _ _ (@a4 _ _ _ _ _ _ _ aY (@aq _ _ _ _ _ _ _ _ dl (pv 5) (@aD _ _ _ _ (@aa _ _ _ _ _ (@a4 _ _ _ _ _ _ _ aY (@aq _ _ _ _ _ _ _ _ dl (pv 3) (pv 5)) af (fun _ _=>rfl)) (@aa _ _ _ _ _ (pv 6) ad (by rfl)) (by rfl)))) (@a4 _ _ _ _ _ _ _ aY (@aD _ _ _ _ (@aa _ _ _ _ _ (pv 2) (@aa _ _ _ _ _ (pv 7) ad (by rfl)) (by rfl))) (@iN _ _ _ _ _ _ _ _ _ oj rfl B.iint PyProof.Rows.boot_int (@aa _ _ _ _ _ (@mz _ _ _ _ _ _ _ _ fD (pv 2) af (bt _)) ad (by rfl)) (by decide) (by decide) (by rfl) (by rfl)) (fun _ _=>rfl)) (fun _ _=>rfl)) ad (by rfl)) (by rfl) (by rfl) (by rfl) (by rfl) (by rfl)) (by rfl)))))))) (by intro _;rfl)) (@am _ _ _ (@az _ _ _ _ (pv 3)))))),?_⟩;have t1:(1:Nat)≤sizeLine:=by decide
  have t2:(2:Nat)≤sizeLine:=by decide
  have t4:(4:Nat)≤sizeLine:=by decide
  refine ⟨_,rfl,wl,9,_,rfl,by decide,by decide,hw,by lia,fun kd H1 kd0 kd1 g1 w1=>?_⟩;refine ⟨(by show 0≤sizeLine;decide),fun pf nf=>?_⟩;have nfw:=w1.ne nf;have hfree:H pf=none:=But.free g1 w1 nf;refine ⟨_,rfl,n,rfl,by lia,by lia,iV (n:=n.toNat) (fun j σ H'=>∃ (ns:List Int) (c4 c5 c6 c7:Option V),σ=[some (.ref wl),some (.int n),some (.int kd),some (.ref pf),c4,c5,c6,c7]∧H' pf=some (.lst (ns.map V.int))∧ns.length=j∧Small ns∧But wl H1 H'∧Wel H' wl (M+1+15 * j)) ⟨[],_,_,_,_,rfl,ac,rfl,(fun _ z=>nomatch z),But.new nf _,(w1.keep (Same.new nf _) (aaK _)).more (by lia)⟩ ?_ ?_⟩
  · rintro j σ K0 hj ⟨ns,c4,c5,c6,c7,rfl,ef,hl,hs,bb,u0⟩;refine ⟨_,rfl,wl,10,_,rfl,by decide,by decide,u0,by lia,fun r1 K1 r1a r1b b0 u1=>?_⟩;refine ⟨_,rfl,wl,3,_,rfl,by decide,by decide,u1,by lia,fun r2 K2 r2a r2b b1 u2=>⟨_,_,rfl,rfl,?_⟩⟩;refine ⟨_,rfl,wl,13,_,rfl,by decide,by decide,u2,by lia,fun r3 K3 r3a r3b b2 u3=>⟨_,_,rfl,rfl,?_⟩⟩;refine ⟨_,rfl,wl,1999,_,rfl,by decide,by decide,u3,by lia,fun r4 K4 r4a r4b b3 u4=>⟨_,_,rfl,rfl,?_⟩⟩;refine ⟨t4,fun q1 m1=>?_⟩;have y4:=Same.new m1 (.lst [V.int r1,.int (r2 - 1),.int (r3 - 6),.int (r4 - 999)]);have nq_q1:=u4.ne m1;have u5:=u4.keep y4 (aaK _);have e_q1:=ac (H:=K4) (a:=q1) (o:=.lst [V.int r1,.int (r2 - 1),.int (r3 - 6),.int (r4 - 999)]);revert y4 u5 e_q1;generalize upd K4 q1 (.lst [V.int r1,.int (r2 - 1),.int (r3 - 6),.int (r4 - 999)])=K5;intro y4 u5 e_q1;have b4:But wl K4 K5:=But.of y4;refine ⟨_,rfl,10,12,rfl,rfl,⟨by decide,by decide,by decide⟩,_,_,rfl,rfl,?_⟩;refine ⟨_,rfl,wl,99,_,rfl,by decide,by decide,u5,by lia,fun r5 K6 r5a r5b b5 u6=>⟨_,_,rfl,rfl,?_⟩⟩;refine ⟨_,rfl,t2,fun q2 m2=>?_⟩;have y6:=Same.new m2 (.lst [V.int 1,.int (-1)]);have nq_q2:=u6.ne m2;have u7:=u6.keep y6 (aaK _);have e_q2:=ac (H:=K6) (a:=q2) (o:=.lst [V.int 1,.int (-1)]);revert y6 u7 e_q2;generalize upd K6 q2 (.lst [V.int 1,.int (-1)])=K7;intro y6 u7 e_q2;have b6:But wl K6 K7:=But.of y6;refine ⟨_,rfl,wl,2,_,rfl,by decide,by decide,u7,by lia,fun r6 K8 r6a r6b b7 u8=>?_⟩;obtain ⟨s1,hs1,vs1⟩:=pm r6a r6b;have p12:(10:Int) ^ (12:Int).toNat=1000000000000:=by decide
    rw [p12];refine ⟨q2,_,_,_,rfl,rfl,SqL.of (b7 _ _ nq_q2 e_q2),hs1,_,_,rfl,rfl,.inr ⟨by lia,by lia⟩,?_⟩;refine ⟨_,rfl,wl,9,_,rfl,by decide,by decide,u8,by lia,fun r7 K9 r7a r7b b8 u9=>⟨_,_,rfl,rfl,?_⟩⟩;refine ⟨t2,fun q3 m3=>?_⟩;have y9:=Same.new m3 (.lst [V.int ((1000000000000 - 1 - r5) * s1),.int (1+r7)]);have nq_q3:=u9.ne m3;have u10:=u9.keep y9 (aaK _);have e_q3:=ac (H:=K9) (a:=q3) (o:=.lst [V.int ((1000000000000 - 1 - r5) * s1),.int (1+r7)]);revert y9 u10 e_q3;generalize upd K9 q3 (.lst [V.int ((1000000000000 - 1 - r5) * s1),.int (1+r7)])=K10;intro y9 u10 e_q3;have b9:But wl K9 K10:=But.of y9;refine ⟨q1,q3,_,_,rfl,rfl,((b5.trans (b6.trans (b7.trans (b8.trans b9)))) _ _ nq_q1 e_q1),e_q3,cr (by show 4+2≤1000;decide),fun q4 m4=>?_⟩;have y10:=Same.new m4 (.lst ([V.int r1,.int (r2 - 1),.int (r3 - 6),.int (r4 - 999)]++[V.int ((1000000000000 - 1 - r5) * s1),.int (1+r7)]));have nq_q4:=u10.ne m4;have u11:=u10.keep y10 (aaK _);have e_q4:=ac (H:=K10) (a:=q4) (o:=.lst ([V.int r1,.int (r2 - 1),.int (r3 - 6),.int (r4 - 999)]++[V.int ((1000000000000 - 1 - r5) * s1),.int (1+r7)]));revert y10 u11 e_q4;generalize upd K10 q4 (.lst ([V.int r1,.int (r2 - 1),.int (r3 - 6),.int (r4 - 999)]++[V.int ((1000000000000 - 1 - r5) * s1),.int (1+r7)]))=K11;intro y10 u11 e_q4;have b10:But wl K10 K11:=But.of y10;have p6:(10:Int) ^ (6:Int).toNat=1000000:=by decide
    refine ⟨_,rfl,10,6,rfl,rfl,⟨by decide,by decide,by decide⟩,wl,_,_,rfl,(by decide),(by decide),u11,by lia,fun r8 K12 r8a r8b b11 u12=>⟨10,6,rfl,rfl,⟨by decide,by decide,by decide⟩,_,_,rfl,rfl,.inr ⟨by decide,by decide⟩,?_⟩⟩;refine ⟨_,rfl,10,6,rfl,rfl,⟨by decide,by decide,by decide⟩,wl,_,_,rfl,(by decide),(by decide),u12,by lia,fun r9 K13 r9a r9b b12 u13=>⟨_,_,rfl,rfl,?_⟩⟩;refine ⟨_,rfl,10,4,rfl,rfl,⟨by decide,by decide,by decide⟩,10,6,rfl,rfl,⟨by decide,by decide,by decide⟩,10,9,rfl,rfl,⟨by decide,by decide,by decide⟩,10,12,rfl,rfl,⟨by decide,by decide,by decide⟩,t4,fun q5 m5=>?_⟩;have y13:=Same.new m5 (.lst [V.int (10 ^ (4:Int).toNat),.int (10 ^ (6:Int).toNat),.int (10 ^ (9:Int).toNat),.int (10 ^ (12:Int).toNat)]);have nq_q5:=u13.ne m5;have u14:=u13.keep y13 (aaK _);have e_q5:=ac (H:=K13) (a:=q5) (o:=.lst [V.int (10 ^ (4:Int).toNat),.int (10 ^ (6:Int).toNat),.int (10 ^ (9:Int).toNat),.int (10 ^ (12:Int).toNat)]);revert y13 u14 e_q5;generalize upd K13 q5 (.lst [V.int (10 ^ (4:Int).toNat),.int (10 ^ (6:Int).toNat),.int (10 ^ (9:Int).toNat),.int (10 ^ (12:Int).toNat)])=K14;intro y13 u14 e_q5;have b13:But wl K13 K14:=But.of y13;refine ⟨_,rfl,wl,4,_,rfl,by decide,by decide,u14,by lia,fun r10 K15 r10a r10b b14 u15=>?_⟩;obtain ⟨md,hmd,md0,md1⟩:=p4 r10a r10b;refine ⟨q5,_,_,_,rfl,rfl,SqL.of (b14 _ _ nq_q5 e_q5),hmd,_,_,rfl,rfl,md0,_,rfl,t2,fun q6 m6=>?_⟩;have y15:=Same.new m6 (.lst [V.int 1,.int (-1)]);have nq_q6:=u15.ne m6;have u16:=u15.keep y15 (aaK _);have e_q6:=ac (H:=K15) (a:=q6) (o:=.lst [V.int 1,.int (-1)]);revert y15 u16 e_q6;generalize upd K15 q6 (.lst [V.int 1,.int (-1)])=K16;intro y15 u16 e_q6;have b15:But wl K15 K16:=But.of y15;refine ⟨_,rfl,wl,2,_,rfl,by decide,by decide,u16,by lia,fun r11 K17 r11a r11b b16 u17=>?_⟩;obtain ⟨s2,hs2,vs2⟩:=pm r11a r11b;have hwd:=ku (r8 * 10 ^ (6:Int).toNat+r9) md md0;refine ⟨q6,_,_,_,rfl,rfl,SqL.of (b16 _ _ nq_q6 e_q6),hs2,_,_,rfl,rfl,.inr ⟨by lia,by lia⟩,?_⟩;refine ⟨_,rfl,wl,8,_,rfl,by decide,by decide,u17,by lia,fun r12 K18 r12a r12b b17 u18=>?_⟩;refine ⟨_,rfl,.inl ⟨rfl,_,SqL.of ((b0.trans (b1.trans (b2.trans (b3.trans (b4.trans (b5.trans (b6.trans (b7.trans (b8.trans (b9.trans (b10.trans (b11.trans (b12.trans (b13.trans (b14.trans (b15.trans (b16.trans b17))))))))))))))))) _ _ nfw ef)⟩,_,rfl,_,rfl,_,rfl,?_⟩;refine ⟨pf,q4,_,_,rfl,rfl,((b0.trans (b1.trans (b2.trans (b3.trans (b4.trans (b5.trans (b6.trans (b7.trans (b8.trans (b9.trans (b10.trans (b11.trans (b12.trans (b13.trans (b14.trans (b15.trans (b16.trans b17))))))))))))))))) _ _ nfw ef),((b11.trans (b12.trans (b13.trans (b14.trans (b15.trans (b16.trans b17)))))) _ _ nq_q4 e_q4),cr (by rw [aan];show _+6≤1000;lia),fun q7 m7=>?_⟩;have eall:ns.map V.int++([V.int r1,.int (r2 - 1),.int (r3 - 6),.int (r4 - 999)]++[V.int ((1000000000000 - 1 - r5) * s1),.int (1+r7)])=(ns++[r1,r2 - 1,r3 - 6,r4 - 999,(1000000000000 - 1 - r5) * s1,1+r7]).map V.int:=by rw [aaS];rfl
    rw [eall];have y18:=Same.new m7 (.lst ((ns++[r1,r2 - 1,r3 - 6,r4 - 999,(1000000000000 - 1 - r5) * s1,1+r7]).map V.int));have nq_q7:=u18.ne m7;have u19:=u18.keep y18 (aaK _);have e_q7:=ac (H:=K18) (a:=q7) (o:=.lst ((ns++[r1,r2 - 1,r3 - 6,r4 - 999,(1000000000000 - 1 - r5) * s1,1+r7]).map V.int));revert y18 u19 e_q7;generalize upd K18 q7 (.lst ((ns++[r1,r2 - 1,r3 - 6,r4 - 999,(1000000000000 - 1 - r5) * s1,1+r7]).map V.int))=K19;intro y18 u19 e_q7;have b18:But wl K18 K19:=But.of y18;obtain ⟨x0,hx0,mx0⟩:=j_ (xs:=(ns++[r1,r2 - 1,r3 - 6,r4 - 999,(1000000000000 - 1 - r5) * s1,1+r7])) (r:=0) (by decide) (by rw [aao];simp only [aaB,aaV];lia);refine ⟨q7,_,_,_,rfl,rfl,SqL.of e_q7,hx0,_,rfl,t2,fun q8 m8=>?_⟩;have y19:=Same.new m8 (.lst [V.int x0,.int ((r8 * 10 ^ (6:Int).toNat+r9) % md * s2)]);have nq_q8:=u19.ne m8;have u20:=u19.keep y19 (aaK _);have e_q8:=ac (H:=K19) (a:=q8) (o:=.lst [V.int x0,.int ((r8 * 10 ^ (6:Int).toNat+r9) % md * s2)]);revert y19 u20 e_q8;generalize upd K19 q8 (.lst [V.int x0,.int ((r8 * 10 ^ (6:Int).toNat+r9) % md * s2)])=K20;intro y19 u20 e_q8;have b19:But wl K19 K20:=But.of y19;refine ⟨q4,q8,_,_,rfl,rfl,((b11.trans (b12.trans (b13.trans (b14.trans (b15.trans (b16.trans (b17.trans (b18.trans b19)))))))) _ _ nq_q4 e_q4),e_q8,cr (by show 6+2≤1000;decide),fun q9 m9=>?_⟩;have e8:[V.int r1,.int (r2 - 1),.int (r3 - 6),.int (r4 - 999)]++[V.int ((1000000000000 - 1 - r5) * s1),.int (1+r7)]++[V.int x0,.int ((r8 * 10 ^ (6:Int).toNat+r9) % md * s2)]=([r1,r2 - 1,r3 - 6,r4 - 999,(1000000000000 - 1 - r5) * s1,1+r7,x0,(r8 * 10 ^ (6:Int).toNat+r9) % md * s2]:List Int).map V.int:=rfl;rw [e8];have y20:=Same.new m9 (.lst (([r1,r2 - 1,r3 - 6,r4 - 999,(1000000000000 - 1 - r5) * s1,1+r7,x0,(r8 * 10 ^ (6:Int).toNat+r9) % md * s2]:List Int).map V.int));have nq_q9:=u20.ne m9;have u21:=u20.keep y20 (aaK _);have e_q9:=ac (H:=K20) (a:=q9) (o:=.lst (([r1,r2 - 1,r3 - 6,r4 - 999,(1000000000000 - 1 - r5) * s1,1+r7,x0,(r8 * 10 ^ (6:Int).toNat+r9) % md * s2]:List Int).map V.int));revert y20 u21 e_q9;generalize upd K20 q9 (.lst (([r1,r2 - 1,r3 - 6,r4 - 999,(1000000000000 - 1 - r5) * s1,1+r7,x0,(r8 * 10 ^ (6:Int).toNat+r9) % md * s2]:List Int).map V.int))=K21;intro y20 u21 e_q9;have b20:But wl K20 K21:=But.of y20;refine ⟨_,rfl,_,rfl,t2,fun qa ma=>?_⟩;have y21:=Same.new ma (.lst [V.int kd,.int r12]);have nq_qa:=u21.ne ma;have u22:=u21.keep y21 (aaK _);have e_qa:=ac (H:=K21) (a:=qa) (o:=.lst [V.int kd,.int r12]);revert y21 u22 e_qa;generalize upd K21 qa (.lst [V.int kd,.int r12])=K22;intro y21 u22 e_qa;have b21:But wl K21 K22:=But.of y21;have ix:∃ z:Int,atI [V.int kd,.int r12] (if decide (V.int kd=V.int 8)=true then 1 else 0)=some (.int z)∧0≤z∧z < 8:=by
      by_cases c:kd=8
      · exact ⟨r12,by rw [decide_eq_true (by rw [c])];rfl,r12a,r12b⟩
      · exact ⟨kd,by rw [decide_eq_false (fun e=>c (by injection e))];rfl,kd0,by lia⟩
    obtain ⟨zi,hzi,zi0,zi1⟩:=ix;obtain ⟨el,hel,mel⟩:=j_ (xs:=[r1,r2 - 1,r3 - 6,r4 - 999,(1000000000000 - 1 - r5) * s1,1+r7,x0,(r8 * 10 ^ (6:Int).toNat+r9) % md * s2]) zi0 zi1;refine ⟨_,rfl,rfl,.inr ⟨_,rfl,qa,_,_,_,rfl,rfl,SqL.of e_qa,hzi,q9,_,_,_,rfl,rfl,SqL.of (b21 _ _ nq_q9 e_q9),hel,pf,_,_,rfl,rfl,((b0.trans (b1.trans (b2.trans (b3.trans (b4.trans (b5.trans (b6.trans (b7.trans (b8.trans (b9.trans (b10.trans (b11.trans (b12.trans (b13.trans (b14.trans (b15.trans (b16.trans (b17.trans (b18.trans (b19.trans (b20.trans b21))))))))))))))))))))) _ _ nfw ef),aU (by rw [aan];lia),?_⟩⟩;have sm5:-1000000000000 < (1000000000000 - 1 - r5) * s1∧(1000000000000 - 1 - r5) * s1 < 1000000000000:=by rcases vs1 with rfl|rfl <;> lia
    have smw:-1000000000000 < (r8 * 10 ^ (6:Int).toNat+r9) % md * s2∧(r8 * 10 ^ (6:Int).toNat+r9) % md * s2 < 1000000000000:=by rcases vs2 with rfl|rfl <;> lia
    have sm1:∀ x∈[r1,r2 - 1,r3 - 6,r4 - 999,(1000000000000 - 1 - r5) * s1,1+r7],-1000000000000 < x∧x < 1000000000000:=fun x hx=>by
      simp only [aaj,aa6,or_false] at hx;rcases hx with rfl|rfl|rfl|rfl|rfl|rfl <;> first|exact sm5|lia
    have sx0:-1000000000000 < x0∧x0 < 1000000000000:=(aap.mp mx0).elim (hs x0) (sm1 x0);have sel:-1000000000000 < el∧el < 1000000000000:=by
      simp only [aaj,aa6,or_false] at mel;rcases mel with rfl|rfl|rfl|rfl|rfl|rfl|rfl|rfl <;> first|exact sm5|exact sx0|exact smw|lia
    refine ⟨ns++[el],_,_,_,_,rfl,by rw [ac,aaS];rfl,by rw [aao,hl];rfl,fun x hx=>(aap.mp hx).elim (hs x) fun z=>by rw [aak.mp z];exact sel,?_,?_⟩
    · exact fun c o nc hc=>by
        by_cases z:c=pf
        · subst z;rw [nf] at hc;cases hc
        · rw [aj z];exact (bb.trans (b0.trans (b1.trans (b2.trans (b3.trans (b4.trans (b5.trans (b6.trans (b7.trans (b8.trans (b9.trans (b10.trans (b11.trans (b12.trans (b13.trans (b14.trans (b15.trans (b16.trans (b17.trans (b18.trans (b19.trans (b20.trans b21)))))))))))))))))))))) c o nc hc
    · obtain ⟨wa,wb,we,wf,wg⟩:=u22;exact ⟨wa,wb,by rw [aj (abt nfw)];exact we,wf,wg⟩
  · rintro σ K1 ⟨ns,c4,c5,c6,c7,rfl,ef,hl,hs,bb,u0⟩;exact ⟨_,rfl,q pf ns K1 (g1.trans bb) (u0.more (by lia)) hfree ef (by lia) hs⟩
def fO:List V:=[.str "+",.str "-",.str "*",.str "+-",.str "+*",.str "-*",.str "+-*"]
def cw (gs:List Sg):Prop:=inV (.str (aw gs)) fO=true
def eZ:Sp:=fun vs H Q _=>∃ w M,vs=[.ref w]∧Wel H w M∧M < 999990000∧∀ gs H',1≤gs.length→gs.length≤3→cw gs→But w H H'→Wel H' w (M+1)→Q (.str (aw gs)) H'
theorem uO {k:Int} (h0:0≤k) (h1:k < 8):∃ gs:List Sg,atI [V.str "+",.str "-",.str "*",.str "+-",.str "+*",.str "-*",.str "+-*",.str "+-*"] k=some (.str (aw gs))∧1≤gs.length∧gs.length≤3∧cw gs:=by
  have : k=0∨k=1∨k=2∨k=3∨k=4∨k=5∨k=6∨k=7:=by lia
  rcases this with rfl|rfl|rfl|rfl|rfl|rfl|rfl|rfl
  · exact ⟨[.plus],by rfl,by decide,by decide,by unfold cw;decide +kernel⟩
  · exact ⟨[.minus],by rfl,by decide,by decide,by unfold cw;decide +kernel⟩
  · exact ⟨[.times],by rfl,by decide,by decide,by unfold cw;decide +kernel⟩
  · exact ⟨[.plus,.minus],by rfl,by decide,by decide,by unfold cw;decide +kernel⟩
  · exact ⟨[.plus,.times],by rfl,by decide,by decide,by unfold cw;decide +kernel⟩
  · exact ⟨[.minus,.times],by rfl,by decide,by decide,by unfold cw;decide +kernel⟩
  · exact ⟨[.plus,.minus,.times],by rfl,by decide,by decide,by unfold cw;decide +kernel⟩
  · exact ⟨[.plus,.minus,.times],by rfl,by decide,by decide,by unfold cw;decide +kernel⟩
abbrev dy:Stmt:=top 44
theorem ij:FnScope ["well"] ["well"] (ai dy):=⟨rfl,rfl,rfl,by decide +kernel,rfl,by decide +kernel,by decide +kernel⟩
theorem jp (F:Fun K "_law_signs" "_law_signs" dy f fd) (C__law_draw:Cal P w K mg base "_law_draw" 2 ["well","many"] fM):FnOk P w K mg base CX0 3 f fd ["well"] eZ:=by
  refine F.ok ij (fun vs H Q E h=>?_) (fun cdv A outer s H vs Q E hr h=>?_)
  · obtain ⟨x,M,rfl,_⟩:=h;rfl
  obtain ⟨wl,M,rfl,hw,hM,q⟩:=h;refine ⟨_,(@am _ _ _ (@az _ _ _ _ (@a4 _ _ _ _ _ _ _ aY (@aD _ _ _ _ (@aa _ _ _ _ _ ay (@aa _ _ _ _ _ ay (@aa _ _ _ _ _ ay (@aa _ _ _ _ _ ay (@aa _ _ _ _ _ ay (@aa _ _ _ _ _ ay (@aa _ _ _ _ _ ay (@aa _ _ _ _ _ ay ad (by rfl)) (by rfl)) (by rfl)) (by rfl)) (by rfl)) (by rfl)) (by rfl)) (by rfl))) (@aB _ _ _ _ _ _ _ _ _ _ _ C__law_draw hr (by lia) rfl (@aa _ _ _ _ _ (pv 0) (@aa _ _ _ _ _ af ad (by rfl)) (by rfl)) (by decide) (by rfl) (by rfl)) (fun _ _=>rfl)))),?_⟩;refine ⟨(by show 8≤sizeLine;decide),fun p1 n1=>?_⟩;have w1:=hw.keep (Same.new n1 (.lst [.str "+",.str "-",.str "*",.str "+-",.str "+*",.str "-*",.str "+-*",.str "+-*"])) (aaK _);refine ⟨_,rfl,wl,8,_,rfl,by decide,by decide,w1,by lia,fun r1 H1 a1 b1 g1 w2=>?_⟩;obtain ⟨gs,hg,l1,l2,l3⟩:=uO a1 b1;exact ⟨p1,_,_,_,rfl,rfl,SqL.of (g1 _ _ (hw.ne n1) ac),hg,q gs H1 l1 l2 l3 ((But.new n1 _).trans g1) w2⟩
end
open PySem L2
structure Cp (K:aab) (mg:Str→Option Value) (tk:Tok) (aP:Addr):Prop where
  gMOST_NUMBERS:mg "MOST_NUMBERS" = some (.int 9 tk)
  gSIGNS_TO_PUT:mg "SIGNS_TO_PUT" = some (.ref aP)
  sSIGNS_TO_PUT:∀ H,SqT K H aP fO
theorem PairsIn.mono {H H':Hp} (t:Tups H H'):∀ {ps:List (Int × Int)} {vs:List V},PairsIn H ps vs→PairsIn H' ps vs
  | _,_,.nil=>.nil
  | _,_,.cons ⟨a,e,h⟩ b=>.cons ⟨a,e,t _ _ h⟩ (PairsIn.mono t b)
theorem PairsIn.app {H:Hp} {ps qs:List (Int × Int)} {vs us:List V} (a:PairsIn H ps vs) (b:PairsIn H qs us):PairsIn H (ps++qs) (vs++us):=by
  induction a with
  | nil=>exact b
  | cons x _ ih=>exact .cons x ih
theorem PairsIn.snoc {H:Hp} {ps:List (Int × Int)} {vs:List V} {p:Int × Int} {v:V} (h:PairsIn H ps vs) (x:PairIn H p v):PairsIn H (ps++[p]) (vs++[v]):=PairsIn.app h (.cons x .nil)
def sfR (n m:Nat):List (Int × Int):=(abd (n - m)).map fun (f:Nat)=>((f:Int),((f+m:Nat):Int))
def sfl (n i:Nat):List (Int × Int):=(abd i).flatMap fun m=>sfR n m
theorem jS (n i:Nat):sfl n (i+1)=sfl n i++sfR n i:=by
  unfold sfl;rw [List.range_succ,List.flatMap_append];simp
theorem jd (n i:Nat):(sfl n i).length≤i * n:=by
  induction i with
  | zero=>simp [sfl]
  | succ i ih =>
    rw [jS,aao];have : (sfR n i).length≤n:=by simp [sfR]
    rw [Nat.succ_mul];lia
theorem gr (n:Nat) (a b:Nat) (h1:a≤b) (h2:b < n):((a:Int),(b:Int))∈sfl n n:=by
  unfold sfl sfR;rw [abp];refine ⟨b - a,aa9.mpr (by lia),?_⟩;rw [List.mem_map];refine ⟨a,aa9.mpr (by lia),?_⟩;have : a+(b - a)=b:=by lia
  rw [this]
def bS:PyData→Bool
  | .int _=>true
  | _=>false
def bh:PyData→Bool
  | .list ds=>decide (1≤ds.length) && decide (ds.length≤9) && ds.all bS
  | _=>false
def bX:PyData→Bool
  | .str z=>inV (.str z) fO
  | _=>false
theorem pY {H:Hp}:∀ {ds:List PyData} {vs:List V},DatAll H ds vs→∀ {i:Nat} {x:V},vs[i]?=some x→∃ d,ds[i]?=some d∧Dat H d x
  | [],vs,h,i,x,e=>by simp only [DatAll] at h;subst h;simp at e
  | d :: ds,vs,h,i,x,e=>by
    simp only [DatAll] at h;obtain ⟨v,r,rfl,h1,h2⟩:=h;cases i with
    | zero=>simp at e;subst e;exact ⟨d,rfl,h1⟩
    | succ i=>exact pY h2 (by simpa using e)
theorem pz (d:PyData):decide (lg d = "int")=bS d:=by cases d <;> rfl
section
variable {P:Program} {w:World} {K:aab} {mg:Str→Option Value} {base:Heap} {f:Addr} {fd:FuncData}
def rR:Sp:=fun vs H Q _=>∃ n:Nat,vs=[.int n]∧n≤9∧∀ p us H',Same H H'→H p=none→H' p=some (.lst us)→PairsIn H' (sfl n n) us→Q (.ref p) H'
abbrev cF:Stmt:=top 21
theorem fP:FnScope ["many"] ["many"] (ai cF):=⟨rfl,rfl,rfl,by decide +kernel,rfl,by decide +kernel,by decide +kernel⟩
theorem fT (F:Fun K "shorter_first" "shorter_first" cF f fd) (B:Bu K mg):FnOk P w K mg base CX0 1 f fd ["many"] rR:=by
  refine F.ok fP (fun vs H Q E h=>?_) (fun cdv A outer s H vs Q E hr h=>?_)
  · obtain ⟨l,rfl,_⟩:=h;rfl
  obtain ⟨n,rfl,h9,q⟩:=h;refine ⟨_,(@am _ _ _ (@az _ _ _ _ (@si _ _ _ _ _ _ _ _ _ _ _ (["more","first","many"]) ([none,none,some 0]) _ _ _ _ _ _ _ rfl (@cO _ _ _ _ _ _ rfl B.irange (@aa _ _ _ _ _ (pv 0) ad (by rfl)) (by rfl)) rfl ⟨rfl,trivial⟩ ⟨⟨rfl,Or.inl rfl,Or.inl rfl⟩,trivial⟩ (fun _ _ _ _=>⟨(@ao _ _ (0) _ (show aaX (["more","first","many"]:List Str) by decide +kernel) rfl (Or.inl rfl) (.inr rfl)),bY,(@cO _ _ _ _ _ _ rfl B.irange (@aa _ _ _ _ _ (@aq _ _ _ _ _ _ _ _ cc (pv 2) (pv 0)) ad (by rfl)) (by rfl)),(@ao _ _ (1) _ (show aaX (["more","first","many"]:List Str) by decide +kernel) rfl (Or.inl rfl) (.inr rfl)),bY,(@bK _ _ _ _ _ (@aa _ _ _ _ _ (pv 1) (@aa _ _ _ _ _ (@aq _ _ _ _ _ _ _ _ cq (pv 1) (pv 0)) ad (by rfl)) (by rfl)))⟩) (by rfl) (by rfl) (by rfl) (by rfl) (by intro _;rfl) (by intro _ _;rfl)))),?_⟩;refine ⟨_,rfl,n,rfl,by lia,by lia,?_⟩;refine sD (Trn.range (lo:=0) (n:=(n:Int).toNat)) (fun i ys H'=>Same H H'∧PairsIn H' (sfl n i) ys) ⟨Same.refl _,.nil⟩ (fun i ys H' hi p=>trivial) (fun i x ys H1 H' hi hx p Nx nx=>?_) (fun ys H' p p5 n5=>?_)
  · obtain ⟨rfl,rfl⟩:=hx;obtain ⟨S,hp⟩:=p;have hl:=hp.length;have hb:=jd n i;have hn:(n:Int).toNat=n:=by lia
    have hin:i < n:=by lia
    have hb2:i * n≤9 * 9:=abH (by lia) h9;have en:((n:Int) - (0+(i:Int))).toNat=n - i:=by lia
    refine ⟨_,rfl,_,rfl,_,_,rfl,rfl,(n:Int) - (0+(i:Int)),rfl,by lia,by lia,?_⟩;refine sy (Trn.range (lo:=0) (n:=((n:Int) - (0+(i:Int))).toNat)) (fun j zs σ H2=>Same H H2∧(∃ c,σ=[some (.int (0+(i:Int))),c,some (.int n)])∧PairsIn H2 (sfl n i++(sfR n i).take j) zs) ⟨S,⟨_,rfl⟩,by simpa using hp⟩ (fun j zs σ H2 hj p=>⟨trivial,aU (by have:=p.2.2.length;rw [← this,aao,aaE];lia)⟩) (fun j x zs σ H2 H3 hj hx p Ny ny=>?_) (fun zs σ H2 p=>?_)
    · obtain ⟨rfl,rfl⟩:=hx;obtain ⟨S2,⟨c,rfl⟩,hp2⟩:=p;refine ⟨_,rfl,_,rfl,_,rfl,_,_,rfl,rfl,(by show 2≤sizeLine;decide),fun t ht=>ny _ _ _ ⟨S2.trans (Same.new ht _),⟨_,rfl⟩,?_⟩⟩;have s3:=Same.new ht (.tup [.int (0+(j:Int)),.int (0+(j:Int)+(0+(i:Int)))]);have e:(sfR n i).take (j+1)=(sfR n i).take j++[(((j:Nat):Int),((j+i:Nat):Int))]:=by
        rw [aa7];have : (sfR n i)[j]?=some (((j:Nat):Int),((j+i:Nat):Int)):=by
          unfold sfR;rw [aaY,List.getElem?_range (by lia)];rfl
        rw [this];rfl
      rw [e,← abB];refine PairsIn.snoc (PairsIn.mono (Tups.of s3) hp2) ⟨t,rfl,?_⟩;rw [ac];have e1:(0:Int)+(j:Int)=((j:Nat):Int):=by lia
      have e2:(0:Int)+(j:Int)+(0+(i:Int))=((j+i:Nat):Int):=by lia
      show some (HO.tup [V.int (0+(j:Int)),V.int (0+(j:Int)+(0+(i:Int)))])=some (HO.tup [V.int ((j:Nat):Int),V.int ((j+i:Nat):Int)]);rw [e2,e1]
    · obtain ⟨S2,⟨c,rfl⟩,hp2⟩:=p;refine nx _ _ ⟨S2,?_⟩;rw [en,abw (by simp [sfR]),← jS] at hp2;exact hp2
  · obtain ⟨S,hp⟩:=p;have hn:(n:Int).toNat=n:=by lia
    rw [hn] at hp;have s5:=Same.new n5 (.lst ys);exact q p5 ys _ (S.trans s5) (S.free n5) ac (PairsIn.mono (Tups.of s5) hp)
def eB:PyData→Bool
  | .list _=>true
  | _=>false
theorem tN {d:PyData} (h:eB d=false):bh d=false:=by cases d <;> first|rfl|simp [eB] at h
theorem pi {d:PyData} {K:aab}:aaC K (.type (lg d)) (.type "list")=some (eB d):=by cases d <;> rfl
def ja:Sp:=fun vs H Q _=>∃ d v,vs=[v]∧Dat H d v∧∀ H',Same H H'→Q (.bl (bh d)) H'
abbrev gB:Stmt:=top 17
theorem ng:FnScope ["thing"] ["thing"] (ai gB):=⟨rfl,rfl,rfl,by decide +kernel,rfl,by decide +kernel,by decide +kernel⟩
theorem nC {tk:Tok} {aP:Addr} (F:Fun K "is_row" "is_row" gB f fd) (B:Bu K mg) (B3:Cp K mg tk aP) (C_is_whole:Cal P w K mg base "is_whole" 1 ["thing"] (i_ K)):FnOk P w K mg base CX0 2 f fd ["thing"] ja:=by
  refine F.ok ng (fun vs H Q E h=>?_) (fun cdv A outer s H vs Q E hr h=>?_)
  · obtain ⟨x,v,rfl,_⟩:=h;rfl
  obtain ⟨d,v,rfl,hd,q⟩:=h;refine ⟨_,(@ag _ _ _ _ _ (@cA _ _ _ _ _ _ _ _ (@PW.pt _ _ _ (@oG _ _ _ _ _ _ _ (@gC _ _ _ _ (@jf _ _ _ (@ax _ _ _ _ _ _ _ _ _ (@de _ ("list")) rfl B.iisinstance aaw (@aa _ _ _ _ _ (pv 0) (@aa _ _ _ _ _ (@fC _ _ (.ty "list") _ _ rfl B.ilist PyProof.Rows.boot_list rfl (by decide) (by decide)) ad (by rfl)) (by rfl)) (by decide) (by decide) (by rfl) (by rfl)) (by intro _;rfl))) (@oF _ _ _ _ (@gC _ _ _ _ (@oH _ _ _ _ _ _ _ _ _ _ _ _ q_ q_ af (@ax _ _ _ _ _ _ _ _ _ bc rfl B.ilen abl (@aa _ _ _ _ _ (pv 0) ad (by rfl)) (by decide) (by decide) (by rfl) (by rfl)) (@bV _ _ (.int 9) _ _ rfl B3.gMOST_NUMBERS ⟨_,rfl⟩ (by decide)) (by with_unfolding_all rfl)))))) (@am _ _ _ (@az _ _ _ _ dY)) bo) (@am _ _ _ (@az _ _ _ _ (@ax _ _ _ _ _ _ _ _ _ (@qh _ rfl) rfl B.iall PyProof.Rows.boot_all (@aa _ _ _ _ _ (@iM _ _ _ _ _ _ _ _ (["number"]) ([none]) _ _ _ _ rfl (@cN _ _ _ _ (pv 0)) rfl trivial trivial (fun _ _ _ _=>⟨(@ao _ _ (0) _ (show aaX (["number"]:List Str) by decide +kernel) rfl (Or.inl rfl) (.inr rfl)),bY,(@aB _ _ _ _ _ _ _ _ _ _ _ C_is_whole hr (by lia) rfl (@aa _ _ _ _ _ (pv 0) ad (by rfl)) (by decide) (by rfl) (by rfl))⟩) (by rfl) (by rfl) (by rfl) (by rfl) (by intro _;rfl)) ad (by rfl)) (by decide) (by decide) (by rfl) (by rfl))))),?_⟩;by_cases hl:eB d=true
  · cases d with
    | list ds =>
      have hd0:=hd;simp only [Dat] at hd;obtain ⟨a,xs,rfl,ea,hall⟩:=hd;have hlen:=hall.len;refine ⟨_,rfl,_,_,true,rfl,.lst ea,rfl,true,rfl,bH ?_⟩;by_cases c1:1≤xs.length
      · refine ⟨_,rfl,a,_,rfl,.inl (SqL.of ea),_,_,rfl,rfl,true,congrArg V.bl (decide_eq_true (by lia)),eI ?_⟩;by_cases c2:xs.length≤9
        · refine ⟨_,_,rfl,rfl,true,congrArg V.bl (decide_eq_true (by lia)),bH ?_⟩;refine ⟨_,rfl,a,rfl,⟨_,SqL.of ea⟩,?_⟩;refine qN (xs:=xs) (fun i ys H'=>H'=H∧ys=((ds.take i).map bS).map V.bl) ⟨rfl,rfl⟩ (fun i ys H' hi p=>⟨by rw [p.1];exact SqL.of ea,by rw [p.2,aan,aan,aaE];exact aU (by lia)⟩) (fun i x ys H' hx p nx=>?_) (fun ys H' p p5 n5=>?_)
          · obtain ⟨rfl,rfl⟩:=p;obtain ⟨dd,h1,h2⟩:=pY hall hx;refine ⟨_,rfl,x,_,rfl,h2.ty,nx ⟨rfl,?_⟩⟩;rw [pz,aa7,h1,aaS,aaS];rfl
          obtain ⟨rfl,rfl⟩:=p;rw [abw (by lia)];refine ⟨p5,_,rfl,SqL.of ac,?_⟩;have e:((ds.map bS).all id)=bh (.list ds):=by
            show _=(decide (1≤ds.length) && decide (ds.length≤9) && ds.all bS)
            rw [decide_eq_true (show 1≤ds.length by lia),decide_eq_true (show ds.length≤9 by lia),List.all_map];rfl
          rw [e];exact q _ (Same.new n5 _)
        · refine ⟨_,_,rfl,rfl,false,congrArg V.bl (decide_eq_false (by lia)),eI ?_⟩;have z:=q H (Same.refl _);rw [show bh (.list ds)=false by
            show (decide (1≤ds.length) && decide (ds.length≤9) && ds.all bS)=false;rw [decide_eq_false (show ¬ ds.length≤9 by lia)];simp] at z
          exact z
      · refine ⟨_,rfl,a,_,rfl,.inl (SqL.of ea),_,_,rfl,rfl,false,congrArg V.bl (decide_eq_false (by lia)),bH ⟨false,rfl,eI ?_⟩⟩;have z:=q H (Same.refl _);rw [show bh (.list ds)=false by
          show (decide (1≤ds.length) && decide (ds.length≤9) && ds.all bS)=false;rw [decide_eq_false (show ¬ 1≤ds.length by lia)];simp] at z
        exact z
    | _=>simp [eB] at hl
  · have hl':eB d=false:=by simpa using hl
    refine ⟨_,rfl,_,_,false,rfl,hd.ty,by rw [pi,hl'],false,rfl,eI ?_⟩;have z:=q H (Same.refl _);rw [tN hl'] at z;exact z
def fL:Sp:=fun vs H Q _=>∃ d v,vs=[v]∧Dat H d v∧Q (.bl (bX d)) H
abbrev fg:Stmt:=top 18
theorem jY:FnScope ["thing"] ["thing"] (ai fg):=⟨rfl,rfl,rfl,by decide +kernel,rfl,by decide +kernel,by decide +kernel⟩
theorem km {tk:Tok} {aP:Addr} (F:Fun K "is_signs" "is_signs" fg f fd) (B:Bu K mg) (B3:Cp K mg tk aP):FnOk P w K mg base CX0 1 f fd ["thing"] fL:=by
  refine F.ok jY (fun vs H Q E h=>?_) (fun cdv A outer s H vs Q E hr h=>?_)
  · obtain ⟨x,v,rfl,_⟩:=h;rfl
  obtain ⟨d,v,rfl,hd,q⟩:=h;refine ⟨_,(@am _ _ _ (@az _ _ _ _ (@oW _ _ _ _ _ _ _ (@ax _ _ _ _ _ _ _ _ _ (@de _ ("str")) rfl B.iisinstance aaw (@aa _ _ _ _ _ (pv 0) (@aa _ _ _ _ _ (@fC _ _ (.ty "str") _ _ rfl B.istr PyProof.Rows.boot_str rfl (by decide) (by decide)) ad (by rfl)) (by rfl)) (by decide) (by decide) (by rfl) (by rfl)) (@oR _ _ _ _ _ (@mz _ _ _ _ _ _ _ _ nA (pv 0) (@bV _ _ (.ref aP) _ _ rfl B3.gSIGNS_TO_PUT rfl (by decide)) (by with_unfolding_all rfl)))))),?_⟩;cases d with
  | str z =>
    have e:v=.str z:=by simpa only [Dat] using hd
    subst e;exact ⟨_,rfl,_,_,true,rfl,.str z,rfl,true,rfl,eI ⟨_,rfl,aP,_,rfl,.inr (B3.sSIGNS_TO_PUT H),rfl,rfl,q⟩⟩
  | none=>exact ⟨_,rfl,_,_,false,rfl,hd.ty,rfl,false,rfl,bH q⟩
  | bool b=>exact ⟨_,rfl,_,_,false,rfl,hd.ty,rfl,false,rfl,bH q⟩
  | int b=>exact ⟨_,rfl,_,_,false,rfl,hd.ty,rfl,false,rfl,bH q⟩
  | list b=>exact ⟨_,rfl,_,_,false,rfl,hd.ty,rfl,false,rfl,bH q⟩
  | tuple b=>exact ⟨_,rfl,_,_,false,rfl,hd.ty,rfl,false,rfl,bH q⟩
  | dict b=>exact ⟨_,rfl,_,_,false,rfl,hd.ty,rfl,false,rfl,bH q⟩
end
open PySem L2
def wl (s:Nat) (L:List Int) (n l:Nat):Int:=(s:Int) * L.getD l 0 * L.getD (n - l) 0
def cl (s:Nat):Nat→List Int
  | 0=>[0,1]
  | k+1=>cl s k++[((abd (k+1)).map fun j=>wl s (cl s k) (k+2) (1+j)).sum]
theorem jH (s:Nat):∀ k,(cl s k).length=k+2
  | 0=>rfl
  | k+1=>by
    show (cl s k++[_]).length=_;rw [aao,jH s k];rfl
def cn (s n:Nat):Int:=(cl s 8).getD n 0
theorem qd (s:Nat):∀ (k d n:Nat),n < k+2→(cl s (k+d)).getD n 0=(cl s k).getD n 0
  | k,0,n,h=>rfl
  | k,d+1,n,h=>by
    show (cl s (k+d)++[_]).getD n 0=_;rw [← qd s k d n h];have hl:=jH s (k+d);simp only [aax];rw [List.getElem?_append_left (by lia)]
theorem qe {s k n:Nat} (hk:k≤8) (h:n < k+2):(cl s k).getD n 0=cn s n:=by
  have:=qd s k (8 - k) n h;unfold cn;rw [show 8=k+(8 - k) by lia];exact this.symm
theorem eX:∀ s≤3,∀ n≤9,0≤cn s n∧cn s n < 1000000000:=by decide +kernel
theorem iZ {s k n:Nat} (hk:k≤8) (h:n < k+2):atI ((cl s k).map V.int) (n:Int)=some (.int (cn s n)):=by
  have hl:=jH s k;have e:(cl s k)[n]?=some (cn s n):=by
    have:=qe (s:=s) hk h;rw [aax] at this;cases z:(cl s k)[n]? with
    | none=>rw [List.getElem?_eq_none_iff] at z;lia
    | some x=>rw [z] at this;exact congrArg some this
  refine fH ?_;rw [aaY,e];rfl
section
variable {P:Program} {w:World} {K:aab} {mg:Str→Option Value} {base:Heap} {f:Addr} {fd:FuncData}
def mt:Sp:=fun vs H Q _=>∃ (z:Str) (pc:Addr) (xs:List V) (l r a b:Int),vs=[.str z,.ref pc,.int l,.int r]∧z.length≤3∧H pc=some (.lst xs)∧atI xs l=some (.int a)∧atI xs r=some (.int b)∧0≤b∧b < 1000000000∧Q (.int ((z.length:Int) * a * b)) H
abbrev dg:Stmt:=top 25
theorem gx:FnScope ["signs","counts","left","right"] ["signs","counts","left","right"] (ai dg):=⟨rfl,rfl,rfl,by decide +kernel,rfl,by decide +kernel,by decide +kernel⟩
theorem gH (F:Fun K "ways_by_cut" "ways_by_cut" dg f fd) (B:Bu K mg):FnOk P w K mg base CX0 1 f fd ["signs","counts","left","right"] mt:=by
  refine F.ok gx (fun vs H Q E h=>?_) (fun cdv A outer s H vs Q E hr h=>?_)
  · obtain ⟨z,pc,xs,l,r,a,b,rfl,_⟩:=h;rfl
  obtain ⟨z,pc,xs,l,r,a,b,rfl,hz,hc,ha,hb,b0,b1,q⟩:=h;refine ⟨_,(@am _ _ _ (@az _ _ _ _ (@aq _ _ _ _ _ _ _ _ dZ (@aq _ _ _ _ _ _ _ _ dZ (@ax _ _ _ _ _ _ _ _ _ jI rfl B.ilen abl (@aa _ _ _ _ _ (pv 0) ad (by rfl)) (by decide) (by decide) (by rfl) (by rfl)) (@a4 _ _ _ _ _ _ _ aY (pv 1) (pv 2) (fun _ _=>rfl))) (@a4 _ _ _ _ _ _ _ aY (pv 1) (pv 3) (fun _ _=>rfl))))),?_⟩;exact ⟨_,rfl,z,rfl,cr (by lia),_,rfl,_,rfl,pc,_,_,_,rfl,rfl,SqL.of hc,ha,_,_,rfl,rfl,.inl ⟨by lia,by lia⟩,_,rfl,_,rfl,pc,_,_,_,rfl,rfl,SqL.of hc,hb,_,_,rfl,rfl,.inr ⟨by lia,by lia⟩,q⟩
def jQ:Sp:=fun vs H Q _=>∃ (z:Str) (m:Int),vs=[.str z,.int m]∧z.length≤3∧1≤m∧m≤9∧∀ p H',Same H H'→H p=none→H' p=some (.lst ((cl z.length (m - 1).toNat).map V.int))→Q (.ref p) H'
abbrev cV:Stmt:=top 24
theorem b_:FnScope ["signs","many","counts","length","by_left"] ["signs","many"] (ai cV):=⟨rfl,rfl,rfl,by decide +kernel,rfl,by decide +kernel,by decide +kernel⟩
theorem gm (F:Fun K "counts_up_to" "counts_up_to" cV f fd) (B:Bu K mg) (C_ways_by_cut:Cal P w K mg base "ways_by_cut" 1 ["signs","counts","left","right"] mt):FnOk P w K mg base CX0 2 f fd ["signs","many"] jQ:=by
  refine F.ok b_ (fun vs H Q E h=>?_) (fun cdv A outer s H vs Q E hr h=>?_)
  · obtain ⟨z,m,rfl,_⟩:=h;rfl
  obtain ⟨z,m,rfl,hz,h1,h9,q⟩:=h;refine ⟨_,(@ag _ _ _ _ _ (@aC _ _ (2) _ _ _ _ (b_).nd rfl (Or.inr rfl) (@aD _ _ _ _ (@aa _ _ _ _ _ af (@aa _ _ _ _ _ af ad (by rfl)) (by rfl))) (by rfl) (by first|exact .inl rfl|exact .inr rfl|assumption)) (@ag _ _ _ _ _ (@dA _ _ _ _ _ _ _ _ abb rfl (@fR _ _ _ _ _ _ _ rfl B.irange (@aa _ _ _ _ _ af (@aa _ _ _ _ _ (@aq _ _ _ _ _ _ _ _ cq (pv 1) af) ad (by rfl)) (by rfl)) (by rfl) (by rfl)) (@ao _ _ (3) _ (b_).nd rfl (Or.inr rfl) (.inl rfl)) (@ag _ _ _ _ _ (@qu _ (4) _ _ _ _ _ _ _ _ _ _ (["left","signs","counts","length"]) ([none,some 0,some 2,some 3]) _ _ _ _ (b_).nd rfl (Or.inl rfl) rfl (@fR _ _ _ _ _ _ _ rfl B.irange (@aa _ _ _ _ _ af (@aa _ _ _ _ _ (pv 3) ad (by rfl)) (by rfl)) (by rfl) (by rfl)) rfl ⟨rfl,⟨rfl,⟨rfl,trivial⟩⟩⟩ ⟨⟨rfl,Or.inl rfl,Or.inl rfl⟩,⟨⟨rfl,Or.inl rfl,Or.inl rfl⟩,⟨⟨rfl,Or.inl rfl,Or.inl rfl⟩,trivial⟩⟩⟩ (fun _ _ _ _=>⟨(@ao _ _ (0) _ (show aaX (["left","signs","counts","length"]:List Str) by decide +kernel) rfl (Or.inl rfl) (.inr rfl)),bY,(@aB _ _ _ _ _ _ _ _ _ _ _ C_ways_by_cut hr (by lia) rfl (@aa _ _ _ _ _ (pv 1) (@aa _ _ _ _ _ (pv 2) (@aa _ _ _ _ _ (pv 0) (@aa _ _ _ _ _ (@aq _ _ _ _ _ _ _ _ cc (pv 3) (pv 0)) ad (by rfl)) (by rfl)) (by rfl)) (by rfl)) (by decide) (by rfl) (by rfl))⟩) (by rfl) (by rfl) (by rfl) (by rfl) (by intro _;rfl) (by rfl) (by first|exact .inl rfl|exact .inr rfl|assumption)) (@am _ _ _ (@cz _ _ _ _ (@gG _ _ _ _ _ _ _ _ _ _ _ _ aa3 abm abn dq (pv 2) (@aa _ _ _ _ _ (@ax _ _ _ _ _ _ _ _ _ (@qg _ rfl) rfl B.isum PyProof.Rows.boot_sum (@aa _ _ _ _ _ (pv 4) ad (by rfl)) (by decide) (by decide) (by rfl) (by rfl)) ad (by rfl)) (by rfl) (by rfl) (by rfl) (by rfl) (by rfl)) (by rfl)))) (by intro _;rfl)) (@am _ _ _ (@az _ _ _ _ (pv 2))))),?_⟩;refine ⟨(by show 2≤sizeLine;decide),fun p np=>?_⟩;refine ⟨_,rfl,_,_,rfl,rfl,2,m+1,rfl,⟨by decide,by decide,by lia,by lia⟩,iV (n:=(m+1 - 2).toNat) (fun i σ H'=>∃ len by',σ=[some (.str z),some (.int m),some (.ref p),len,by']∧H' p=some (.lst ((cl z.length i).map V.int))∧Same H H') ⟨_,_,rfl,ac,Same.new np _⟩ ?_ ?_⟩
  · rintro i σ H1 hi ⟨len,by',rfl,e1,S1⟩;have i8:i≤7:=by lia
    have hl:=jH z.length i;refine ⟨_,rfl,1,_,rfl,⟨by decide,by decide,by lia,by lia⟩,o8 (n:=(2+(i:Int) - 1).toNat) (fun j ys H'=>ys=((abd j).map fun j=>wl z.length (cl z.length i) (i+2) (1+j)).map V.int∧H'=H1) ⟨rfl,rfl⟩ ?_ ?_ ?_⟩
    · rintro j ys H' hj ⟨rfl,rfl⟩;rw [aan,aan,List.length_range];exact aU (by lia)
    · rintro j ys H' hj ⟨rfl,rfl⟩ nx;have bd:=eX z.length hz;have e2:2+(i:Int) - (1+(j:Int))=((i+2 - (1+j):Nat):Int):=by lia
      have e3:(1+(j:Int))=((1+j:Nat):Int):=by lia
      refine ⟨_,rfl,_,rfl,_,rfl,_,rfl,_,rfl,_,_,rfl,rfl,z,p,_,_,_,cn z.length (1+j),cn z.length (i+2 - (1+j)),rfl,hz,e1,?_,?_,(bd _ (by lia)).1,(bd _ (by lia)).2,nx ⟨?_,rfl⟩⟩
      · rw [e3];exact iZ (by lia) (by lia)
      · rw [e2];exact iZ (by lia) (by lia)
      · rw [List.range_succ,aaS,aaS];show _=_++[V.int (wl z.length (cl z.length i) (i+2) (1+j))];unfold wl;rw [qe (by lia) (by lia),qe (by lia) (by lia)]
    · rintro ys H' ⟨rfl,rfl⟩ p2 n2;have g2:=Same.new n2 (.lst (((abd (2+(i:Int) - 1).toNat).map fun j=>wl z.length (cl z.length i) (i+2) (1+j)).map V.int));refine ⟨_,rfl,.inl ⟨rfl,_,SqL.of (g2 _ _ e1)⟩,_,rfl,p2,_,rfl,SqL.of ac,p,_,_,rfl,rfl,g2 _ _ e1,aU (by rw [aan];lia),_,_,rfl,?_,?_⟩
      · rw [ac,← List.map_singleton,← aaS];have e4:(2+(i:Int) - 1).toNat=i+1:=by lia
        rw [e4];rfl
      · exact (S1.trans g2).upd np
  · rintro σ H1 ⟨len,by',rfl,e1,S1⟩;have e4:(m+1 - 2).toNat=(m - 1).toNat:=by lia
    rw [e4] at e1;exact ⟨_,rfl,q p H1 S1 np e1⟩
end
open PySem L2
def ky (p:Int × Int):List Key:=[Sum.inl p.1,Sum.inl p.2]
theorem jx {p q:Int × Int} (h:ky p=ky q):p=q:=by
  obtain ⟨a,b⟩:=p;obtain ⟨c,d⟩:=q;simp [ky] at h;rw [h.1,h.2]
theorem PairIn.key {H:Hp} {p:Int × Int} {v:V} (h:PairIn H p v):∃ b,v=.ref b∧H b=some (.tup ((ky p).map kV)):=h
def CutIn (H:Hp) (p:Int × Int) (c:Int) (v:V):Prop:=∃ a x y,v=.ref a∧H a=some (.tup [x,y])∧PairIn H (p.1,c) x∧PairIn H (c+1,p.2) y
theorem PairIn.mono {H H':Hp} {p:Int × Int} {v:V} (t:Tups H H') (h:PairIn H p v):PairIn H' p v:=by
  obtain ⟨a,e,h⟩:=h;exact ⟨a,e,t _ _ h⟩
theorem CutIn.mono {H H':Hp} {p:Int × Int} {c:Int} {v:V} (t:Tups H H') (h:CutIn H p c v):CutIn H' p c v:=by
  obtain ⟨a,x,y,e,h1,h2,h3⟩:=h;exact ⟨a,x,y,e,t _ _ h1,PairIn.mono t h2,PairIn.mono t h3⟩
def a6 (p:Int × Int):List Int:=(abd (p.2 - p.1).toNat).map fun (k:Nat)=>p.1+(k:Int)
theorem Paired.snoc {α β:Type} {F:α→β→Prop} {as:List α} {us:List β} {a:α} {u:β} (h:Paired F as us) (x:F a u):Paired F (as++[a]) (us++[u]):=by
  induction h with
  | nil=>exact .cons x .nil
  | cons y _ ih=>exact .cons y ih
theorem Paired.at {α β:Type} {F:α→β→Prop}:∀ {as:List α} {us:List β},Paired F as us→∀ {j:Nat} {x:β},us[j]?=some x→∃ a,as[j]?=some a∧F a x
  | _,_,.nil,j,x,h=>by simp at h
  | _,_,.cons a _,0,x,h=>by simp at h;subst h;exact ⟨_,rfl,a⟩
  | _,_,.cons _ b,j+1,x,h=>by
    obtain ⟨p,h1,h2⟩:=Paired.at b (j:=j) (x:=x) (by simpa using h);exact ⟨p,by simpa using h1,h2⟩
def Sg.op:Sg→Int→Int→Int
  | .plus,a,b=>a+b
  | .minus,a,b=>a - b
  | .times,a,b=>a * b
theorem lw (x y:Str):(x++y).cps.toList=x.cps.toList++y.cps.toList:=by
  obtain ⟨a⟩:=x;obtain ⟨b⟩:=y;show (a++b).toList=_;rw [Array.toList_append]
def Sg.code:Sg→Nat
  | .plus=>43
  | .minus=>45
  | .times=>42
theorem dN (g:Sg):g.str=⟨#[g.code]⟩:=by cases g <;> rfl
theorem ci:∀ gs:List Sg,(aw gs).cps.toList=gs.map Sg.code
  | []=>rfl
  | g :: r=>by
    show (g.str++aw r).cps.toList=g.code :: r.map Sg.code;rw [lw,ci r,dN];rfl
theorem lK (gs:List Sg):(aw gs).cps.all (· < 128)=true:=by
  rw [← Array.all_toList,ci,aaD];intro c hc;obtain ⟨g,_,rfl⟩:=aa5.mp hc;cases g <;> decide
theorem tz {gs:List Sg} {i c:Nat} (h:(aw gs).cps[i]?=some c):∃ g,gs[i]?=some g∧c=g.code:=by
  have h2:(aw gs).cps.toList[i]?=some c:=by simpa using h
  rw [ci,aaY] at h2;obtain ⟨g,hg,e⟩:=ab5.mp h2;exact ⟨g,hg,e.symm⟩
theorem fm (gs:List Sg):(aw gs).cps.size=gs.length:=by
  have:=congrArg List.length (ci gs);simpa using this
abbrev Jt:=Int × Sg × Int × Int
def Lw (s:Nat) (p:Int × Int) (c:Int):Int:=cn s (c - p.1+1).toNat
def Rw (s:Nat) (p:Int × Int) (c:Int):Int:=cn s (p.2 - c).toNat
def cY (c L R:Int):List Sg→Int→List Jt
  | [],_=>[]
  | g :: r,st=>(c,g,st,R) :: cY c L R r (st+L * R)
def da (gs:List Sg) (p:Int × Int):List Int→Int→List Jt
  | [],_=>[]
  | c :: cs,st=>cY c (Lw gs.length p c) (Rw gs.length p c) gs st++da gs p cs (st+(gs.length:Int) * (Lw gs.length p c * Rw gs.length p c))
def jst (gs:List Sg) (p:Int × Int) (cs:List Int):Int:=(cs.map fun c=>(gs.length:Int) * (Lw gs.length p c * Rw gs.length p c)).sum
theorem iR (c L R:Int) (g:Sg):∀ (xs:List Sg) (st:Int),cY c L R (xs++[g]) st=cY c L R xs st++[(c,g,st+(xs.length:Int) * (L * R),R)]
  | [],st=>by show [(c,g,st,R)]=[(c,g,st+((0:Nat):Int) * (L * R),R)];simp
  | x :: xs,st=>by
    show (c,x,st,R) :: cY c L R (xs++[g]) (st+L * R)=(c,x,st,R) :: (cY c L R xs (st+L * R)++[(c,g,st+((x :: xs).length:Int) * (L * R),R)]);rw [iR c L R g xs];have : st+L * R+(xs.length:Int) * (L * R)=st+((x :: xs).length:Int) * (L * R):=by
      rw [aaB,Int.natCast_add,abK];simp only [Int.natCast_one,abE];lia
    rw [this]
theorem fY (gs:List Sg) (p:Int × Int) (c:Int):∀ (cs:List Int) (st:Int),da gs p (cs++[c]) st=da gs p cs st++cY c (Lw gs.length p c) (Rw gs.length p c) gs (st+jst gs p cs)
  | [],st=>by simp [da,jst]
  | x :: cs,st=>by
    show cY x _ _ gs st++da gs p (cs++[c]) _=(cY x _ _ gs st++da gs p cs _)++_;rw [fY gs p c cs,abB];congr 3;simp only [jst,aaH,List.sum_cons];lia
theorem gW (c L R:Int):∀ (xs:List Sg) (st:Int),(cY c L R xs st).length=xs.length
  | [],_=>rfl
  | x :: xs,st=>by show (cY c L R xs _).length+1=_;rw [gW c L R xs];rfl
theorem gX (gs:List Sg) (p:Int × Int):∀ (cs:List Int) (st:Int),(da gs p cs st).length=cs.length * gs.length
  | [],_=>by simp [da]
  | c :: cs,st=>by
    show (cY c _ _ gs st++da gs p cs _).length=_;rw [aao,gW,gX gs p cs,aaB,Nat.succ_mul];lia
def JtIn (H:Hp) (p:Int × Int) (j:Jt) (v:V):Prop:=∃ t x y,v=.ref t∧H t=some (.tup [x,.str j.2.1.str,y,.int j.2.2.1,.int j.2.2.2])∧PairIn H (p.1,j.1) x∧PairIn H (j.1+1,p.2) y
theorem JtIn.mono {H H':Hp} {p:Int × Int} {j:Jt} {v:V} (t:Tups H H') (h:JtIn H p j v):JtIn H' p j v:=by
  obtain ⟨a,x,y,e,h1,h2,h3⟩:=h;exact ⟨a,x,y,e,t _ _ h1,PairIn.mono t h2,PairIn.mono t h3⟩
section
variable {P:Program} {w:World} {K:aab} {mg:Str→Option Value} {base:Heap} {f:Addr} {fd:FuncData}
def lJ:Sp:=fun vs H Q _=>∃ p v,vs=[v]∧PairIn H p v∧0≤p.1∧p.1≤p.2∧p.2 < 100∧∀ a us H',Same H H'→H a=none→H' a=some (.lst us)→Paired (CutIn H' p) (a6 p) us→Q (.ref a) H'
abbrev fQ:Stmt:=top 22
theorem e7:FnScope ["stretch","first","last"] ["stretch"] (ai fQ):=⟨rfl,rfl,rfl,by decide +kernel,rfl,by decide +kernel,by decide +kernel⟩
theorem lS (F:Fun K "cuts_of" "cuts_of" fQ f fd) (B:Bu K mg):FnOk P w K mg base CX0 1 f fd ["stretch"] lJ:=by
  refine F.ok e7 (fun vs H Q E h=>?_) (fun cdv A outer s H vs Q E hr h=>?_)
  · obtain ⟨p,v,rfl,_⟩:=h;rfl
  obtain ⟨p,v,rfl,⟨a,rfl,ha⟩,h1,h2,h3,q⟩:=h;refine ⟨_,(@ag _ _ _ _ _ (@dj _ _ _ _ _ _ (pv 0) (@dk _ _ _ _ _ _ rfl (@ap _ _ _ _ _ (@ao _ _ (1) _ (e7).nd rfl (Or.inr rfl) (.inl rfl)) (@ap _ _ _ _ _ (@ao _ _ (2) _ (e7).nd rfl (Or.inr rfl) (.inl rfl)) bN (by rfl)) (by rfl)) (by rfl) (by rfl)) (by rfl) (by rfl) (by rfl)) (@am _ _ _ (@az _ _ _ _ (@iM _ _ _ _ _ _ _ _ (["cut","first","last"]) ([none,some 1,some 2]) _ _ _ _ rfl (@fR _ _ _ _ _ _ _ rfl B.irange (@aa _ _ _ _ _ (pv 1) (@aa _ _ _ _ _ (pv 2) ad (by rfl)) (by rfl)) (by rfl) (by rfl)) rfl ⟨rfl,⟨rfl,trivial⟩⟩ ⟨⟨rfl,Or.inl rfl,Or.inl rfl⟩,⟨⟨rfl,Or.inl rfl,Or.inl rfl⟩,trivial⟩⟩ (fun _ _ _ _=>⟨(@ao _ _ (0) _ (show aaX (["cut","first","last"]:List Str) by decide +kernel) rfl (Or.inl rfl) (.inr rfl)),bY,(@bK _ _ _ _ _ (@aa _ _ _ _ _ (@bK _ _ _ _ _ (@aa _ _ _ _ _ (pv 1) (@aa _ _ _ _ _ (pv 0) ad (by rfl)) (by rfl))) (@aa _ _ _ _ _ (@bK _ _ _ _ _ (@aa _ _ _ _ _ (@aq _ _ _ _ _ _ _ _ cq (pv 0) af) (@aa _ _ _ _ _ (pv 2) ad (by rfl)) (by rfl))) ad (by rfl)) (by rfl)))⟩) (by rfl) (by rfl) (by rfl) (by rfl) (by intro _;rfl))))),?_⟩;refine ⟨_,rfl,a,_,rfl,SqT.of ha,rfl,_,_,rfl,_,_,rfl,rfl,?_⟩;refine ⟨_,rfl,_,rfl,p.1,p.2,rfl,⟨by lia,by lia,by lia,by lia⟩,?_⟩;refine kB (Trn.range (lo:=p.1) (n:=(p.2 - p.1).toNat)) (fun i ys H'=>Same H H'∧Paired (CutIn H' p) ((a6 p).take i) ys) ⟨Same.refl _,.nil⟩ (fun i ys H' hi z=>⟨trivial,aU (by have:=z.2.length;rw [← this,aaE];lia)⟩) (fun i x ys H0 H' hi hx z Nx nx=>?_) (fun ys H' z p5 n5=>?_)
  · obtain ⟨rfl,rfl⟩:=hx;obtain ⟨S,hp⟩:=z;have t2:(2:Nat)≤sizeLine:=by decide
    refine ⟨_,rfl,_,rfl,t2,fun t ht=>?_⟩;have st:=Same.new ht (.tup [.int p.1,.int (p.1+(i:Int))]);refine ⟨_,rfl,_,_,rfl,rfl,_,rfl,t2,fun u hu=>⟨t2,fun v hv=>nx _ _ ?_⟩⟩;have su:=Same.new hu (.tup [.int (p.1+(i:Int)+1),.int p.2]);have sv:=Same.new hv (.tup [.ref t,.ref u]);have S3:=(st.trans su).trans sv;refine ⟨S.trans S3,?_⟩;have e:(a6 p).take (i+1)=(a6 p).take i++[p.1+(i:Int)]:=by
      rw [aa7];have : (a6 p)[i]?=some (p.1+(i:Int)):=by
        unfold a6;rw [aaY,List.getElem?_range hi];rfl
      rw [this];rfl
    rw [e];exact Paired.snoc (Paired.mapP hp fun _ _ h=>CutIn.mono (Tups.of S3) h) ⟨v,_,_,rfl,ac,⟨t,rfl,sv _ _ (su _ _ ac)⟩,⟨u,rfl,sv _ _ ac⟩⟩
  · obtain ⟨S,hp⟩:=z;rw [abw (by simp [a6])] at hp;have s5:=Same.new n5 (.lst ys);exact q p5 ys _ (S.trans s5) (S.free n5) ac (Paired.mapP hp fun _ _ h=>CutIn.mono (Tups.of s5) h)
def fJ:Sp:=fun vs H Q _=>∃ a g b,vs=[.int a,.str (Sg.str g),.int b]∧a.natAbs < 2 ^ 4000∧b.natAbs < 2 ^ 4000∧Q (.int (g.op a b)) H
abbrev e_:Stmt:=top 29
theorem jV:FnScope ["left","sign","right"] ["left","sign","right"] (ai e_):=⟨rfl,rfl,rfl,by decide +kernel,rfl,by decide +kernel,by decide +kernel⟩
theorem kg (F:Fun K "put_sign" "put_sign" e_ f fd):FnOk P w K mg base CX0 1 f fd ["left","sign","right"] fJ:=by
  refine F.ok jV (fun vs H Q E h=>?_) (fun cdv A outer s H vs Q E hr h=>?_)
  · obtain ⟨a,g,b,rfl,_⟩:=h;rfl
  obtain ⟨a,g,b,rfl,ha,hb,q⟩:=h;refine ⟨_,(@ag _ _ _ _ _ (@cA _ _ _ _ _ _ _ _ (@aX _ _ _ _ _ _ _ _ fD (pv 1) ay (bt _)) (@am _ _ _ (@az _ _ _ _ (@aq _ _ _ _ _ _ _ _ cq (pv 0) (pv 2)))) bo) (@ag _ _ _ _ _ (@cA _ _ _ _ _ _ _ _ (@aX _ _ _ _ _ _ _ _ fD (pv 1) ay (bt _)) (@am _ _ _ (@az _ _ _ _ (@aq _ _ _ _ _ _ _ _ cc (pv 0) (pv 2)))) bo) (@am _ _ _ (@az _ _ _ _ (@aq _ _ _ _ _ _ _ _ jk (pv 0) (pv 2)))))),?_⟩;cases g with
  | plus=>exact ⟨_,rfl,rfl,_,rfl,py rfl ⟨_,rfl,_,rfl,_,_,rfl,rfl,q⟩⟩
  | minus=>exact ⟨_,rfl,rfl,_,rfl,kN (by decide +kernel) ⟨_,rfl,rfl,_,rfl,py rfl ⟨_,rfl,_,rfl,_,_,rfl,rfl,q⟩⟩⟩
  | times=>exact ⟨_,rfl,rfl,_,rfl,kN (by decide +kernel) ⟨_,rfl,rfl,_,rfl,kN (by decide +kernel) ⟨_,rfl,_,rfl,_,_,rfl,rfl,⟨ha,hb⟩,q⟩⟩⟩
def gv:Sp:=fun vs H Q _=>∃ (gs:List Sg) (pc:Addr) (M:Nat) (p:Int × Int) (v:V),vs=[.str (aw gs),.ref pc,v]∧gs.length≤3∧H pc=some (.lst ((cl gs.length M).map V.int))∧M≤8∧PairIn H p v∧0≤p.1∧p.1≤p.2∧p.2≤M ∧
  ∀ a us H',Same H H'→H a=none→H' a=some (.lst us)→Paired (JtIn H' p) (da gs p (a6 p) 0) us→Q (.ref a) H'
abbrev dP:Stmt:=top 27
theorem a9:FnScope ["signs","counts","stretch","joints","start","before","behind","left_ways","right_ways","sign"] ["signs","counts","stretch"] (ai dP):=⟨rfl,rfl,rfl,by decide +kernel,rfl,by decide +kernel,by decide +kernel⟩
theorem jq (F:Fun K "joints_of" "joints_of" dP f fd) (B:Bu K mg) (C_cuts_of:Cal P w K mg base "cuts_of" 1 ["stretch"] lJ):FnOk P w K mg base CX0 2 f fd ["signs","counts","stretch"] gv:=by
  refine F.ok a9 (fun vs H Q E h=>?_) (fun cdv A outer s H vs Q E hr h=>?_)
  · obtain ⟨gs,pc,M,p,v,rfl,_⟩:=h;rfl
  obtain ⟨gs,pc,M,p,v,rfl,g3,ec,hM,hp,p0,p1,pM,q⟩:=h;refine ⟨_,(@ag _ _ _ _ _ (@aC _ _ (3) _ _ _ _ (a9).nd rfl (Or.inl rfl) (@aD _ _ _ _ ad) (by rfl) (by first|exact .inl rfl|exact .inr rfl|assumption)) (@ag _ _ _ _ _ (@aC _ _ (4) _ _ _ _ (a9).nd rfl (Or.inl rfl) af (by rfl) (by first|exact .inl rfl|exact .inr rfl|assumption)) (@ag _ _ _ _ _ (@dA _ _ _ _ _ _ _ _ abb rfl (@cN _ _ _ _ (@aB _ _ _ _ _ _ _ _ _ _ _ C_cuts_of hr (by lia) rfl (@aa _ _ _ _ _ (pv 2) ad (by rfl)) (by decide) (by rfl) (by rfl))) (@dk _ _ _ _ _ _ rfl (@ap _ _ _ _ _ (@ao _ _ (5) _ (a9).nd rfl (Or.inl rfl) (.inl rfl)) (@ap _ _ _ _ _ (@ao _ _ (6) _ (a9).nd rfl (Or.inl rfl) (.inl rfl)) bN (by rfl)) (by rfl)) (by rfl) (by rfl)) (@ag _ _ _ _ _ (@aC _ _ (7) _ _ _ _ (a9).nd rfl (Or.inl rfl) (@a4 _ _ _ _ _ _ _ aY (pv 1) (@aq _ _ _ _ _ _ _ _ cq (@aq _ _ _ _ _ _ _ _ cc (@a4 _ _ _ _ _ _ _ dE (pv 5) af (fun _ _=>rfl)) (@a4 _ _ _ _ _ _ _ dE (pv 5) af (fun _ _=>rfl))) af) (fun _ _=>rfl)) (by rfl) (by first|exact .inl rfl|exact .inr rfl|assumption)) (@ag _ _ _ _ _ (@aC _ _ (8) _ _ _ _ (a9).nd rfl (Or.inl rfl) (@a4 _ _ _ _ _ _ _ aY (pv 1) (@aq _ _ _ _ _ _ _ _ cq (@aq _ _ _ _ _ _ _ _ cc (@a4 _ _ _ _ _ _ _ dE (pv 6) af (fun _ _=>rfl)) (@a4 _ _ _ _ _ _ _ dE (pv 6) af (fun _ _=>rfl))) af) (fun _ _=>rfl)) (by rfl) (by first|exact .inl rfl|exact .inr rfl|assumption)) (@am _ _ _ (@dA _ _ _ _ _ _ _ _ abb rfl (@se _ _ _ _ (pv 0)) (@ao _ _ (9) _ (a9).nd rfl (Or.inl rfl) (.inl rfl)) (@ag _ _ _ _ _ (@cz _ _ _ _ (@gG _ _ _ _ _ _ _ _ _ _ _ _ aa3 abm abn dq (pv 3) (@aa _ _ _ _ _ (@bK _ _ _ _ _ (@aa _ _ _ _ _ (pv 5) (@aa _ _ _ _ _ (pv 9) (@aa _ _ _ _ _ (pv 6) (@aa _ _ _ _ _ (pv 4) (@aa _ _ _ _ _ (pv 8) ad (by rfl)) (by rfl)) (by rfl)) (by rfl)) (by rfl))) ad (by rfl)) (by rfl) (by rfl) (by rfl) (by rfl) (by rfl)) (by rfl)) (@am _ _ _ (@lM _ _ (4) _ _ _ _ _ _ (a9).nd rfl (Or.inl rfl) (@aq _ _ _ _ _ _ _ _ jk (pv 7) (pv 8)) pA (by first|exact .inl rfl|exact .inr rfl|assumption)))) (by intro _;rfl))))) (by intro _;rfl)) (@am _ _ _ (@az _ _ _ _ (pv 3)))))),?_⟩;refine ⟨(by show 0≤sizeLine;decide),fun pj nj=>?_⟩;have sj:=Same.new nj (.lst []);have ej:upd H pj (.lst []) pj=some (.lst []):=ac;generalize upd H pj (.lst [])=H0 at sj ej ⊢;refine ⟨_,rfl,p,v,rfl,PairIn.mono (Tups.of sj) hp,p0,p1,by lia,fun pl ul H1 s1 npl epl hul=>?_⟩;have lul:=hul.length;have lc:(a6 p).length=(p.2 - p.1).toNat:=by simp [a6]
  have S1:=sj.trans s1;refine ⟨pl,rfl,⟨_,SqL.of epl⟩,kQ (xs:=ul) (fun i σ H'=>∃ (us:List V) (c5 c6 c7 c8 c9:Option V),σ=[some (.str (aw gs)),some (.ref pc),some v,some (.ref pj),some (.int (jst gs p ((a6 p).take i))),c5,c6,c7,c8,c9]∧Same H H'∧H' pj=some (.lst us)∧H' pl=some (.lst ul)∧Paired (CutIn H' p) (a6 p) ul∧Paired (JtIn H' p) (da gs p ((a6 p).take i) 0) us) ⟨[],_,_,_,_,_,rfl,S1,s1 _ _ ej,epl,hul,.nil⟩ ?_ ?_ ?_⟩
  · rintro i σ H' _ ⟨_,_,_,_,_,_,rfl,_,_,e,_⟩;exact SqL.of e
  · rintro i x σ H2 hx ⟨us,c5,c6,c7,c8,c9,rfl,S2,ej2,el2,hc2,hj2⟩;obtain ⟨c,hci,t,xb,yb,rfl,et,hxb0,hyb0⟩:=Paired.at hc2 hx;have hxb:=hxb0;have hyb:=hyb0;obtain ⟨bx,rfl,ebx⟩:=hxb0;obtain ⟨byy,rfl,eby⟩:=hyb0;have hc1:p.1≤c∧c < p.2:=by
      have:=aaI hci;unfold a6 at this;obtain ⟨k,hk,rfl⟩:=aa5.mp this;have:=aa9.mp hk;lia
    have ec2:=S2 _ _ ec;refine ⟨t,_,rfl,SqT.of et,rfl,_,_,rfl,_,_,rfl,rfl,?_⟩;have eL:atI ((cl gs.length M).map V.int) (c - p.1+1)=some (.int (Lw gs.length p c)):=by
      have:=iZ (s:=gs.length) (k:=M) (n:=(c - p.1+1).toNat) hM (by lia);rw [show (((c - p.1+1).toNat:Nat):Int)=c - p.1+1 by lia] at this;exact this
    have eR:atI ((cl gs.length M).map V.int) (p.2 - (c+1)+1)=some (.int (Rw gs.length p c)):=by
      have:=iZ (s:=gs.length) (k:=M) (n:=(p.2 - c).toNat) hM (by lia);rw [show (((p.2 - c).toNat:Nat):Int)=p.2 - (c+1)+1 by lia] at this;exact this
    refine ⟨_,rfl,_,rfl,bx,_,_,_,rfl,rfl,SqT.of ebx,rfl,_,rfl,bx,_,_,_,rfl,rfl,SqT.of ebx,rfl,_,_,rfl,rfl,_,_,rfl,rfl,pc,_,_,_,rfl,rfl,SqL.of ec2,eL,?_⟩;refine ⟨_,rfl,_,rfl,byy,_,_,_,rfl,rfl,SqT.of eby,rfl,_,rfl,byy,_,_,_,rfl,rfl,SqT.of eby,rfl,_,_,rfl,rfl,_,_,rfl,rfl,pc,_,_,_,rfl,rfl,SqL.of ec2,eR,?_⟩;have bL:=eX gs.length g3 (c - p.1+1).toNat (by lia);have bR:=eX gs.length g3 (p.2 - c).toNat (by lia);have b9:(1000000000:Nat) < 2 ^ 4000:=by decide +kernel
    have nL:(Lw gs.length p c).natAbs < 2 ^ 4000:=Nat.lt_trans (by unfold Lw;lia) b9;have nR:(Rw gs.length p c).natAbs < 2 ^ 4000:=Nat.lt_trans (by unfold Rw;lia) b9;have et1:(a6 p).take (i+1)=(a6 p).take i++[c]:=by rw [aa7,hci];rfl
    have hi:i < (a6 p).length:=(aai.mp hci).1;refine ⟨_,rfl,_,rfl,lK gs,qS (fun a σ H'=>∃ (us:List V) (c9:Option V),σ=[some (.str (aw gs)),some (.ref pc),some v,some (.ref pj),some (.int (jst gs p ((a6 p).take i)+(a:Int) * (Lw gs.length p c * Rw gs.length p c))),some (.ref bx),some (.ref byy),some (.int (Lw gs.length p c)),some (.int (Rw gs.length p c)),c9]∧Same H H'∧H' pj=some (.lst us)∧H' pl=some (.lst ul)∧Paired (CutIn H' p) (a6 p) ul∧PairIn H' (p.1,c) (.ref bx)∧PairIn H' (c+1,p.2) (.ref byy)∧Paired (JtIn H' p) (da gs p ((a6 p).take i) 0++cY c (Lw gs.length p c) (Rw gs.length p c) (gs.take a) (jst gs p ((a6 p).take i))) us) ⟨us,c9,by simp,S2,ej2,el2,hc2,hxb,hyb,by simpa [cY] using hj2⟩ ?_ ?_⟩
    · rintro a ch σ H3 hch ⟨us3,c9',rfl,S3,ej3,el3,hc3,hx3,hy3,hj3⟩;obtain ⟨g,hg,rfl⟩:=tz hch;have ha:a < gs.length:=(aai.mp hg).1;refine ⟨_,rfl,.inl ⟨rfl,_,SqL.of ej3⟩,?_⟩;refine ⟨_,rfl,_,rfl,_,rfl,_,rfl,_,rfl,(by show 5≤sizeLine;decide),fun t5 n5=>?_⟩;have s5:=Same.new n5 (.tup [.ref bx,.str ⟨#[g.code]⟩,.ref byy,.int (jst gs p ((a6 p).take i)+(a:Int) * (Lw gs.length p c * Rw gs.length p c)),.int (Rw gs.length p c)]);have len3:=hj3.length;rw [aao,gX,gW,aaE,aaE] at len3;have lm:min i (a6 p).length * gs.length≤8 * 3:=abH (by lia) g3;refine ⟨pj,_,_,rfl,rfl,s5 _ _ ej3,aU (by lia),?_⟩;have ej5:=s5 _ _ ej3;have T5:Tups (upd H3 t5 (.tup [.ref bx,.str ⟨#[g.code]⟩,.ref byy,.int (jst gs p ((a6 p).take i)+(a:Int) * (Lw gs.length p c * Rw gs.length p c)),.int (Rw gs.length p c)])) (upd (upd H3 t5 (.tup [.ref bx,.str ⟨#[g.code]⟩,.ref byy,.int (jst gs p ((a6 p).take i)+(a:Int) * (Lw gs.length p c * Rw gs.length p c)),.int (Rw gs.length p c)])) pj (.lst (us3++[.ref t5]))):=fun d xs hd=>by rw [aj (fun e=>by rw [e,ej5] at hd;cases hd)];exact hd
      have T35:=(Tups.of s5).trans T5;have npl2:pl≠pj:=fun e=>by rw [e] at npl;rw [ej] at npl;cases npl
      refine ⟨_,rfl,_,rfl,_,rfl,_,_,rfl,rfl,⟨nL,nR⟩,_,_,rfl,rfl,?_⟩;refine ⟨us3++[.ref t5],some (.str ⟨#[g.code]⟩),?_,(S3.trans s5).upd nj,ac,?_,Paired.mapP hc3 fun _ _ h=>CutIn.mono T35 h,PairIn.mono T35 hx3,PairIn.mono T35 hy3,?_⟩
      · have : jst gs p ((a6 p).take i)+(a:Int) * (Lw gs.length p c * Rw gs.length p c)+Lw gs.length p c * Rw gs.length p c=jst gs p ((a6 p).take i)+((a+1:Nat):Int) * (Lw gs.length p c * Rw gs.length p c):=by
          rw [Int.natCast_add,abK];simp only [Int.natCast_one,abE];lia
        rw [← this];rfl
      · rw [aj npl2];exact s5 _ _ el3
      · have eg:gs.take (a+1)=gs.take a++[g]:=by rw [aa7,hg];rfl
        rw [eg,iR,← abB];refine Paired.snoc (Paired.mapP hj3 fun _ _ h=>JtIn.mono T35 h) ⟨t5,.ref bx,.ref byy,rfl,T5 _ _ ?_,PairIn.mono T35 hx3,PairIn.mono T35 hy3⟩;rw [ac,dN,aaE,Nat.min_eq_left (by lia)]
    · rintro σ H3 ⟨us3,c9',rfl,S3,ej3,el3,hc3,hx3,hy3,hj3⟩;rw [fm] at *;rw [abq] at hj3;refine ⟨us3,some (.ref bx),some (.ref byy),some (.int (Lw gs.length p c)),some (.int (Rw gs.length p c)),c9',?_,S3,ej3,el3,hc3,?_⟩
      · rw [et1];have : jst gs p ((a6 p).take i++[c])=jst gs p ((a6 p).take i)+(gs.length:Int) * (Lw gs.length p c * Rw gs.length p c):=by
          unfold jst;rw [aaS,List.sum_append];simp
        rw [this]
      · rw [et1,fY];simpa using hj3
  · rintro σ H2 ⟨us,c5,c6,c7,c8,c9,rfl,S2,ej2,el2,hc2,hj2⟩;rw [← lul,abq] at hj2;exact ⟨_,rfl,q pj us H2 S2 nj ej2 hj2⟩
end
open PySem L2
def PkAt (H:Hp) (kvs:List (List Key × V)) (q:Int × Int) (ls:List (Int × Int)):Prop:=∃ t xs,cx kvs (ky q)=some (.ref t)∧H t=some (.tup xs)∧PairsIn H ls xs
theorem PkAt.mono {H H':Hp} {kvs:List (List Key × V)} {q:Int × Int} {ls:List (Int × Int)} (t:Tups H H') (h:PkAt H kvs q ls):PkAt H' kvs q ls:=by
  obtain ⟨a,xs,e,h1,h2⟩:=h;exact ⟨a,xs,e,t _ _ h1,PairsIn.mono t h2⟩
def jp1 (j:Jt) (a:Int × Int) (bs:List (Int × Int)):List (Int × Int):=bs.map fun b=>(j.2.1.op a.1 b.1,j.2.2.1+a.2 * j.2.2.2+b.2)
def jp2 (L:Int × Int→List (Int × Int)) (p:Int × Int) (j:Jt):List (Int × Int):=(L (p.1,j.1)).flatMap fun a=>jp1 j a (L (j.1+1,p.2))
def dJ (L:Int × Int→List (Int × Int)) (p:Int × Int) (js:List Jt):List (Int × Int):=js.flatMap fun j=>jp2 L p j
theorem iX {α β:Type} {l:List α} {f:α→List β} {i:Nat} {x:α} (h:l[i]?=some x):(l.take (i+1)).flatMap f=(l.take i).flatMap f++f x:=by
  rw [aa7,h,List.flatMap_append];simp
theorem jE {α β:Type} {l:List α} {f:α→List β} {c:Nat} (h:∀ x∈l,(f x).length≤c):(l.flatMap f).length≤l.length * c:=by
  induction l with
  | nil=>simp
  | cons a r ih =>
    rw [List.flatMap_cons,aao,aaB,Nat.succ_mul];have:=h a aav;have:=ih fun x hx=>h x (aal _ hx);lia
def Bg (i:Int):Prop:=i.natAbs < 2 ^ 4000
section
variable {P:Program} {w:World} {K:aab} {mg:Str→Option Value} {base:Heap} {f:Addr} {fd:FuncData}
def rS:Sp:=fun vs H Q _=>∃ (pk jl:Addr) (kvs:List (List Key × V)) (us:List V) (p:Int × Int) (js:List Jt) (L:Int × Int→List (Int × Int)),vs=[.ref pk,.ref jl]∧H pk=some (.dT kvs)∧H jl=some (.lst us)∧Paired (JtIn H p) js us∧js.length≤24 ∧
  (∀ j∈js,PkAt H kvs (p.1,j.1) (L (p.1,j.1))∧PkAt H kvs (j.1+1,p.2) (L (j.1+1,p.2))∧Bg j.2.2.2)∧(∀ q,(L q).length≤3∧∀ x∈L q,Bg x.1∧Bg x.2) ∧
  ∀ a vs H',Same H H'→H a=none→H' a=some (.lst vs)→PairsIn H' (dJ L p js) vs→Q (.ref a) H'
abbrev dw:Stmt:=top 38
theorem ii:FnScope ["picks","joints"] ["picks","joints"] (ai dw):=⟨rfl,rfl,rfl,by decide +kernel,rfl,by decide +kernel,by decide +kernel⟩
theorem im (F:Fun K "join_picks" "join_picks" dw f fd) (C_put_sign:Cal P w K mg base "put_sign" 1 ["left","sign","right"] fJ):FnOk P w K mg base CX0 2 f fd ["picks","joints"] rS:=by
  refine F.ok ii (fun vs H Q E h=>?_) (fun cdv A outer s H vs Q E hr h=>?_)
  · obtain ⟨pk,jl,kvs,us,p,js,L,rfl,_⟩:=h;rfl
  obtain ⟨pk,jl,kvs,us,p,js,L,rfl,ek,ej,hj,l24,hpk,hL,q⟩:=h;refine ⟨_,(@am _ _ _ (@az _ _ _ _ (@sh _ _ _ _ _ _ _ _ _ _ _ _ _ _ (["before","sign","behind","start","step","left_worth","left_number","right_worth","right_number","picks"]) ([none,none,none,none,none,none,none,none,none,some 0]) _ _ _ _ _ _ _ _ _ _ rfl (@cN _ _ _ _ (pv 1)) rfl ⟨rfl,trivial⟩ ⟨⟨rfl,Or.inl rfl,Or.inl rfl⟩,trivial⟩ (fun _ _ _ _=>⟨(@fB _ _ _ _ _ _ (5) rfl rfl (@ap _ _ _ _ _ (@ao _ _ (0) _ (show aaX (["before","sign","behind","start","step","left_worth","left_number","right_worth","right_number","picks"]:List Str) by decide +kernel) rfl (Or.inl rfl) (.inr rfl)) (@ap _ _ _ _ _ (@ao _ _ (1) _ (show aaX (["before","sign","behind","start","step","left_worth","left_number","right_worth","right_number","picks"]:List Str) by decide +kernel) rfl (Or.inl rfl) (.inr rfl)) (@ap _ _ _ _ _ (@ao _ _ (2) _ (show aaX (["before","sign","behind","start","step","left_worth","left_number","right_worth","right_number","picks"]:List Str) by decide +kernel) rfl (Or.inl rfl) (.inr rfl)) (@ap _ _ _ _ _ (@ao _ _ (3) _ (show aaX (["before","sign","behind","start","step","left_worth","left_number","right_worth","right_number","picks"]:List Str) by decide +kernel) rfl (Or.inl rfl) (.inr rfl)) (@ap _ _ _ _ _ (@ao _ _ (4) _ (show aaX (["before","sign","behind","start","step","left_worth","left_number","right_worth","right_number","picks"]:List Str) by decide +kernel) rfl (Or.inl rfl) (.inr rfl)) bN (by rfl)) (by rfl)) (by rfl)) (by rfl)) (by rfl)) (by rfl) (by rfl)),bY,(@my _ _ _ _ _ rfl (@jh _ _ _ _ _ _ (u1 hr.units) (pv 9) (pv 0) (fun _ _=>rfl))),(@fB _ _ _ _ _ _ (2) rfl rfl (@ap _ _ _ _ _ (@ao _ _ (5) _ (show aaX (["before","sign","behind","start","step","left_worth","left_number","right_worth","right_number","picks"]:List Str) by decide +kernel) rfl (Or.inl rfl) (.inr rfl)) (@ap _ _ _ _ _ (@ao _ _ (6) _ (show aaX (["before","sign","behind","start","step","left_worth","left_number","right_worth","right_number","picks"]:List Str) by decide +kernel) rfl (Or.inl rfl) (.inr rfl)) bN (by rfl)) (by rfl)) (by rfl) (by rfl)),bY,(@my _ _ _ _ _ rfl (@jh _ _ _ _ _ _ (u1 hr.units) (pv 9) (pv 2) (fun _ _=>rfl))),(@fB _ _ _ _ _ _ (2) rfl rfl (@ap _ _ _ _ _ (@ao _ _ (7) _ (show aaX (["before","sign","behind","start","step","left_worth","left_number","right_worth","right_number","picks"]:List Str) by decide +kernel) rfl (Or.inl rfl) (.inr rfl)) (@ap _ _ _ _ _ (@ao _ _ (8) _ (show aaX (["before","sign","behind","start","step","left_worth","left_number","right_worth","right_number","picks"]:List Str) by decide +kernel) rfl (Or.inl rfl) (.inr rfl)) bN (by rfl)) (by rfl)) (by rfl) (by rfl)),bY,(@bK _ _ _ _ _ (@aa _ _ _ _ _ (@aB _ _ _ _ _ _ _ _ _ _ _ C_put_sign hr (by lia) rfl (@aa _ _ _ _ _ (pv 5) (@aa _ _ _ _ _ (pv 1) (@aa _ _ _ _ _ (pv 7) ad (by rfl)) (by rfl)) (by rfl)) (by decide) (by rfl) (by rfl)) (@aa _ _ _ _ _ (@aq _ _ _ _ _ _ _ _ cq (@aq _ _ _ _ _ _ _ _ cq (pv 3) (@aq _ _ _ _ _ _ _ _ jk (pv 6) (pv 4))) (pv 8)) ad (by rfl)) (by rfl)))⟩) (by rfl) (by rfl) (by rfl) (by rfl) (by intro _;rfl) (by intro _ _;rfl) (by intro _ _;rfl)))),?_⟩;have lj:=hj.length;have b2:∀ j,(jp2 L p j).length≤9:=fun j=>by
    unfold jp2;have h1:=jE (l:=L (p.1,j.1)) (f:=fun a=>jp1 j a (L (j.1+1,p.2))) (c:=3) (fun x _=>by unfold jp1;rw [aan];exact (hL _).1);have:=(hL (p.1,j.1)).1;lia
  refine ⟨_,rfl,jl,rfl,⟨_,SqL.of ej⟩,?_⟩;refine sC (Trn.list (xs:=us)) (fun i ys H'=>Same H H'∧PairsIn H' (dJ L p (js.take i)) ys) ⟨Same.refl _,.nil⟩ (fun i ys H' hi z=>SqL.of (z.1 _ _ ej)) (fun i x ys H0 H1 hi hx z Nx nx=>?_) (fun ys H' z p5 n5=>?_)
  · obtain ⟨rfl,hx⟩:=hx;obtain ⟨S,hp⟩:=z;obtain ⟨j,hji,t,xb,yb,rfl,et,hxb0,hyb0⟩:=Paired.at hj hx;have et:=S _ _ et;have hxb:=PairIn.mono (Tups.of S) hxb0;have hyb:=PairIn.mono (Tups.of S) hyb0;obtain ⟨bx,rfl,ebx⟩:=PairIn.key hxb;obtain ⟨byy,rfl,eby⟩:=PairIn.key hyb;obtain ⟨k1,k2,k3⟩:=hpk j (aaI hji);obtain ⟨t1,xs1,v1,e1,h1⟩:=PkAt.mono (Tups.of S) k1;obtain ⟨t2,xs2,v2,e2,h2⟩:=PkAt.mono (Tups.of S) k2;have ek1:=S _ _ ek;have l1:=h1.length;have l2:=h2.length;have c1:=(hL (p.1,j.1)).1;have c2:=(hL (j.1+1,p.2)).1;have lys:=hp.length;have lb:(dJ L p (js.take i)).length≤24 * 9:=by
      have:=jE (l:=js.take i) (f:=fun j=>jp2 L p j) (c:=9) (fun j _=>b2 j);have h3:(js.take i).length≤24:=by rw [aaE];lia
      exact aaJ this (abO _ h3)
    refine ⟨t,_,rfl,SqT.of et,rfl,_,_,rfl,_,_,rfl,_,_,rfl,_,_,rfl,_,_,rfl,rfl,?_⟩;refine ⟨_,rfl,_,rfl,pk,.ref t1,rfl,by rw [← v1];exact DGet.t (k:=ky (p.1,j.1)) ek1 ebx,t1,rfl,⟨_,SqT.of e1⟩,?_⟩;refine qK (Trn.tup (xs:=xs1)) (fun a ys' σ' H'=>∃ c5 c6 c7 c8,σ'=[some (.ref bx),some (.str j.2.1.str),some (.ref byy),some (.int j.2.2.1),some (.int j.2.2.2),c5,c6,c7,c8,some (.ref pk)]∧Same H1 H'∧PairsIn H' (dJ L p (js.take i)++((L (p.1,j.1)).take a).flatMap fun x=>jp1 j x (L (j.1+1,p.2))) ys') ⟨_,_,_,_,rfl,Same.refl _,by simpa using hp⟩ (fun a ys' σ' H' ha z=>by obtain ⟨_,_,_,_,_,S1,_⟩:=z;exact SqT.of (S1 _ _ e1)) (fun a x ys1 σ1 H2 H2' ha hx1 z Nx1 nx1=>?_) (fun ys1 σ1 H2 z=>?_)
    · obtain ⟨rfl,hx1⟩:=hx1;obtain ⟨c5,c6,c7,c8,rfl,S1,hp1⟩:=z;obtain ⟨pa,hpa,ba,rfl,eba⟩:=cB (PairsIn.mono (Tups.of S1) h1) hx1;have gpa:=(hL (p.1,j.1)).2 pa (aaI hpa);refine ⟨ba,_,rfl,SqT.of eba,rfl,_,_,rfl,_,_,rfl,rfl,?_⟩;refine ⟨_,rfl,_,rfl,pk,.ref t2,rfl,by rw [← v2];exact DGet.t (k:=ky (j.1+1,p.2)) (S1 _ _ ek1) (S1 _ _ eby),t2,rfl,⟨_,SqT.of (S1 _ _ e2)⟩,?_⟩;have lys1:=hp1.length;have lt1:(((L (p.1,j.1)).take a).flatMap fun x=>jp1 j x (L (j.1+1,p.2))).length≤3 * 3:=by
        have:=jE (l:=(L (p.1,j.1)).take a) (f:=fun x=>jp1 j x (L (j.1+1,p.2))) (c:=3) (fun x _=>by unfold jp1;rw [aan];exact c2);have h3:((L (p.1,j.1)).take a).length≤3:=by rw [aaE];lia
        exact aaJ this (abO _ h3)
      rw [aao] at lys1;refine qJ (Trn.tup (xs:=xs2)) (fun b ys' σ' H'=>∃ c7 c8,σ'=[some (.ref bx),some (.str j.2.1.str),some (.ref byy),some (.int j.2.2.1),some (.int j.2.2.2),some (.int pa.1),some (.int pa.2),c7,c8,some (.ref pk)]∧Same H1 H'∧PairsIn H' (dJ L p (js.take i)++((L (p.1,j.1)).take a).flatMap (fun x=>jp1 j x (L (j.1+1,p.2)))++jp1 j pa ((L (j.1+1,p.2)).take b)) ys') ⟨_,_,rfl,S1,by simpa [jp1] using hp1⟩ (fun b ys' σ' H' hb z=>?_) (fun b x ys2 σ2 H3 H3' hb hx2 z Nx2 nx2=>?_) (fun ys2 σ2 H3 z=>?_)
      · obtain ⟨_,_,_,S2,hp2⟩:=z;have:=hp2.length;rw [aao,aao] at this;have h3:(jp1 j pa ((L (j.1+1,p.2)).take b)).length≤3:=by unfold jp1;rw [aan,aaE];lia
        exact ⟨SqT.of (S2 _ _ e2),aU (by lia)⟩
      · obtain ⟨rfl,hx2⟩:=hx2;obtain ⟨c7,c8,rfl,S2,hp2⟩:=z;obtain ⟨pb,hpb,bb,rfl,ebb⟩:=cB (PairsIn.mono (Tups.of S2) h2) hx2;have gpb:=(hL (j.1+1,p.2)).2 pb (aaI hpb);refine ⟨bb,_,rfl,SqT.of ebb,rfl,_,_,rfl,_,_,rfl,rfl,?_⟩;refine ⟨_,rfl,_,rfl,_,rfl,pa.1,j.2.1,pb.1,rfl,gpa.1,gpb.1,?_⟩;refine ⟨_,rfl,_,rfl,_,rfl,_,_,rfl,rfl,⟨gpa.2,k3⟩,_,_,rfl,rfl,_,rfl,_,_,rfl,rfl,(by show 2≤sizeLine;decide),fun o ho=>nx2 _ _ _ ⟨_,_,rfl,S2.trans (Same.new ho _),?_⟩⟩;have etb:(L (j.1+1,p.2)).take (b+1)=(L (j.1+1,p.2)).take b++[pb]:=by rw [aa7,hpb];rfl
        rw [etb];unfold jp1;rw [aaS,← abB];exact PairsIn.snoc (PairsIn.mono (Tups.of (Same.new ho _)) hp2) ⟨o,rfl,ac⟩
      · obtain ⟨c7,c8,rfl,S2,hp2⟩:=z;refine nx1 _ _ _ ⟨_,_,_,_,rfl,S2,?_⟩;rw [← l2,abq] at hp2;rw [iX (f:=fun x=>jp1 j x (L (j.1+1,p.2))) hpa,← abB];exact hp2
    · obtain ⟨c5,c6,c7,c8,rfl,S1,hp1⟩:=z;refine nx _ _ ⟨S.trans S1,?_⟩;rw [← l1,abq] at hp1;unfold dJ at hp1 ⊢;rw [iX (f:=fun j=>jp2 L p j) hji];exact hp1
  · obtain ⟨S,hp⟩:=z;rw [← lj,abq] at hp;have s5:=Same.new n5 (.lst ys);exact q p5 ys _ (S.trans s5) (S.free n5) ac (PairsIn.mono (Tups.of s5) hp)
open PySem L2
def tP:Str:=("pick_three":Str) ++ ".<locals>." ++ "<lambda>"
def kH (p:Int × Int):List Int:=[p.2]
def lZ (p:Int × Int):List Int:=[-p.1,p.2]
def LT (T:Addr) (H:Hp):Prop:=∃ tp,LTab T tP H tp
def lG (T:Addr):Sp:=fun vs H Q _=>∃ (l:Addr) (us:List V) (ps:List (Int × Int)),vs=[.ref l]∧H l=some (.lst us)∧PairsIn H ps us∧0 < us.length∧LT T H ∧
  ∀ t x y z H',But T H H'→H t=none→LT T H'→H' t=some (.tup [x,y,z])→us[au (bz kH ps) (us.length - 1)]?=some x→us[au (bz eQ ps) (us.length - 1)]?=some y→us[au (bz lZ ps) (us.length - 1)]?=some z→Q (.ref t) H'
abbrev a_:Stmt:=top 39
theorem sc_pick_three:FnScope ["found","first","greatest"] ["found"] (ai a_):=⟨rfl,rfl,rfl,by decide +kernel,rfl,by decide +kernel,by decide +kernel⟩
theorem il {c T:Addr} (F:FunC K "pick_three" "pick_three" a_ f fd c) (C:PySem.W.CodeHd base c T) (hB:base.BuiltinsAt mg T) (hmin:mg "min" = none):FnOk P w K mg base CX0 4 f fd ["found"] (lG T):=by
  refine F.ok sc_pick_three (fun vs H Q E h=>?_) (fun A outer s H vs Q E hr h=>?_)
  · obtain ⟨l,us,ps,rfl,_⟩:=h;rfl
  obtain ⟨l,us,ps,rfl,el,hps,hne,hT,q⟩:=h;have nd:=sc_pick_three.nd;have S1:FnScope ["way"] ["way"] { kind:=.function,names:=[("way",.local)],isGenerator:=false,isCoroutine:=false }:=⟨rfl,rfl,rfl,by decide,rfl,by decide,by decide⟩
  have k1:∀ p x H (Q:VK),PairIn H p x→(∀ k H',KeyIn false (kH p) k H'→Same H H'→Q k H')→tOp (rW K) (rK 0) (tC (V.int 1)) [some x] H Q:=fun p x H Q ⟨a,e,ha⟩ q=>by
    subst e;exact ⟨_,rfl,a,_,_,_,rfl,rfl,SqT.of ha,rfl,q _ H ⟨p.2,rfl,rfl⟩ (Same.refl _)⟩
  refine ⟨_,ag (aC (i:=1) nd rfl (Or.inl rfl) (iL (key:=kH) (kd:=false) (y:="way") (c:=c) (P:=T) (hr.mono (by decide)) (by rfl) hmin acd (aa (pv 0) ad) (by rfl) (by rfl) rfl C hB S1 (fun _ _ _ _=>rfl) (fun _ _ _ _ _=>(a4 (fF (K:=K) rfl) (pv 0) af (fun _ _=>rfl))) k1))
    (ag (aC (i:=2) nd rfl (Or.inl rfl) (iL (key:=lZ) (kd:=true) (y:="way") (c:=c) (P:=T) (hr.mono (by decide)) (by rfl) hmin acd (aa (pv 0) ad) (by rfl) (by rfl) rfl C hB S1 (fun _ _ _ _=>rfl) (fun _ _ _ _ _=>bK (aa (oQ la (a4 (fF (K:=K) rfl) (pv 0) af (fun _ _=>rfl))) (aa (a4 (fF (K:=K) rfl) (pv 0) af (fun _ _=>rfl)) ad))) ?_))
    (am (az (bK (aa (pv 1) (aa (ax (oi (hr.mono (by decide))) (by rfl) hmin acd (aa (pv 0) ad)) (aa (pv 2) ad))))))),?_⟩
  · intro p x H Q ⟨a,e,ha⟩ q;subst e;exact ⟨_,rfl,a,_,_,_,rfl,rfl,SqT.of ha,rfl,_,rfl,_,rfl,a,_,_,_,rfl,rfl,SqT.of ha,rfl,(by show 2≤sizeLine;decide),fun t ht=>q (.ref t) _ ⟨t,rfl,ac⟩ (Same.new ht _)⟩
  · have nl:l≠T:=fun z=>by obtain ⟨tp,h⟩:=hT;rw [z,h.tab] at el;cases el
    have tT:∀ {H H':Hp},But T H H'→LT T H→∀ b xs,H b=some (.tup xs)→H' b=some (.tup xs):=fun b h c xs e=>b c _ (fun z=>by obtain ⟨tp,h⟩:=h;rw [z,h.tab] at e;cases e) e;refine ⟨_,rfl,l,us,ps,rfl,el,hps,hne,hT,fun x1 H1 hx1 B1 T1=>?_⟩;have el1:=B1 _ _ nl el;have hps1:=PairsIn.tups (tT B1 hT) hps;refine ⟨_,rfl,l,us,ps,rfl,el1,hps1,hne,T1,fun x2 H2 hx2 B2 T2=>?_⟩;have el2:=B2 _ _ nl el1;have hps2:=PairsIn.tups (tT B2 T1) hps1;refine ⟨_,rfl,_,rfl,l,us,ps,rfl,el2,hps2,hne,fun x3 hx3=>⟨_,rfl,(by show 3≤sizeLine;decide),fun t ht=>?_⟩⟩;have st:=Same.new ht (.tup [x1,x3,x2]);have nT:t≠T:=fun z=>by obtain ⟨tp,h⟩:=T2;rw [z,h.tab] at ht;cases ht
    refine q t x1 x3 x2 _ (fun b o hb e=>st _ _ (B2 _ _ hb (B1 _ _ hb e))) ?_ ?_ ac hx1 hx3 hx2
    · cases e:H t with
      | none=>rfl
      | some o=>have:=B2 _ _ nT (B1 _ _ nT e);rw [ht] at this;cases this
    · obtain ⟨tp,h⟩:=T2;refine ⟨tp,st _ _ h.tab,h.tri,fun pos' cv hc=>?_⟩;obtain ⟨d,e1,e2⟩:=h.cds pos' cv hc;exact ⟨d,e1,st _ _ e2⟩
end
open PySem L2
def dI (ps:List (Int × Int)):List (Int × Int):=[ps.getD (au (bz kH ps) (ps.length - 1)) (0,0),ps.getD (au (bz eQ ps) (ps.length - 1)) (0,0),ps.getD (au (bz lZ ps) (ps.length - 1)) (0,0)]
def fnd (ns:List Int) (gs:List Sg) (L:Int × Int→List (Int × Int)) (q:Int × Int):List (Int × Int):=if q.1=q.2 then [(ns.getD q.1.toNat 0,0)] else dJ L q (da gs q (a6 q) 0)
def dL (ns:List Int) (gs:List Sg) (lo:List (Int × Int)) (L:Int × Int→List (Int × Int)) (q:Int × Int):Prop:=L q=if fnd ns gs L q≠[]∧q∉lo then dI (fnd ns gs L q) else []
theorem j5 {kvs:List (List Key × V)} {k:List Key} {v:V} (h:k∉kvs.map (·.1)):cX kvs k v=kvs++[(k,v)]:=by
  unfold cX;rw [if_neg];intro q;obtain ⟨p,hp,e⟩:=List.any_eq_true.mp q;exact h (aa5.mpr ⟨p,hp,of_decide_eq_true e⟩)
theorem cf {ps:List (Int × Int)} (h:ps≠[]):∀ x∈dI ps,x∈ps:=fun x hx=>by
  have l:0 < ps.length:=abT.mpr h;have key:∀ kf:Nat→List Int,ps.getD (au kf (ps.length - 1)) (0,0)∈ps:=fun kf=>by
    have:=hW kf (ps.length - 1);have hb:au kf (ps.length - 1) < ps.length:=by lia
    rw [aax,aad hb];exact ace hb
  simp only [dI,aaj,aa6,or_false] at hx;rcases hx with rfl|rfl|rfl
  · exact key _
  · exact key _
  · exact key _
theorem jT:∀ n,n≤9→(sfl n n).Pairwise (fun p q=>p.2 - p.1≤q.2 - q.1):=by decide +kernel
theorem gw {n i:Nat} (hn:n≤9) {p q:Int × Int} (hi:(sfl n n)[i]?=some p) (hq:0≤q.1∧q.1≤q.2∧q.2 < n) (hl:q.2 - q.1 < p.2 - p.1):q∈(sfl n n).take i:=by
  have hm:q∈sfl n n:=by
    have z:=gr n q.1.toNat q.2.toNat (by lia) (by lia);have e:((q.1.toNat:Int),(q.2.toNat:Int))=q:=by
      obtain ⟨a,b⟩:=q;simp only at *;rw [show (a.toNat:Int)=a by lia,show (b.toNat:Int)=b by lia]
    rw [e] at z;exact z
  obtain ⟨j,hj,e⟩:=abF hm;obtain ⟨hi1,hi2⟩:=aai.mp hi;by_cases c:j < i
  · rw [List.mem_iff_getElem?];exact ⟨j,by rw [List.getElem?_take];rw [if_pos c,aad hj,e]⟩
  · have hr:=abA.mp (jT n hn);by_cases c2:i=j
    · subst c2;rw [hi2] at e;rw [e] at hl;lia
    · have:=hr i j hi1 hj (by lia);rw [hi2,e] at this;lia
theorem fo (n:Nat):∀ p∈sfl n n,0≤p.1∧p.1≤p.2∧p.2 < n:=fun p hp=>by
  unfold sfl sfR at hp;rw [abp] at hp;obtain ⟨m,hm,hp⟩:=hp;rw [List.mem_map] at hp;obtain ⟨f,hf,rfl⟩:=hp;rw [List.mem_range] at hf;simp only;lia
theorem fN:∀ n,n≤9→(sfl n n).Nodup:=by decide +kernel
theorem kJ {c L R:Int} {j:Jt}:∀ {xs:List Sg} {st:Int},j∈cY c L R xs st→j.1=c∧j.2.2.2=R∧∃ k:Nat,k < xs.length∧j.2.2.1=st+(k:Int) * (L * R)
  | [],st,h=>by simp [cY] at h
  | g :: r,st,h=>by
    rcases aaj.mp h with rfl|h
    · exact ⟨rfl,rfl,0,by simp,by simp⟩
    · obtain ⟨a,b,k,hk,e⟩:=kJ h;refine ⟨a,b,k+1,by simp;lia,?_⟩;rw [e,Int.natCast_add,abK];simp only [Int.natCast_one,abE];lia
theorem fE {gs:List Sg} {p:Int × Int} {j:Jt} (g3:gs.length≤3) (hp:0≤p.1) (hp2:p.2≤8):∀ {cs:List Int} {st:Int},(∀ c∈cs,p.1≤c∧c < p.2)→0≤st→j∈da gs p cs st→(p.1≤j.1∧j.1 < p.2)∧(0≤j.2.2.2∧j.2.2.2 < 1000000000)∧0≤j.2.2.1∧j.2.2.1≤st+(cs.length:Int) * (3 * (1000000000 * 1000000000))
  | [],st,_,_,h=>by simp [da] at h
  | c :: cs,st,hc,h0,h=>by
    have c1:=hc c aav;have bL:=eX gs.length g3 (c - p.1+1).toNat (by lia);have bR:=eX gs.length g3 (p.2 - c).toNat (by lia);have m0:0≤Lw gs.length p c * Rw gs.length p c:=abG bL.1 bR.1;have m1:Lw gs.length p c * Rw gs.length p c≤1000000000 * 1000000000:=Int.mul_le_mul (by unfold Lw;lia) (by unfold Rw;lia) bR.1 (by decide);have g3':(gs.length:Int)≤3:=by lia
    have lc:((c :: cs).length:Int)=(cs.length:Int)+1:=by simp
    rcases aap.mp h with h|h
    · obtain ⟨a,b,k,hk,e⟩:=kJ h;rw [a,b];have k1:(k:Int) * (Lw gs.length p c * Rw gs.length p c)≤3 * (1000000000 * 1000000000):=Int.mul_le_mul (by lia) m1 m0 (by decide);have k0:0≤(k:Int) * (Lw gs.length p c * Rw gs.length p c):=abG (by lia) m0;refine ⟨c1,⟨bR.1,bR.2⟩,?_,?_⟩
      · rw [e];lia
      · rw [e,lc];have : (0:Int)≤(cs.length:Int):=by lia
        lia
    · have k1:(gs.length:Int) * (Lw gs.length p c * Rw gs.length p c)≤3 * (1000000000 * 1000000000):=Int.mul_le_mul g3' m1 m0 (by decide);have k0:0≤(gs.length:Int) * (Lw gs.length p c * Rw gs.length p c):=abG (by lia) m0;obtain ⟨a,b,d,e⟩:=fE g3 hp hp2 (fun x hx=>hc x (aal _ hx)) (by lia) h;refine ⟨a,b,d,?_⟩;rw [lc];lia
theorem g9 {p:Int × Int} {c:Int} (h:c∈a6 p):p.1≤c∧c < p.2:=by
  unfold a6 at h;obtain ⟨k,hk,rfl⟩:=aa5.mp h;have:=aa9.mp hk;lia
def bdW (q:Int × Int) (x:Int × Int):Prop:=x.1.natAbs≤10 ^ (30 * (q.2 - q.1+1).toNat)∧x.2.natAbs≤10 ^ (30 * (q.2 - q.1+1).toNat)
theorem iK {n:Nat} (h:n≤9):10 ^ (30 * n) < 2 ^ 4000:=ab1 (Nat.pow_le_pow_right (by decide) (show 30 * n≤270 by lia)) (by decide +kernel)
theorem iP {H:Hp} {ps:List (Int × Int)} {us:List V} (h:PairsIn H ps us):us=[]↔ps=[]:=by
  have:=h.length;constructor
  · rintro rfl;exact List.length_eq_zero_iff.mp this
  · rintro rfl;exact List.length_eq_zero_iff.mp this.symm
theorem mO {α β:Type} {f g:α→List β}:∀ {l:List α},(∀ x∈l,f x=g x)→l.flatMap f=l.flatMap g
  | [],_=>rfl
  | a :: r,h=>by rw [List.flatMap_cons,List.flatMap_cons,h a aav,mO fun x hx=>h x (aal _ hx)]
theorem sL {ns:List Int} {gs:List Sg} {L L':Int × Int→List (Int × Int)} {q:Int × Int} (g3:gs.length≤3) (h0:0≤q.1) (h8:q.2≤8) (h:∀ c,q.1≤c→c < q.2→L' (q.1,c)=L (q.1,c)∧L' (c+1,q.2)=L (c+1,q.2)):fnd ns gs L' q=fnd ns gs L q:=by
  unfold fnd;split
  · rfl
  · unfold dJ;refine mO fun j hj=>?_;have hb:=(fE g3 h0 h8 (fun c hc=>g9 hc) (aaK 0) hj).1;obtain ⟨e1,e2⟩:=h j.1 hb.1 hb.2;unfold jp2;rw [e1,e2]
theorem bdW.bg {q x:Int × Int} (h:bdW q x) (hq:(q.2 - q.1+1).toNat≤9):Bg x.1∧Bg x.2:=⟨ab1 h.1 (iK hq),ab1 h.2 (iK hq)⟩
theorem qk {a b:Nat} (ha:1≤a) (hb:1≤b):10 ^ (30 * a) * 10 ^ 25+10 ^ (30 * b)+10 ^ 25≤10 ^ (30 * (a+b)):=by
  have e:10 ^ (30 * (a+b))=10 ^ (30 * a) * 10 ^ (30 * b):=by rw [← Nat.pow_add];congr 1;lia
  have h1:10 ^ 30≤10 ^ (30 * a):=Nat.pow_le_pow_right (by decide) (by lia);have h2:10 ^ 30≤10 ^ (30 * b):=Nat.pow_le_pow_right (by decide) (by lia);rw [e];generalize 10 ^ (30 * a)=x at h1 ⊢;generalize 10 ^ (30 * b)=y at h2 ⊢;have h3:x * 10 ^ 30≤x * y:=Nat.mul_le_mul_left _ h2;have h4:10 ^ 30 * y≤x * y:=abO _ h1;have a1:x * (10 ^ 25 * 4)≤x * 10 ^ 30:=Nat.mul_le_mul_left x (by decide);have a2:4 * y≤10 ^ 30 * y:=abO y (by decide);have a3:10 ^ 25 * 4≤y:=aaJ (by decide) h2;have b1:=aaJ a1 h3;have b2:=aaJ a2 h4;rw [← Nat.mul_assoc] at b1;clear a1 a2 h1 h2 h3 h4 e;generalize x * y=m at b1 b2 ⊢;generalize x * 10 ^ 25=u at b1 ⊢;generalize 10 ^ 25=v at a3 ⊢;lia
theorem tR {p:Int × Int} {j:Jt} {a b:Int × Int} (h1:p.1≤j.1∧j.1 < p.2) (h2:0≤j.2.2.2∧j.2.2.2 < 1000000000) (h3:0≤j.2.2.1∧j.2.2.1≤10 ^ 25) (ha:bdW (p.1,j.1) a) (hb:bdW (j.1+1,p.2) b):bdW p (j.2.1.op a.1 b.1,j.2.2.1+a.2 * j.2.2.2+b.2):=by
  obtain ⟨a1,a2⟩:=ha;obtain ⟨b1,b2⟩:=hb;simp only at a1 a2 b1 b2;have el:(p.2 - p.1+1).toNat=(j.1 - p.1+1).toNat+(p.2 - (j.1+1)+1).toNat:=by lia
  have tp:=qk (a:=(j.1 - p.1+1).toNat) (b:=(p.2 - (j.1+1)+1).toNat) (by lia) (by lia);have em:10 ^ (30 * ((j.1 - p.1+1).toNat+(p.2 - (j.1+1)+1).toNat))=10 ^ (30 * (j.1 - p.1+1).toNat) * 10 ^ (30 * (p.2 - (j.1+1)+1).toNat):=by rw [← Nat.pow_add];congr 1;lia
  unfold bdW;rw [el];generalize 10 ^ (30 * (j.1 - p.1+1).toNat)=x at a1 a2 tp em ⊢;generalize 10 ^ (30 * (p.2 - (j.1+1)+1).toNat)=y at b1 b2 tp em ⊢;generalize 10 ^ (30 * ((j.1 - p.1+1).toNat+(p.2 - (j.1+1)+1).toNat))=z at tp em ⊢;refine ⟨?_,?_⟩
  · simp only;cases j.2.1 with
    | plus=>show (a.1+b.1).natAbs≤z;lia
    | minus=>show (a.1 - b.1).natAbs≤z;lia
    | times=>show (a.1 * b.1).natAbs≤z;rw [Int.natAbs_mul,em];exact abH a1 b1
  · simp only;have hm:(a.2 * j.2.2.2).natAbs≤x * 10 ^ 25:=by rw [Int.natAbs_mul];exact abH a2 (by lia)
    have h10:((10 ^ 25:Nat):Int)=(10:Int) ^ 25:=by decide
    lia
section
variable {P:Program} {w:World} {K:aab} {mg:Str→Option Value} {base:Heap} {f:Addr} {fd:FuncData}
def mv (T:Addr):Sp:=fun vs H Q _=>∃ (r:Addr) (ns:List Int) (gs:List Sg) (l:Addr) (ul:List V) (lo:List (Int × Int)),vs=[.ref r,.str (aw gs),.ref l]∧H r=some (.lst (ns.map V.int))∧1≤ns.length∧ns.length≤9∧1≤gs.length∧gs.length≤3∧Small ns∧(H l=some (.lst ul)∨∀ H',SqT K H' l ul)∧PairsIn H lo ul∧LT T H ∧
  ∀ pk kvs (L:Int × Int→List (Int × Int)) H',But T H H'→LT T H'→H pk=none→H' pk=some (.dT kvs)→kvs.map (·.1)=(sfl ns.length ns.length).map ky→(∀ q∈sfl ns.length ns.length,PkAt H' kvs q (L q)∧dL ns gs lo L q)→Q (.ref pk) H'
abbrev aV:Stmt:=top 37
theorem aG:FnScope ["row","signs","left_out","counts","picks","stretch","first","last","found"] ["row","signs","left_out"] (ai aV):=⟨rfl,rfl,rfl,by decide +kernel,rfl,by decide +kernel,by decide +kernel⟩
theorem eF {T tD:Addr} (F:FunD K "picks_by_stretch" "picks_by_stretch" aV f fd tD) (B:Bu K mg) (C_counts_up_to:Cal P w K mg base "counts_up_to" 2 ["signs","many"] jQ) (C_shorter_first:Cal P w K mg base "shorter_first" 1 ["many"] rR) (C_joints_of:Cal P w K mg base "joints_of" 2 ["signs","counts","stretch"] gv)
    (C_join_picks:Cal P w K mg base "join_picks" 2 ["picks","joints"] rS) (C_pick_three:Cal P w K mg base "pick_three" 4 ["found"] (lG T)):FnOk P w K mg base CX0 5 f fd ["row","signs","left_out"] (mv (K:=K) T):=by
  refine F.ok aG (fun vs H Q E h=>?_) (fun cdv A outer s H vs Q E hr h=>?_)
  · obtain ⟨r,ns,gs,l,ul,lo,rfl,_⟩:=h;rfl
  obtain ⟨r,ns,gs,l,ul,lo,rfl,er,h1,h9,g1,g3,sm,hlo,plo,hT,q⟩:=h;refine ⟨_,(@ag _ _ _ _ _ (@aC _ _ (3) _ _ _ _ (aG).nd rfl (Or.inl rfl) (@aB _ _ _ _ _ _ _ _ _ _ _ C_counts_up_to hr (by lia) rfl (@aa _ _ _ _ _ (pv 1) (@aa _ _ _ _ _ (@ax _ _ _ _ _ _ _ _ _ bc rfl B.ilen abl (@aa _ _ _ _ _ (pv 0) ad (by rfl)) (by decide) (by decide) (by rfl) (by rfl)) ad (by rfl)) (by rfl)) (by decide) (by rfl) (by rfl)) (by rfl) (by first|exact .inl rfl|exact .inr rfl|assumption)) (@ag _ _ _ _ _ (@aC _ _ (4) _ _ _ _ (aG).nd rfl (Or.inl rfl) oU (by rfl) (by first|exact .inl rfl|exact .inr rfl|assumption)) (@ag _ _ _ _ _ (@dA _ _ _ _ _ _ _ _ abb rfl (@cN _ _ _ _ (@aB _ _ _ _ _ _ _ _ _ _ _ C_shorter_first hr (by lia) rfl (@aa _ _ _ _ _ (@ax _ _ _ _ _ _ _ _ _ bc rfl B.ilen abl (@aa _ _ _ _ _ (pv 0) ad (by rfl)) (by decide) (by decide) (by rfl) (by rfl)) ad (by rfl)) (by decide) (by rfl) (by rfl))) (@ao _ _ (5) _ (aG).nd rfl (Or.inl rfl) (.inl rfl)) (@ag _ _ _ _ _ (@dj _ _ _ _ _ _ (pv 5) (@dk _ _ _ _ _ _ rfl (@ap _ _ _ _ _ (@ao _ _ (6) _ (aG).nd rfl (Or.inl rfl) (.inl rfl)) (@ap _ _ _ _ _ (@ao _ _ (7) _ (aG).nd rfl (Or.inl rfl) (.inl rfl)) bN (by rfl)) (by rfl)) (by rfl) (by rfl)) (by rfl) (by rfl) (by rfl)) (@qt _ _ _ _ _ (@aC _ _ (8) _ _ _ _ (aG).nd rfl (Or.inl rfl) (@gE _ _ _ _ _ _ _ _ (@aX _ _ _ _ _ _ _ _ fD (pv 6) (pv 7) (bt _)) (@aD _ _ _ _ (@aa _ _ _ _ _ (@bK _ _ _ _ _ (@aa _ _ _ _ _ (@a4 _ _ _ _ _ _ _ aY (pv 0) (pv 6) (fun _ _=>rfl)) (@aa _ _ _ _ _ af ad (by rfl)) (by rfl))) ad (by rfl))) (@aB _ _ _ _ _ _ _ _ _ _ _ C_join_picks hr (by lia) rfl (@aa _ _ _ _ _ (pv 4) (@aa _ _ _ _ _ (@aB _ _ _ _ _ _ _ _ _ _ _ C_joints_of hr (by lia) rfl (@aa _ _ _ _ _ (pv 1) (@aa _ _ _ _ _ (pv 3) (@aa _ _ _ _ _ (pv 5) ad (by rfl)) (by rfl)) (by rfl)) (by decide) (by rfl) (by rfl)) ad (by rfl)) (by rfl)) (by decide) (by rfl) (by rfl))) (by rfl) (by first|exact .inl rfl|exact .inr rfl|assumption)) (@am _ _ _ (@qv _ _ _ _ _ _ _ _ _ (u1 hr.units) (pv 4) (pv 5) (@gE _ _ _ _ _ _ _ _ (@PW.pt _ _ _ (@rX _ _ _ _ _ _ _ (@j6 _ _ _ (pv 8) (fun _=>rfl)) (@qr _ _ _ _ (@aX _ _ _ _ _ _ _ _ (@lO _ _ rfl hr.units) (pv 5) (pv 2) (by with_unfolding_all rfl))))) (@aB _ _ _ _ _ _ _ _ _ _ _ C_pick_three hr (by lia) rfl (@aa _ _ _ _ _ (pv 8) ad (by rfl)) (by decide) (by rfl) (by rfl)) (@bK _ _ _ _ _ ad)) rfl)))) (by intro _;rfl)) (@am _ _ _ (@az _ _ _ _ (pv 4)))))),?_⟩;have hl:(ns.map V.int).length=ns.length:=aan _;have zl:(aw gs).length=gs.length:=fm gs;have t2:(2:Nat)≤sizeLine:=by decide
  refine ⟨_,rfl,_,rfl,r,_,rfl,.inl (SqL.of er),?_⟩;rw [hl];refine ⟨aw gs,ns.length,rfl,by rw [zl];exact g3,by lia,by lia,fun pc H1 s1 npc ec=>?_⟩;rw [zl,show (((ns.length:Nat):Int) - 1).toNat=ns.length - 1 by lia] at ec;refine fun pk nk=>?_;have sk:=Same.new nk (.dT []);have ek0:upd H1 pk (.dT []) pk=some (.dT []):=ac;generalize upd H1 pk (.dT [])=H2 at sk ek0 ⊢;refine ⟨_,rfl,r,_,rfl,.inl (SqL.of ((s1.trans sk) _ _ er)),?_⟩;rw [hl];refine ⟨ns.length,rfl,h9,fun pl us H3 s3 npl epl hus=>?_⟩;have S3:=(s1.trans sk).trans s3;have nkH:H pk=none:=s1.free nk;obtain ⟨tp0,T0⟩:=hT;have npkT:pk≠T:=fun e=>by rw [e,T0.tab] at nkH;cases nkH
  have nplT:pl≠T:=fun e=>by rw [e,(s1.trans sk) _ _ T0.tab] at npl;cases npl
  have nplk:pl≠pk:=fun e=>by rw [e,ek0] at npl;cases npl
  have npcT:pc≠T:=fun e=>by rw [e,T0.tab] at npc;cases npc
  have npck:pc≠pk:=ak ec nk;have nrT:r≠T:=fun e=>by rw [e,T0.tab] at er;cases er
  have nrk:r≠pk:=ak er nkH;have lus:=hus.length;have l81:=jd ns.length ns.length;have l81':ns.length * ns.length≤9 * 9:=abH h9 h9;have LT3:LT T H3:=⟨tp0,S3 _ _ T0.tab,T0.tri,fun pos' cv hc=>by obtain ⟨d,e1,e2⟩:=T0.cds pos' cv hc;exact ⟨d,e1,S3 _ _ e2⟩⟩
  refine ⟨pl,rfl,⟨_,SqL.of epl⟩,kQ (xs:=us) (fun i σ H'=>∃ (kvs:List (List Key × V)) (L:Int × Int→List (Int × Int)) (c5 c6 c7 c8:Option V),σ=[some (.ref r),some (.str (aw gs)),some (.ref l),some (.ref pc),some (.ref pk),c5,c6,c7,c8]∧(∀ b o,b≠pk→b≠T→H3 b=some o→H' b=some o)∧LT T H'∧H' pk=some (.dT kvs)∧kvs.map (·.1)=((sfl ns.length ns.length).take i).map ky∧(∀ q,(L q).length≤3∧(q∉(sfl ns.length ns.length).take i→L q=[])∧∀ x∈L q,bdW q x)∧∀ q∈(sfl ns.length ns.length).take i,PkAt H' kvs q (L q)∧dL ns gs lo L q)
    ⟨[],fun _=>[],_,_,_,_,rfl,fun b o _ _ h=>h,LT3,s3 _ _ ek0,by simp,fun q=>⟨by simp,fun _=>rfl,fun x hx=>by simp at hx⟩,fun q hq=>by simp at hq⟩ ?_ ?_ ?_⟩
  · rintro i σ H' _ ⟨_,_,_,_,_,_,rfl,kp,_⟩;exact SqL.of (kp _ _ nplk nplT epl)
  · rintro i x σ H4 hx ⟨kvs,L,c5,c6,c7,c8,rfl,kp,lt,ek,lk,hL,hq⟩;obtain ⟨p,hpi,hpx0⟩:=cB hus hx;have ilt:i < us.length:=(aai.mp hx).1;have hpm:=fo ns.length p (aaI hpi);have TT:Tups H3 H4:=fun b xs hb=>kp b _ (fun e=>by rw [e,s3 _ _ ek0] at hb;cases hb) (fun e=>by rw [e,S3 _ _ T0.tab] at hb;cases hb) hb;have hpx:=PairIn.mono TT hpx0;have hpx':=hpx;obtain ⟨bp,rfl,ebp⟩:=hpx;have er4:=kp _ _ nrk nrT (S3 _ _ er);have ec4:=kp _ _ npck npcT ((sk.trans s3) _ _ ec);have pnew:p∉(sfl ns.length ns.length).take i:=fun z=>by
      obtain ⟨k,hk⟩:=acb.mp z;have hk1:k < i:=by
        have:=(aai.mp hk).1;rw [aaE] at this;lia
      rw [abC hk1] at hk;obtain ⟨h1',e1'⟩:=aai.mp hk;obtain ⟨h2',e2'⟩:=aai.mp hpi;exact abA.mp (fN ns.length h9) k i h1' h2' hk1 (by rw [e1',e2'])
    have etake:(sfl ns.length ns.length).take (i+1)=(sfl ns.length ns.length).take i++[p]:=by rw [aa7,hpi];rfl
    have part:∀ q,q.1≤q.2→q∈(sfl ns.length ns.length).take (i+1)→∀ z:Int × Int,z.2 - z.1 < q.2 - q.1→z≠p:=fun q _ hqm z hz e=>by
      subst e;rw [etake] at hqm;rcases aap.mp hqm with hm|hm
      · obtain ⟨k,hk⟩:=acb.mp hm;have hk1:k < i:=by
          have:=(aai.mp hk).1;rw [aaE] at this;lia
        rw [abC hk1] at hk;obtain ⟨h1',e1'⟩:=aai.mp hk;obtain ⟨h2',e2'⟩:=aai.mp hpi;have:=abA.mp (jT ns.length h9) k i h1' h2' hk1;rw [e1',e2'] at this;lia
      · rw [aak.mp hm] at hz;lia
    have lk':kvs.length≤i:=by have:=congrArg List.length lk;rw [aan,aan,aaE] at this;lia
    have fin:∀ (ls:List (Int × Int)) (t:Addr) (xs:List V) (H5:Hp) (d6 d7 d8:Option V),(∀ b o,b≠pk→b≠T→H4 b=some o→H5 b=some o)→LT T H5→H5 pk=some (.dT kvs)→H5 t=some (.tup xs)→PairsIn H5 ls xs→ls.length≤3→(∀ x∈ls,bdW p x)→(ls=if fnd ns gs L p≠[]∧p∉lo then dI (fnd ns gs L p) else []) →
        ∃ H6,DPut H5 pk (.ref bp) (.ref t) H6∧∃ (kvs:List (List Key × V)) (L:Int × Int→List (Int × Int)) (c5 c6 c7 c8:Option V),[some (V.ref r),some (.str (aw gs)),some (.ref l),some (.ref pc),some (.ref pk),some (.ref bp),d6,d7,d8]=[some (.ref r),some (.str (aw gs)),some (.ref l),some (.ref pc),some (.ref pk),c5,c6,c7,c8]∧(∀ b o,b≠pk→b≠T→H3 b=some o→H6 b=some o)∧LT T H6∧H6 pk=some (.dT kvs)∧kvs.map (·.1)=((sfl ns.length ns.length).take (i+1)).map ky∧(∀ q,(L q).length≤3∧(q∉(sfl ns.length ns.length).take (i+1)→L q=[])∧∀ x∈L q,bdW q x)∧∀ q∈(sfl ns.length ns.length).take (i+1),PkAt H6 kvs q (L q)∧dL ns gs lo L q:=fun ls t xs H5 d6 d7 d8 k5 lt5 ek5 et5 hp5 l3 hb he=>by
      have ntk:t≠pk:=fun e=>by rw [e,ek5] at et5;cases et5
      have T45:Tups H4 H5:=fun b ys hb=>k5 b _ (fun e=>by rw [e,ek] at hb;cases hb) (fun e=>by obtain ⟨tp,lt⟩:=lt;rw [e,lt.tab] at hb;cases hb) hb;have T56:Tups H5 (upd H5 pk (.dT (cX kvs (ky p) (.ref t)))):=fun b ys hb=>by rw [aj (fun e=>by rw [e,ek5] at hb;cases hb)];exact hb
      have fe:∀ q∈(sfl ns.length ns.length).take (i+1),fnd ns gs (fun q'=>if q'=p then ls else L q') q=fnd ns gs L q:=fun q hqm=>by
        have hg:=fo ns.length q (List.mem_of_mem_take hqm);refine sL g3 hg.1 (by lia) fun c h1 h2=>⟨?_,?_⟩
        · rw [if_neg (part q hg.2.1 hqm _ (by simp only;lia))]
        · rw [if_neg (part q hg.2.1 hqm _ (by simp only;lia))]
      refine ⟨_,DPut.t (k:=ky p) ek5 (T45 _ _ ebp) (aU (by lia)),cX kvs (ky p) (.ref t),fun q'=>if q'=p then ls else L q',_,_,_,_,rfl,fun b o h1 h2 h3=>?_,?_,ac,?_,fun q=>?_,fun q hqm=>?_⟩
      · rw [aj h1];exact k5 _ _ h1 h2 (kp _ _ h1 h2 h3)
      · obtain ⟨tp,h⟩:=lt5;refine ⟨tp,by rw [aj npkT.symm];exact h.tab,h.tri,fun pos' cv hc=>?_⟩;obtain ⟨d,e1,e2⟩:=h.cds pos' cv hc;exact ⟨d,e1,by rw [aj (fun e=>by rw [e,ek5] at e2;cases e2)];exact e2⟩
      · rw [j5 (fun z=>by rw [lk] at z;obtain ⟨q',hq',e⟩:=aa5.mp z;exact pnew (jx e ▸ hq')),aaS,lk,etake,aaS];rfl
      · by_cases e:q=p
        · subst e;simp only [if_true];refine ⟨l3,fun z=>absurd (by rw [etake];simp) z,hb⟩
        · simp only [if_neg e];refine ⟨(hL q).1,fun z=>(hL q).2.1 fun y=>z (by rw [etake];exact aaz _ y),(hL q).2.2⟩
      · have fq:=fe q hqm;rw [etake] at hqm;rcases aap.mp hqm with hm|hm
        · have ne:q≠p:=fun e=>pnew (e ▸ hm);obtain ⟨⟨t0,xs0,v0,e0,p0⟩,pe⟩:=hq q hm;refine ⟨⟨t0,xs0,?_,T56 _ _ (T45 _ _ e0),?_⟩,?_⟩
          · rw [jN,if_neg (fun e=>ne (jx e))];exact v0
          · simp only [if_neg ne];exact PairsIn.mono (T45.trans T56) p0
          · unfold dL;rw [fq];simp only [if_neg ne];exact pe
        · have e:=aak.mp hm;subst e;refine ⟨⟨t,xs,?_,T56 _ _ et5,?_⟩,?_⟩
          · rw [jN,if_pos rfl]
          · simp only [if_true];exact PairsIn.mono T56 hp5
          · unfold dL;rw [fq];simp only [if_true];exact he
    refine ⟨_,rfl,bp,_,rfl,SqT.of ebp,rfl,_,_,rfl,_,_,rfl,rfl,?_⟩;have fbd:∀ x∈fnd ns gs L p,bdW p x:=fun x hx=>by
      unfold fnd at hx;split at hx
      · rename_i e;rw [aak.mp hx];have e1:(p.2 - p.1+1).toNat=1:=by lia
        have hi:p.1.toNat < ns.length:=by lia
        have hm:=sm _ (ace hi);unfold bdW;rw [e1,aax,aad hi];have e10:(10:Nat) ^ (30 * 1)=1000000000000000000000000000000:=by decide
        rw [e10];refine ⟨?_,by show (0:Int).natAbs≤_;decide⟩;show (ns[p.1.toNat]).natAbs≤_;lia
      · unfold dJ at hx;obtain ⟨j,hj,hx⟩:=abp.mp hx;unfold jp2 jp1 at hx;obtain ⟨a,ha,hx⟩:=abp.mp hx;obtain ⟨b,hb,rfl⟩:=aa5.mp hx;obtain ⟨j1,j2,j3,j4⟩:=fE g3 hpm.1 (by lia) (fun c hc=>g9 hc) (aaK 0) hj;have lc:((a6 p).length:Int)≤8:=by
          have : (a6 p).length=(p.2 - p.1).toNat:=by simp [a6]
          lia
        have e25:(10:Int) ^ 25=10000000000000000000000000:=by decide
        exact tR j1 j2 ⟨j3,by rw [e25];lia⟩ ((hL _).2.2 a ha) ((hL _).2.2 b hb)
    refine ⟨fun σ H5=>∃ pf uf,σ=[some (.ref r),some (.str (aw gs)),some (.ref l),some (.ref pc),some (.ref pk),some (.ref bp),some (.int p.1),some (.int p.2),some (.ref pf)]∧Same H4 H5∧H5 pf=some (.lst uf)∧PairsIn H5 (fnd ns gs L p) uf,?_,?_⟩
    · refine ⟨_,rfl,_,rfl,rfl,_,rfl,iq (fun ce=>?_) (fun ce=>?_)⟩
      · have ce:V.int p.1=V.int p.2:=of_decide_eq_true ce;injection ce with ce
        have hi:p.1.toNat < ns.length:=by lia
        have ea:atI (ns.map V.int) p.1=some (.int (ns.getD p.1.toNat 0)):=by
          have h:atI (ns.map V.int) ((p.1.toNat:Nat):Int)=some (.int (ns.getD p.1.toNat 0)):=fH (by rw [aaY,aad hi,aax,aad hi];rfl)
          rwa [show ((p.1.toNat:Nat):Int)=p.1 by lia] at h
        refine ⟨_,rfl,_,rfl,r,_,_,_,rfl,rfl,SqL.of er4,ea,t2,fun t ht=>⟨(by show 1≤sizeLine;decide),fun u hu=>?_⟩⟩;have st:=Same.new ht (.tup [.int (ns.getD p.1.toNat 0),.int 0]);have su:=Same.new hu (.lst [.ref t]);refine ⟨u,_,rfl,st.trans su,ac,?_⟩;unfold fnd;rw [if_pos ce];exact .cons ⟨t,rfl,su _ _ ac⟩ .nil
      · have ce:p.1≠p.2:=fun z=>ce (by rw [z];exact decide_eq_true rfl);refine ⟨_,rfl,_,rfl,_,rfl,_,rfl,gs,pc,ns.length - 1,p,_,rfl,g3,ec4,by lia,hpx',hpm.1,hpm.2.1,by lia,fun pj uj H5 s5 npj ej hj=>?_⟩;have lj:(da gs p (a6 p) 0).length≤24:=by
          rw [gX];have : (a6 p).length=(p.2 - p.1).toNat:=by simp [a6]
          exact aaJ (abH (show (a6 p).length≤8 by lia) g3) (by decide)
        refine ⟨pk,pj,kvs,uj,p,da gs p (a6 p) 0,L,rfl,s5 _ _ ek,ej,hj,lj,fun j hj'=>?_,fun q'=>⟨(hL q').1,fun x hx=>?_⟩,fun a vs H6 s6 na ea hp6=>?_⟩
        · obtain ⟨j1,j2,_,_⟩:=fE g3 hpm.1 (by lia) (fun c hc=>g9 hc) (aaK 0) hj';have m1:=gw h9 hpi (q:=(p.1,j.1)) ⟨hpm.1,by lia,by simp only;lia⟩ (by simp only;lia);have m2:=gw h9 hpi (q:=(j.1+1,p.2)) ⟨by simp only;lia,by simp only;lia,hpm.2.2⟩ (by simp only;lia);refine ⟨PkAt.mono (Tups.of s5) (hq _ m1).1,PkAt.mono (Tups.of s5) (hq _ m2).1,?_⟩;have b9:(1000000000:Nat) < 2 ^ 4000:=by decide +kernel
          exact Nat.lt_trans (by lia) b9
        · by_cases e:q'∈(sfl ns.length ns.length).take i
          · have hg:=fo ns.length q' (List.mem_of_mem_take e);exact ((hL q').2.2 x hx).bg (by lia)
          · rw [(hL q').2.1 e] at hx;simp at hx
        · refine ⟨a,vs,rfl,s5.trans s6,ea,?_⟩;unfold fnd;rw [if_neg ce];exact hp6
    · rintro σ H5 ⟨pf,uf,rfl,s5,ef,hf⟩;have k5:∀ b o,b≠pk→b≠T→H4 b=some o→H5 b=some o:=fun b o _ _ h=>s5 _ _ h;have lt5:LT T H5:=by
        obtain ⟨tp,h⟩:=lt;exact ⟨tp,s5 _ _ h.tab,h.tri,fun pos' cv hc=>by obtain ⟨d,e1,e2⟩:=h.cds pos' cv hc;exact ⟨d,e1,s5 _ _ e2⟩⟩
      have lo5:PairsIn H5 lo ul:=PairsIn.mono (((Tups.of S3).trans TT).trans (Tups.of s5)) plo;have hlo5:SqL K H5 l ul∨SqT K H5 l ul:=by
        rcases hlo with h|h
        · exact .inl (SqL.of (s5 _ _ (kp _ _ (ak h nkH) (fun e=>by rw [e,T0.tab] at h;cases h) (S3 _ _ h))))
        · exact .inr (h H5)
      have ek5:=s5 _ _ ek;have hfl:=hf.length;refine ⟨_,rfl,!uf.isEmpty,.inl ⟨uf,SqL.of ef,rfl⟩,?_⟩;have empty:(¬ (fnd ns gs L p≠[]∧p∉lo))→∀ t,H5 t=none→∃ H6,DPut (upd H5 t (.tup [])) pk (.ref bp) (.ref t) H6∧_:=fun hn t ht=>fin [] t [] (upd H5 t (.tup [])) (some (.int p.1)) (some (.int p.2)) (some (.ref pf)) (fun b o _ _ h=>Same.new ht _ _ _ (s5 _ _ h)) (by
          obtain ⟨tp,h⟩:=lt5;exact ⟨tp,Same.new ht _ _ _ h.tab,h.tri,fun pos' cv hc=>by obtain ⟨d,e1,e2⟩:=h.cds pos' cv hc;exact ⟨d,e1,Same.new ht _ _ _ e2⟩⟩) (Same.new ht _ _ _ ek5) ac .nil (by decide) (fun x hx=>by simp at hx) (by rw [if_neg hn])
      have t0:(0:Nat)≤sizeLine:=by decide
      cases uf with
      | nil =>
        have e0:fnd ns gs L p=[]:=(iP hf).mp rfl;refine bH ⟨t0,fun t ht=>?_⟩;obtain ⟨H6,d6,w6⟩:=empty (fun z=>z.1 e0) t ht;exact ⟨_,rfl,_,rfl,pk,H6,rfl,d6,w6⟩
      | cons u0 ur =>
        have hne:fnd ns gs L p≠[]:=fun z=>by have:=(iP hf).mpr z;cases this
        refine eI ⟨_,rfl,_,rfl,p,l,ul,lo,PairIn.mono (Tups.of s5) hpx',rfl,hlo5,lo5,_,rfl,iq (fun cn'=>?_) (fun cn'=>?_)⟩
        · have cn':p∉lo:=by simpa using cn'
          refine ⟨_,rfl,pf,u0 :: ur,fnd ns gs L p,rfl,ef,hf,by simp,lt5,fun t x y z H6 b6 nt lt6 et hx hy hz=>?_⟩;have T56:Tups H5 H6:=fun b ys hb=>b6 b _ (fun e=>by obtain ⟨tp,h⟩:=lt5;rw [e,h.tab] at hb;cases hb) hb;have one:∀ {k:Nat} {v:V},(u0 :: ur)[k]?=some v→PairIn H6 ((fnd ns gs L p).getD k (0,0)) v:=fun {k v} h=>by
            obtain ⟨p',e1,h1⟩:=cB hf h;rw [aax,e1];exact PairIn.mono T56 h1
          rw [← hfl] at hx hy hz;have ek6:=b6 _ _ npkT ek5;obtain ⟨H7,d7,w7⟩:=fin (dI (fnd ns gs L p)) t [x,y,z] H6 (some (.int p.1)) (some (.int p.2)) (some (.ref pf)) (fun b o _ h2 h=>b6 _ _ h2 (s5 _ _ h)) lt6 ek6 et (.cons (one hx) (.cons (one hy) (.cons (one hz) .nil))) (aah 3) (fun x hx=>fbd x (cf hne x hx)) (by rw [if_pos ⟨hne,cn'⟩]);exact ⟨_,rfl,_,rfl,pk,H7,rfl,d7,w7⟩
        · have cn':p∈lo:=by simpa using cn'
          refine ⟨t0,fun t ht=>?_⟩;obtain ⟨H6,d6,w6⟩:=empty (fun z=>z.2 cn') t ht;exact ⟨_,rfl,_,rfl,pk,H6,rfl,d6,w6⟩
  · rintro σ H' ⟨kvs,L,_,_,_,_,rfl,kp,lt,ek,lk,hL,hq⟩;rw [← lus,abq] at hq lk;refine ⟨_,rfl,q pk kvs L H' (fun b o hb e=>?_) lt nkH ek lk hq⟩;exact kp _ _ (ak e nkH) hb (S3 _ _ e)
end
open PySem L2
theorem eU {lx ux ly uy x y:Int} (hx:lx≤x∧x≤ux) (hy:ly≤y∧y≤uy):∃ a b,(a=lx∨a=ux)∧(b=ly∨b=uy)∧a * b≤x * y:=by
  have inner:∀ a,∃ b,(b=ly∨b=uy)∧a * b≤a * y:=fun a=>by
    by_cases h:0≤a
    · exact ⟨ly,.inl rfl,Int.mul_le_mul_of_nonneg_left hy.1 h⟩
    · exact ⟨uy,.inr rfl,Int.mul_le_mul_of_nonpos_left (by lia) hy.2⟩
  by_cases h:0≤y
  · obtain ⟨b,hb,e⟩:=inner lx;exact ⟨lx,b,.inl rfl,hb,aca e (aa4 hx.1 h)⟩
  · obtain ⟨b,hb,e⟩:=inner ux;exact ⟨ux,b,.inr rfl,hb,aca e (Int.mul_le_mul_of_nonpos_right hx.2 (by lia))⟩
theorem ip {lx ux ly uy x y:Int} (hx:lx≤x∧x≤ux) (hy:ly≤y∧y≤uy):∃ a b,(a=lx∨a=ux)∧(b=ly∨b=uy)∧x * y≤a * b:=by
  obtain ⟨a,b,ha,hb,e⟩:=eU (lx:=-ux) (ux:=-lx) (ly:=ly) (uy:=uy) (x:=-x) (y:=y) ⟨by lia,by lia⟩ hy;refine ⟨-a,b,?_,hb,?_⟩
  · rcases ha with ha|ha
    · right;lia
    · left;lia
  · rw [Int.neg_mul] at e;rw [Int.neg_mul];lia
theorem n_ (g:Sg) {lx ux ly uy x y:Int} (hx:lx≤x∧x≤ux) (hy:ly≤y∧y≤uy):∃ a b,(a=lx∨a=ux)∧(b=ly∨b=uy)∧g.op a b≤g.op x y:=by
  cases g with
  | plus=>exact ⟨lx,ly,.inl rfl,.inl rfl,by show lx+ly≤x+y;lia⟩
  | minus=>exact ⟨lx,uy,.inl rfl,.inr rfl,by show lx - uy≤x - y;lia⟩
  | times=>exact eU hx hy
theorem oa (g:Sg) {lx ux ly uy x y:Int} (hx:lx≤x∧x≤ux) (hy:ly≤y∧y≤uy):∃ a b,(a=lx∨a=ux)∧(b=ly∨b=uy)∧g.op x y≤g.op a b:=by
  cases g with
  | plus=>exact ⟨ux,uy,.inr rfl,.inr rfl,by show x+y≤ux+uy;lia⟩
  | minus=>exact ⟨ux,ly,.inr rfl,.inl rfl,by show x - y≤ux - ly;lia⟩
  | times=>exact ip hx hy
theorem tO (a b c d:Int):HT.lexLt [a,b] [c,d]=(decide (a < c) || (decide (a=c) && decide (b < d))):=by
  show (if a=c then HT.lexLt [b] [d] else decide (a < c))=_;by_cases h:a=c
  · subst h;rw [if_pos rfl,sB];simp
  · rw [if_neg h,decide_eq_false h];simp
theorem hX (f:Nat→Int × Int):∀ n k,k≤n→(f (au (fun i=>[(f i).1,(f i).2]) n)).1≤(f k).1
  | 0,k,h=>by
    obtain rfl:k=0:=by lia
    exact aaK _
  | n+1,k,h=>by
    have ih:=hX f n;have e:au (fun i=>[(f i).1,(f i).2]) (n+1)=if HT.lexLt [(f (n+1)).1,(f (n+1)).2] [(f (au (fun i=>[(f i).1,(f i).2]) n)).1,(f (au (fun i=>[(f i).1,(f i).2]) n)).2]=true then n+1 else au (fun i=>[(f i).1,(f i).2]) n:=rfl
    rw [e,tO];generalize au (fun i=>[(f i).1,(f i).2]) n=b at ih ⊢;by_cases c:(decide ((f (n+1)).1 < (f b).1) || (decide ((f (n+1)).1=(f b).1) && decide ((f (n+1)).2 < (f b).2)))=true
    · rw [if_pos c];simp only [Bool.or_eq_true,abe,decide_eq_true_eq] at c;by_cases hk:k=n+1
      · rw [hk];exact aaK _
      · have:=ih k (by lia);lia
    · rw [if_neg c];simp only [Bool.or_eq_true,abe,decide_eq_true_eq,not_or] at c;by_cases hk:k=n+1
      · rw [hk];lia
      · exact ih k (by lia)
theorem bU {kf kf':Nat→List Int}:∀ n,(∀ i,i≤n→kf i=kf' i)→au kf n=au kf' n
  | 0,_=>rfl
  | n+1,h=>by
    have ih:=bU n fun i hi=>h i (by lia);unfold au;rw [ih,h (n+1) (aah _),h (au kf' n) (by have:=hW kf' n;lia)]
theorem cS (key:Int × Int→List Int) {ps:List (Int × Int)} {i:Nat} (h:i < ps.length):bz key ps i=key (ps.getD i (0,0)):=by
  unfold bz;rw [aad h,aax,aad h];rfl
theorem lN {ps:List (Int × Int)} (h:ps≠[]):∃ f a b,dI ps=[f,a,b]∧f∈ps∧a∈ps∧b∈ps∧∀ x∈ps,a.1≤x.1∧x.1≤b.1:=by
  have l:0 < ps.length:=abT.mpr h;refine ⟨_,_,_,rfl,cf h _ (by simp [dI]),cf h _ (by simp [dI]),cf h _ (by simp [dI]),fun x hx=>?_⟩;obtain ⟨k,hk,e⟩:=abF hx;have ek:ps.getD k (0,0)=x:=by rw [aax,aad hk,e];rfl
  constructor
  · have e1:au (bz eQ ps) (ps.length - 1)=au (fun i=>[(ps.getD i (0,0)).1,(ps.getD i (0,0)).2]) (ps.length - 1):=bU _ fun i hi=>cS eQ (by lia);rw [e1,← ek];exact hX (fun i=>ps.getD i (0,0)) (ps.length - 1) k (by lia)
  · have e1:au (bz lZ ps) (ps.length - 1)=au (fun i=>[(-(ps.getD i (0,0)).1,(ps.getD i (0,0)).2).1,(-(ps.getD i (0,0)).1,(ps.getD i (0,0)).2).2]) (ps.length - 1):=bU _ fun i hi=>cS lZ (by lia);have:=hX (fun i=>(-(ps.getD i (0,0)).1,(ps.getD i (0,0)).2)) (ps.length - 1) k (by lia);rw [e1,← ek];have this:-(ps.getD (au (fun i=>[(-(ps.getD i (0,0)).1,(ps.getD i (0,0)).2).1,(-(ps.getD i (0,0)).1,(ps.getD i (0,0)).2).2]) (ps.length - 1)) (0,0)).1≤-(ps.getD k (0,0)).1:=this;lia
def Ends (L:Int × Int→List (Int × Int)) (q:Int × Int) (lo hi:Int):Prop:=∃ f a b,L q=[f,a,b]∧a.1=lo∧b.1=hi∧lo≤f.1∧f.1≤hi∧lo≤hi
theorem Ends.mem {L:Int × Int→List (Int × Int)} {q:Int × Int} {lo hi:Int} (h:Ends L q lo hi):(∀ x∈L q,lo≤x.1∧x.1≤hi)∧(∃ x∈L q,x.1=lo)∧∃ x∈L q,x.1=hi:=by
  obtain ⟨f,a,b,e,ha,hb,h1,h2,h3⟩:=h;rw [e];refine ⟨fun x hx=>?_,⟨a,by simp,ha⟩,⟨b,by simp,hb⟩⟩;simp only [aaj,aa6,or_false] at hx;rcases hx with rfl|rfl|rfl
  · exact ⟨h1,h2⟩
  · exact ⟨by lia,by lia⟩
  · exact ⟨by lia,by lia⟩
theorem mx {ns:List Int} {gs:List Sg} {L:Int × Int→List (Int × Int)} {q:Int × Int} (h:dL ns gs [] L q) (hne:fnd ns gs L q≠[]):∃ lo hi,Ends L q lo hi∧(∀ x∈fnd ns gs L q,lo≤x.1∧x.1≤hi)∧(∃ x∈fnd ns gs L q,x.1=lo)∧∃ x∈fnd ns gs L q,x.1=hi:=by
  obtain ⟨f,a,b,e,hf,ha,hb,all⟩:=lN hne;unfold dL at h;rw [if_pos ⟨hne,by simp⟩,e] at h;refine ⟨a.1,b.1,⟨f,a,b,h,rfl,rfl,(all f hf).1,(all f hf).2,(all b hb).1⟩,all,⟨a,ha,rfl⟩,⟨b,hb,rfl⟩⟩
theorem jz {c L R:Int} {j:Jt}:∀ {xs:List Sg} {st:Int},j∈cY c L R xs st→j.1=c∧j.2.1∈xs
  | [],st,h=>by simp [cY] at h
  | g :: r,st,h=>by
    rcases aaj.mp h with rfl|h
    · exact ⟨rfl,aav⟩
    · exact ⟨(jz h).1,aal _ (jz h).2⟩
theorem kK {c L R:Int} {g:Sg}:∀ {xs:List Sg} {st:Int},g∈xs→∃ j∈cY c L R xs st,j.1=c∧j.2.1=g
  | [],st,h=>by simp at h
  | x :: r,st,h=>by
    rcases aaj.mp h with rfl|h
    · exact ⟨_,aav,rfl,rfl⟩
    · obtain ⟨j,hj,e⟩:=kK (c:=c) (L:=L) (R:=R) (st:=st+L * R) h;exact ⟨j,aal _ hj,e⟩
theorem mI {gs:List Sg} {p:Int × Int} {j:Jt}:∀ {cs:List Int} {st:Int},j∈da gs p cs st→j.1∈cs∧j.2.1∈gs
  | [],st,h=>by simp [da] at h
  | c :: cs,st,h=>by
    rcases aap.mp h with h|h
    · have:=jz h;exact ⟨by rw [this.1];exact aav,this.2⟩
    · have:=mI h;exact ⟨aal _ this.1,this.2⟩
theorem kM {gs:List Sg} {p:Int × Int} {c:Int} {g:Sg} (hg:g∈gs):∀ {cs:List Int} {st:Int},c∈cs→∃ j∈da gs p cs st,j.1=c∧j.2.1=g
  | [],st,h=>by simp at h
  | x :: cs,st,h=>by
    rcases aaj.mp h with rfl|h
    · obtain ⟨j,hj,e⟩:=kK (c:=c) (L:=Lw gs.length p c) (R:=Rw gs.length p c) (st:=st) hg;exact ⟨j,aaz _ hj,e⟩
    · obtain ⟨j,hj,e⟩:=kM hg (cs:=cs) (st:=st+(gs.length:Int) * (Lw gs.length p x * Rw gs.length p x)) h;exact ⟨j,aaa _ hj,e⟩
def two (p:Int × Int):List Int:=[p.1,p.2]
def cg (E:Int × Int→Int × Int) (gs:List Sg) (q:Int × Int):List Int:=(a6 q).flatMap fun c=>(two (E (q.1,c))).flatMap fun a=>(two (E (c+1,q.2))).flatMap fun b=>gs.map fun g=>g.op a b
theorem mem_corn {E:Int × Int→Int × Int} {gs:List Sg} {q:Int × Int} {v:Int}:v∈cg E gs q↔∃ c∈a6 q,∃ g∈gs,∃ a b,(a=(E (q.1,c)).1∨a=(E (q.1,c)).2)∧(b=(E (c+1,q.2)).1∨b=(E (c+1,q.2)).2)∧g.op a b=v:=by
  unfold cg two;simp only [abp,List.mem_map,aaj,aa6,or_false];constructor
  · rintro ⟨c,hc,a,ha,b,hb,g,hg,e⟩;exact ⟨c,hc,g,hg,a,b,ha,hb,e⟩
  · rintro ⟨c,hc,g,hg,a,b,ha,hb,e⟩;exact ⟨c,hc,a,ha,b,hb,g,hg,e⟩
def gi (L:Int × Int→List (Int × Int)) (E:Int × Int→Int × Int) (q:Int × Int):Prop:=Ends L q (E q).1 (E q).2
theorem pK {ns:List Int} {gs:List Sg} {L:Int × Int→List (Int × Int)} {E:Int × Int→Int × Int} {q:Int × Int} (hq:q.1≠q.2) (h:∀ c∈a6 q,gi L E (q.1,c)∧gi L E (c+1,q.2)) :
    (∀ x∈fnd ns gs L q,(∃ v∈cg E gs q,v≤x.1)∧∃ v∈cg E gs q,x.1≤v)∧∀ v∈cg E gs q,∃ x∈fnd ns gs L q,x.1=v:=by
  unfold fnd;rw [if_neg hq];constructor
  · intro x hx;unfold dJ at hx;obtain ⟨j,hj,hx⟩:=abp.mp hx;unfold jp2 jp1 at hx;obtain ⟨a,ha,hx⟩:=abp.mp hx;obtain ⟨b,hb,rfl⟩:=aa5.mp hx;obtain ⟨jc,jg⟩:=mI hj;obtain ⟨h1,h2⟩:=h j.1 jc;have m1:=h1.mem.1 a ha;have m2:=h2.mem.1 b hb;obtain ⟨u,v,hu,hv,e⟩:=n_ j.2.1 m1 m2;obtain ⟨u',v',hu',hv',e'⟩:=oa j.2.1 m1 m2;exact ⟨⟨_,mem_corn.mpr ⟨j.1,jc,j.2.1,jg,u,v,hu,hv,rfl⟩,e⟩,⟨_,mem_corn.mpr ⟨j.1,jc,j.2.1,jg,u',v',hu',hv',rfl⟩,e'⟩⟩
  · intro v hv;obtain ⟨c,hc,g,hg,a,b,ha,hb,rfl⟩:=mem_corn.mp hv;obtain ⟨h1,h2⟩:=h c hc;obtain ⟨j,hj,rfl,rfl⟩:=kM (p:=q) (cs:=a6 q) (st:=0) hg hc;have x1:∃ x∈L (q.1,j.1),x.1=a:=by
      rcases ha with rfl|rfl
      · exact h1.mem.2.1
      · exact h1.mem.2.2
    have x2:∃ x∈L (j.1+1,q.2),x.1=b:=by
      rcases hb with rfl|rfl
      · exact h2.mem.2.1
      · exact h2.mem.2.2
    obtain ⟨x,hx,rfl⟩:=x1;obtain ⟨y,hy,rfl⟩:=x2;refine ⟨(j.2.1.op x.1 y.1,j.2.2.1+x.2 * j.2.2.2+y.2),?_,rfl⟩;unfold dJ;refine List.mem_flatMap.mpr ⟨j,hj,?_⟩;unfold jp2 jp1;exact List.mem_flatMap.mpr ⟨x,hx,aa5.mpr ⟨y,hy,rfl⟩⟩
theorem n0 {ns:List Int} {gs:List Sg} {L:Int × Int→List (Int × Int)} {E:Int × Int→Int × Int} {q:Int × Int} (hq:q.1 < q.2) (hg:gs≠[]) (pe:dL ns gs [] L q) (h:∀ c∈a6 q,gi L E (q.1,c)∧gi L E (c+1,q.2)) :
    ∃ lo hi,Ends L q lo hi∧lo∈cg E gs q∧hi∈cg E gs q∧∀ v∈cg E gs q,lo≤v∧v≤hi:=by
  obtain ⟨f1,f2⟩:=pK (ns:=ns) (gs:=gs) (Int.ne_of_lt hq) h;have hne:fnd ns gs L q≠[]:=fun z=>by
    obtain ⟨g,hg⟩:∃ g,g∈gs:=List.exists_mem_of_ne_nil _ hg;have hc:q.1∈a6 q:=by
      unfold a6;exact aa5.mpr ⟨0,aa9.mpr (by lia),by simp⟩
    obtain ⟨x,hx,_⟩:=f2 _ (mem_corn.mpr ⟨q.1,hc,g,hg,_,_,.inl rfl,.inl rfl,rfl⟩);rw [z] at hx;simp at hx
  obtain ⟨lo,hi,en,all,⟨x,hx,ex⟩,⟨y,hy,ey⟩⟩:=mx pe hne;have bd:∀ v∈cg E gs q,lo≤v∧v≤hi:=fun v hv=>by
    obtain ⟨z,hz,rfl⟩:=f2 v hv;exact all z hz
  refine ⟨lo,hi,en,?_,?_,bd⟩
  · obtain ⟨v,hv,le⟩:=(f1 x hx).1;have : v=lo:=by have:=(bd v hv).1;lia
    rw [← this];exact hv
  · obtain ⟨v,hv,le⟩:=(f1 y hy).2;have : v=hi:=by have:=(bd v hv).2;lia
    rw [← this];exact hv
open PySem L2
def jt:List Int→Int
  | []=>0
  | [x]=>x
  | x :: r=>min x (jt r)
def jv:List Int→Int
  | []=>0
  | [x]=>x
  | x :: r=>max x (jv r)
theorem mD:∀ {l:List Int},l≠[]→jt l∈l∧∀ x∈l,jt l≤x
  | [],h=>absurd rfl h
  | [x],_=>⟨aak.mpr rfl,fun y hy=>by rw [aak.mp hy];exact aaK _⟩
  | x :: y :: r,_=>by
    obtain ⟨h1,h2⟩:=mD (l:=y :: r) (by simp);have e:jt (x :: y :: r)=min x (jt (y :: r)):=rfl;rw [e];refine ⟨?_,fun z hz=>?_⟩
    · by_cases c:x≤jt (y :: r)
      · rw [Int.min_eq_left c];exact aav
      · rw [Int.min_eq_right (by lia)];exact aal _ h1
    · rcases aaj.mp hz with rfl|hz
      · exact Int.min_le_left _ _
      · exact aca (Int.min_le_right _ _) (h2 z hz)
theorem mE:∀ {l:List Int},l≠[]→jv l∈l∧∀ x∈l,x≤jv l
  | [],h=>absurd rfl h
  | [x],_=>⟨aak.mpr rfl,fun y hy=>by rw [aak.mp hy];exact aaK _⟩
  | x :: y :: r,_=>by
    obtain ⟨h1,h2⟩:=mE (l:=y :: r) (by simp);have e:jv (x :: y :: r)=max x (jv (y :: r)):=rfl;rw [e];refine ⟨?_,fun z hz=>?_⟩
    · by_cases c:x≤jv (y :: r)
      · rw [Int.max_eq_right c];exact aal _ h1
      · rw [Int.max_eq_left (by lia)];exact aav
    · rcases aaj.mp hz with rfl|hz
      · exact Int.le_max_left _ _
      · exact aca (h2 z hz) (Int.le_max_right _ _)
theorem qI {l:List Int} {m:Int} (hm:m∈l) (h:∀ x∈l,m≤x):jt l=m:=by
  obtain ⟨h1,h2⟩:=mD (ab0 hm);have:=h _ h1;have:=h2 _ hm;lia
theorem qL {l:List Int} {m:Int} (hm:m∈l) (h:∀ x∈l,x≤m):jv l=m:=by
  obtain ⟨h1,h2⟩:=mE (ab0 hm);have:=h _ h1;have:=h2 _ hm;lia
def EnF (ns:List Int) (gs:List Sg):Nat→Int × Int→Int × Int
  | 0,q=>(ns.getD q.1.toNat 0,ns.getD q.1.toNat 0)
  | n+1,q=>if q.1=q.2 then (ns.getD q.1.toNat 0,ns.getD q.1.toNat 0) else (jt (cg (EnF ns gs n) gs q),jv (cg (EnF ns gs n) gs q))
def En (ns:List Int) (gs:List Sg) (q:Int × Int):Int × Int:=EnF ns gs (q.2 - q.1).toNat q
theorem gg {E E':Int × Int→Int × Int} {gs:List Sg} {q:Int × Int} (h:∀ c∈a6 q,E (q.1,c)=E' (q.1,c)∧E (c+1,q.2)=E' (c+1,q.2)):cg E gs q=cg E' gs q:=by
  unfold cg;rw [List.flatMap_def,List.flatMap_def];congr 1;refine List.map_congr_left fun c hc=>?_;rw [(h c hc).1,(h c hc).2]
theorem jF {q:Int × Int} {c:Int} (h:c∈a6 q):q.1≤c∧c < q.2:=by
  unfold a6 at h;obtain ⟨k,hk,rfl⟩:=aa5.mp h;have:=aa9.mp hk;lia
theorem k_ (ns:List Int) (gs:List Sg):∀ (n:Nat) (q:Int × Int),q.1≤q.2→(q.2 - q.1).toNat≤n→EnF ns gs n q=En ns gs q:=by
  intro n
  induction n using Nat.strongRecOn with
  | _ n ih =>
    intro q h1 h2;by_cases e:q.1=q.2
    · have e0:(q.2 - q.1).toNat=0:=by lia
      unfold En;rw [e0];cases n with
      | zero=>rfl
      | succ n=>unfold EnF;rw [if_pos e]
    · obtain ⟨m,hm⟩:∃ m,(q.2 - q.1).toNat=m+1:=⟨(q.2 - q.1).toNat - 1,by lia⟩
      obtain ⟨k,hk⟩:∃ k,n=k+1:=⟨n - 1,by lia⟩
      unfold En;rw [hm,hk];unfold EnF;rw [if_neg e,if_neg e];have : cg (EnF ns gs k) gs q=cg (EnF ns gs m) gs q:=gg fun c hc=>by
        have:=jF hc;rw [ih k (by lia) (q.1,c) (by simp only;lia) (by simp only;lia),ih k (by lia) (c+1,q.2) (by simp only;lia) (by simp only;lia)];by_cases hmk:m < n
        · rw [ih m hmk (q.1,c) (by simp only;lia) (by simp only;lia),ih m hmk (c+1,q.2) (by simp only;lia) (by simp only;lia)];exact ⟨rfl,rfl⟩
        · lia
      rw [this]
theorem sU (ns:List Int) (gs:List Sg) {q:Int × Int} (h:q.1=q.2):En ns gs q=(ns.getD q.1.toNat 0,ns.getD q.1.toNat 0):=by
  unfold En;have e0:(q.2 - q.1).toNat=0:=by lia
  rw [e0];rfl
theorem sV (ns:List Int) (gs:List Sg) {q:Int × Int} (h:q.1 < q.2):En ns gs q=(jt (cg (En ns gs) gs q),jv (cg (En ns gs) gs q)):=by
  obtain ⟨m,hm⟩:∃ m,(q.2 - q.1).toNat=m+1:=⟨(q.2 - q.1).toNat - 1,by lia⟩
  have : cg (EnF ns gs m) gs q=cg (En ns gs) gs q:=gg fun c hc=>by
    have:=jF hc;exact ⟨k_ ns gs m _ (by simp only;lia) (by simp only;lia),k_ ns gs m _ (by simp only;lia) (by simp only;lia)⟩
  show EnF ns gs (q.2 - q.1).toNat q=_;rw [hm];unfold EnF;rw [if_neg (Int.ne_of_lt h),this]
theorem mQ {ns:List Int} {gs:List Sg} {L:Int × Int→List (Int × Int)} (hg:gs≠[]) {n:Nat} (pe:∀ q∈sfl n n,dL ns gs [] L q):∀ (m:Nat) (q:Int × Int),0≤q.1→q.1≤q.2→q.2 < n→(q.2 - q.1).toNat≤m→gi L (En ns gs) q:=by
  have mem:∀ q:Int × Int,0≤q.1→q.1≤q.2→q.2 < n→q∈sfl n n:=fun q h0 h1 h2=>by
    have:=gr n q.1.toNat q.2.toNat (by lia) (by lia)
    rwa [show ((q.1.toNat:Nat):Int)=q.1 by lia,show ((q.2.toNat:Nat):Int)=q.2 by lia] at this
  intro m
  induction m with
  | zero =>
    intro q h0 h1 h2 hm;have e:q.1=q.2:=by lia
    have hf:fnd ns gs L q=[(ns.getD q.1.toNat 0,0)]:=by unfold fnd;rw [if_pos e]
    obtain ⟨lo,hi,en,all,⟨x,hx,ex⟩,⟨y,hy,ey⟩⟩:=mx (pe q (mem q h0 h1 h2)) (by rw [hf];simp);rw [hf] at hx hy;rw [aak.mp hx] at ex;rw [aak.mp hy] at ey;unfold gi;rw [sU ns gs e];simp only at ex ey ⊢;rw [← ex,← ey] at en;exact en
  | succ m ih =>
    intro q h0 h1 h2 hm;by_cases e:(q.2 - q.1).toNat≤m
    · exact ih q h0 h1 h2 e
    · have hlt:q.1 < q.2:=by lia
      obtain ⟨lo,hi,en,l1,l2,all⟩:=n0 hlt hg (pe q (mem q h0 h1 h2)) (E:=En ns gs) fun c hc=>by
        have:=jF hc;exact ⟨ih (q.1,c) h0 (by simp only;lia) (by simp only;lia) (by simp only;lia),ih (c+1,q.2) (by simp only;lia) (by simp only;lia) h2 (by simp only;lia)⟩
      unfold gi;rw [sV ns gs hlt];simp only;rw [qI l1 fun v hv=>(all v hv).1,qL l2 fun v hv=>(all v hv).2];exact en
def Rb (ns:List Int) (gs:List Sg) (H:Hp) (q:Int × Int) (kv:List Key × V):Prop:=kv.1=ky q∧∃ t,kv.2=.ref t∧H t=some (.tup [.int (En ns gs q).1,.int (En ns gs q).2])
def BdIn (ns:List Int) (gs:List Sg) (H:Hp) (qs:List (Int × Int)) (kvs:List (List Key × V)):Prop:=Paired (Rb ns gs H) qs kvs
theorem BdIn.mono {ns:List Int} {gs:List Sg} {H H':Hp} (t:Tups H H') {qs:List (Int × Int)} {kvs:List (List Key × V)} (h:BdIn ns gs H qs kvs):BdIn ns gs H' qs kvs:=by
  unfold BdIn at h ⊢
  induction h with
  | nil=>exact .nil
  | cons r _ ih=>obtain ⟨e,a,e2,e3⟩:=r;exact .cons ⟨e,a,e2,t _ _ e3⟩ ih
theorem BdIn.keys {ns:List Int} {gs:List Sg} {H:Hp} {qs:List (Int × Int)} {kvs:List (List Key × V)} (h:BdIn ns gs H qs kvs):kvs.map (·.1)=qs.map ky:=by
  unfold BdIn at h
  induction h with
  | nil=>rfl
  | cons r _ ih=>rw [aaH,aaH,ih,r.1]
theorem jM:∀ {kvs:List (List Key × V)} {k:List Key} {v:V},(kvs.map (·.1)).Nodup→(k,v)∈kvs→cx kvs k=some v
  | [],_,_,_,h=>nomatch h
  | p :: r,k,v,hn,h=>by
    rw [aaH,List.nodup_cons] at hn;rcases aaj.mp h with e|h
    · subst e;unfold cx;rw [abv,decide_eq_true rfl];rfl
    · have ne:p.1≠k:=fun e=>hn.1 (aa5.mpr ⟨(k,v),h,e.symm⟩);have:=jM hn.2 h;unfold cx at this ⊢;rw [abv,decide_eq_false ne];exact this
theorem o6 {qs:List (Int × Int)} (h:qs.Nodup):(qs.map ky).Nodup:=by
  induction h with
  | nil=>exact List.nodup_nil
  | @cons q r hq _ ih =>
    rw [aaH,List.nodup_cons];refine ⟨fun z=>?_,ih⟩;obtain ⟨q',hq',e⟩:=aa5.mp z;exact hq q' hq' (jx e).symm
open PySem L2
mutual
def szD:PyData→Nat
  | .list ds=>szAll ds+1
  | .tuple ds=>szAll ds+1
  | .none=>1
  | .bool _=>1
  | .int _=>1
  | .str _=>1
  | .dict _=>1
def szAll:List PyData→Nat
  | []=>0
  | d :: ds=>szD d+szAll ds
end
mutual
def OkD:PyData→Prop
  | .none=>True
  | .bool _=>True
  | .int i=>i.natAbs < 10 ^ 13
  | .str x=>(reprText x).length≤20
  | .list ds=>OkAll ds
  | .tuple ds=>OkAll ds
  | .dict kvs=>kvs=[]
def OkAll:List PyData→Prop
  | []=>True
  | d :: ds=>OkD d∧OkAll ds
end
mutual
theorem mC : ∀ d:PyData,OkD d→d.showable=true
  | .none,h=>by simp [abc]
  | .bool _,h=>by simp [abc]
  | .int i,h=>by
    simp only [OkD] at h;have z:(10:Nat) ^ 13 < 2 ^ 60:=by decide
    have : i.natAbs.log2 < 60:=by
      by_cases c:i.natAbs=0
      · rw [c];decide
      · exact (Nat.log2_lt c).mpr (by lia)
    simp only [abc];exact decide_eq_true (by lia)
  | .str _,h=>by simp [abc]
  | .list ds,h=>by simp only [OkD] at h;simp only [abc];exact ok_showAll ds h
  | .tuple ds,h=>by simp only [OkD] at h;simp only [abc];exact ok_showAll ds h
  | .dict kvs,h=>by simp only [OkD] at h;subst h;simp [abc,PyData.showableKv]
theorem ok_showAll:∀ ds:List PyData,OkAll ds→ab3 ds=true
  | [],h=>by simp [ab3]
  | d :: ds,h=>by
    simp only [OkAll] at h;simp only [ab3,mC d h.1,ok_showAll ds h.2,Bool.and_self]
end
mutual
theorem o0:∀ d:PyData,OkD d→d.shown.length+5≤40 * szD d
  | .none,h=>by show 4+5≤40 * szD .none;simp [szD]
  | .bool b,h=>by cases b <;> (simp only [szD];decide)
  | .int i,h=>by
    simp only [OkD] at h;have e:=int_text_length_le10 (a:=i) (k:=13) (by decide) h;simp only [szD];show (abX (toString i)).length+5≤40;rw [ofString_length];lia
  | .str x,h=>by
    simp only [OkD] at h;simp only [szD,PyData.shown];lia
  | .list ds,h=>by
    simp only [OkD] at h;have a:=ok_lenAll ds h;have b:=listText_len_le (abD ds);have c:=PyData.shownAll_length ds;simp only [szD,PyData.shown];lia
  | .tuple ds,h=>by
    simp only [OkD] at h;have a:=ok_lenAll ds h;have b:=tupleText_len_le (abD ds);have c:=PyData.shownAll_length ds;simp only [szD,PyData.shown];lia
  | .dict kvs,h=>by
    simp only [OkD] at h;subst h;simp only [szD];show (PyData.shown (.dict [])).length+5≤40;decide +kernel
theorem ok_lenAll:∀ ds:List PyData,OkAll ds→((abD ds).map (·.length)).sum+5 * ds.length≤40 * szAll ds
  | [],h=>by simp [abD,szAll]
  | d :: ds,h=>by
    simp only [OkAll] at h;have a:=o0 d h.1;have b:=ok_lenAll ds h.2;simp only [abD,szAll,aaH,List.sum_cons,aaB];lia
end
def uA:PyData→Nat
  | .list ds=>ds.length
  | _=>0
theorem kU {H:Hp}:∀ {ds:List PyData} {xs:List V},DatAll H ds xs→ds.all bS=true→∃ ns:List Int,xs=ns.map V.int
  | [],xs,h,_=>by simp only [DatAll] at h;subst h;exact ⟨[],rfl⟩
  | d :: ds,xs,h,a=>by
    simp only [DatAll] at h;obtain ⟨v,r,rfl,h1,h2⟩:=h;simp only [List.all_cons,abe] at a;obtain ⟨ns,rfl⟩:=kU h2 a.2;cases d with
    | int i =>
      have e:v=.int i:=by simpa only [Dat] using h1
      subst e;exact ⟨i :: ns,rfl⟩
    | _=>exact absurd a.1 (by simp [bS])
theorem lL {d:PyData} {H:Hp} {v:V} (h:bh d=true) (hd:Dat H d v):∃ (a:Addr) (ns:List Int),v=.ref a∧H a=some (.lst (ns.map V.int))∧1≤ns.length∧ns.length≤9∧ns.length=uA d:=by
  cases d with
  | list ds =>
    have h':(decide (1≤ds.length) && decide (ds.length≤9) && ds.all bS)=true:=h;simp only [abe,decide_eq_true_eq] at h';simp only [Dat] at hd;obtain ⟨a,xs,rfl,ha,hx⟩:=hd;obtain ⟨ns,rfl⟩:=kU hx h'.2;have:=hx.len;rw [aan] at this;exact ⟨a,ns,rfl,ha,by lia,by lia,this.symm⟩
  | _=>exact absurd h (by simp [bh])
theorem ox {d:PyData} {H:Hp} {v:V} (h:bX d=true) (hd:Dat H d v):∃ gs:List Sg,v=.str (aw gs)∧cw gs∧1≤gs.length∧gs.length≤3:=by
  cases d with
  | str z =>
    have e:v=.str z:=by simpa only [Dat] using hd
    subst e;have h':inV (.str z) fO=true:=h;have all:∀ y∈fO,∃ gs:List Sg,y=.str (aw gs)∧cw gs∧1≤gs.length∧gs.length≤3:=by
      intro y hy;simp only [fO,aaj,aa6,or_false] at hy;rcases hy with rfl|rfl|rfl|rfl|rfl|rfl|rfl
      · exact ⟨[.plus],by decide +kernel,by unfold cw;decide +kernel,by decide,by decide⟩
      · exact ⟨[.minus],by decide +kernel,by unfold cw;decide +kernel,by decide,by decide⟩
      · exact ⟨[.times],by decide +kernel,by unfold cw;decide +kernel,by decide,by decide⟩
      · exact ⟨[.plus,.minus],by decide +kernel,by unfold cw;decide +kernel,by decide,by decide⟩
      · exact ⟨[.plus,.times],by decide +kernel,by unfold cw;decide +kernel,by decide,by decide⟩
      · exact ⟨[.minus,.times],by decide +kernel,by unfold cw;decide +kernel,by decide,by decide⟩
      · exact ⟨[.plus,.minus,.times],by decide +kernel,by unfold cw;decide +kernel,by decide,by decide⟩
    unfold inV at h';rw [List.any_eq_true] at h';obtain ⟨y,hy,e⟩:=h';obtain ⟨gs,rfl,g⟩:=all y hy;have e2:decide (aw gs=z)=true:=by simpa [eqV] using e
    rw [← of_decide_eq_true e2];exact ⟨gs,rfl,g⟩
  | _=>exact absurd h (by simp [bX])
structure Xc (K:aab) (mg:Str→Option Value) (aP aR aS:Addr):Prop where
  mPutError:mg "PutError" = some (.ref aP)
  mNoRow:mg "NoRow" = some (.ref aR)
  mNoSigns:mg "NoSigns" = some (.ref aS)
  eNoRow:EC K aR
  eNoSigns:EC K aS
  uNoRow:Und K aR aP
  uNoSigns:Und K aS aP
section
variable {P:Program} {w:World} {K:aab} {mg:Str→Option Value} {base:Heap} {f:Addr} {fd:FuncData}
def du (aR:Addr):Sp:=fun vs H Q E=>∃ d v,vs=[v]∧Dat H d v∧(bh d=true→∀ H',Same H H'→Q .non H')∧(bh d=false→∀ H',Same H H'→E (.ref aR) none H')
abbrev fb:Stmt:=top 19
theorem jW:FnScope ["thing"] ["thing"] (ai fb):=⟨rfl,rfl,rfl,by decide +kernel,rfl,by decide +kernel,by decide +kernel⟩
theorem jn {aP aR aS:Addr} (F:Fun K "need_row" "need_row" fb f fd) (XC:Xc K mg aP aR aS) (C_is_row:Cal P w K mg base "is_row" 2 ["thing"] ja):FnOk P w K mg base (CX1 P w) 3 f fd ["thing"] (du aR):=by
  refine Fun.ok1 F jW (fun vs H Q E h=>?_) (fun cdv A outer s H vs Q E hr h=>?_)
  · obtain ⟨d,v,rfl,_⟩:=h;rfl
  obtain ⟨d,v,rfl,hd,q1,q2⟩:=h;refine ⟨_,(@am _ _ _ (@cA _ _ _ _ _ _ _ _ (@gC _ _ _ _ (@jf _ _ _ (@aB _ _ _ _ _ _ _ _ _ _ _ C_is_row hr (by lia) rfl (@aa _ _ _ _ _ (pv 0) ad (by rfl)) (by decide) (by rfl) (by rfl)) (by intro _;rfl))) (@am _ _ _ (@j8 _ _ _ _ _ _ _ _ _ _ rz1 XC.eNoRow rfl rfl XC.mNoRow (by rfl) (by decide))) bo)),?_⟩;refine ⟨_,rfl,d,v,rfl,hd,fun H1 g1=>?_⟩;cases c:bh d with
  | true=>exact ⟨true,rfl,bH (q1 c H1 g1)⟩
  | false=>exact ⟨false,rfl,eI (q2 c H1 g1)⟩
def cI (aS:Addr):Sp:=fun vs H Q E=>∃ d v,vs=[v]∧Dat H d v∧(bX d=true→Q .non H)∧(bX d=false→E (.ref aS) none H)
abbrev dv:Stmt:=top 20
theorem ie:FnScope ["thing"] ["thing"] (ai dv):=⟨rfl,rfl,rfl,by decide +kernel,rfl,by decide +kernel,by decide +kernel⟩
theorem gJ {aP aR aS:Addr} (F:Fun K "need_signs" "need_signs" dv f fd) (XC:Xc K mg aP aR aS) (C_is_signs:Cal P w K mg base "is_signs" 1 ["thing"] fL):FnOk P w K mg base (CX1 P w) 2 f fd ["thing"] (cI aS):=by
  refine Fun.ok1 F ie (fun vs H Q E h=>?_) (fun cdv A outer s H vs Q E hr h=>?_)
  · obtain ⟨d,v,rfl,_⟩:=h;rfl
  obtain ⟨d,v,rfl,hd,q1,q2⟩:=h;refine ⟨_,(@am _ _ _ (@cA _ _ _ _ _ _ _ _ (@gC _ _ _ _ (@jf _ _ _ (@aB _ _ _ _ _ _ _ _ _ _ _ C_is_signs hr (by lia) rfl (@aa _ _ _ _ _ (pv 0) ad (by rfl)) (by decide) (by rfl) (by rfl)) (by intro _;rfl))) (@am _ _ _ (@j8 _ _ _ _ _ _ _ _ _ _ rz1 XC.eNoSigns rfl rfl XC.mNoSigns (by rfl) (by decide))) bo)),?_⟩;refine ⟨_,rfl,d,v,rfl,hd,?_⟩;cases c:bX d with
  | true=>exact ⟨true,rfl,bH (q1 c)⟩
  | false=>exact ⟨false,rfl,eI (q2 c)⟩
def Rf (aR aS:Addr) (d e:PyData) (H:Hp) (E:XK):Prop:=(bh d=false→∀ H',Same H H'→E (.ref aR) none H')∧(bh d=true→bX e=false→∀ H',Same H H'→E (.ref aS) none H')
def Sm1 (H:Hp) (d:PyData) (v:V):Prop:=bh d=true→∀ (r:Addr) (ns:List Int),v=.ref r→H r=some (.lst (ns.map V.int))→Small ns
def cT (aR aS T:Addr):Sp:=fun vs H Q E=>∃ d v e u,vs=[v,u]∧Dat H d v∧Dat H e u∧Sm1 H d v∧LT T H∧Rf aR aS d e H E∧(bh d=true→bX e=true→∀ y H',But T H H'→LT T H'→Q y H')
abbrev dQ:Stmt:=top 35
theorem ft:FnScope ["row","signs","picks"] ["row","signs"] (ai dQ):=⟨rfl,rfl,rfl,by decide +kernel,rfl,by decide +kernel,by decide +kernel⟩
theorem io {T aE aR aS:Addr} (F:Fun K "bounds_of" "bounds_of" dQ f fd) (B:Bu K mg) (hE:∀ H,SqT K H aE []) (C_need_row:cH P w K mg base "need_row" 3 ["thing"] (du aR)) (C_need_signs:cH P w K mg base "need_signs" 2 ["thing"] (cI aS))
    (C_picks_by_stretch:qX P w K mg base "picks_by_stretch" 5 ["row","signs","left_out"] (mv (K:=K) T) [.ref aE]):FnOk P w K mg base (CX1 P w) 6 f fd ["row","signs"] (cT aR aS T):=by
  refine Fun.ok1 F ft (fun vs H Q E h=>?_) (fun cdv A outer s H vs Q E hr h=>?_)
  · obtain ⟨d,v,e,u,rfl,_⟩:=h;rfl
  obtain ⟨d,v,e,u,rfl,hd,he,hsm,hT,rf,q0⟩:=h;refine ⟨_,(@ag _ _ _ _ _ (@cz _ _ _ _ (@bW _ _ _ _ _ _ _ _ _ _ _ _ C_need_row dn hr (by lia) rfl (@aa _ _ _ _ _ (pv 0) ad (by rfl)) (by decide) (by rfl) (by rfl)) (by rfl)) (@ag _ _ _ _ _ (@cz _ _ _ _ (@bW _ _ _ _ _ _ _ _ _ _ _ _ C_need_signs dn hr (by lia) rfl (@aa _ _ _ _ _ (pv 1) ad (by rfl)) (by decide) (by rfl) (by rfl)) (by rfl)) (PSs.nox (ag (aC (i:=2) (ft).nd rfl (Or.inl rfl) (mB C_picks_by_stretch hr (by lia) rfl (aa (pv 0) (aa (pv 1) ad)))) (am (az (qy (tK (ob:=.dT []) (Or.inr rfl) (u1 hr.units) (NY:=["stretch","first","least","greatest"]) (cap:=[none,none,none,none]) rfl (oO (pv 2)) rfl trivial trivial (fun _ _ _ _=>⟨(fB (n:=2) rfl rfl (ap (ao (i:=0) (hf:=.inr rfl) (show aaX (["stretch","first","least","greatest"]:List Str) by decide +kernel) rfl (Or.inl rfl)) (ap (fB (n:=3) rfl rfl (ap (ao (i:=1) (hf:=.inr rfl) (show aaX (["stretch","first","least","greatest"]:List Str) by decide +kernel) rfl (Or.inl rfl)) (ap (ao (i:=2) (hf:=.inr rfl) (show aaX (["stretch","first","least","greatest"]:List Str) by decide +kernel) rfl (Or.inl rfl)) (ap (ao (i:=3) (hf:=.inr rfl) (show aaX (["stretch","first","least","greatest"]:List Str) by decide +kernel) rfl (Or.inl rfl)) bN)))) bN))),bY,(pv 0),(bK (aa (a4 (fF rfl) (pv 2) af (fun _ _=>rfl)) (aa (a4 (fF rfl) (pv 3) af (fun _ _=>rfl)) ad)))⟩))))))))),?_⟩;refine ⟨_,rfl,d,v,rfl,hd,fun c H1 s1=>?_,rf.1⟩;refine ⟨_,rfl,e,u,rfl,Dat.mono s1 e u he,fun c2=>?_,fun c2=>rf.2 c c2 H1 s1⟩;obtain ⟨r,ns,rfl,er,h1,h9,_⟩:=lL c hd;obtain ⟨gs,rfl,hs,g1,g3⟩:=ox c2 he;have sm:=hsm c r ns rfl er;have q:∀ (pb:Addr) (kvs:List (List Key × V)) (H':Hp),But T H H'→LT T H'→H pb=none→H' pb=some (.dT kvs)→BdIn ns gs H' (sfl ns.length ns.length) kvs→Q (.ref pb) H':=fun pb kvs H' b lt _ _ _=>q0 c c2 (.ref pb) H' b lt;have hT1:LT T H1:=by obtain ⟨tp,h⟩:=hT;exact ⟨tp,s1 _ _ h.tab,h.tri,fun pos' cv hc=>by obtain ⟨d,e1,e2⟩:=h.cds pos' cv hc;exact ⟨d,e1,s1 _ _ e2⟩⟩
  refine ⟨_,rfl,_,rfl,r,ns,gs,aE,[],[],rfl,s1 _ _ er,h1,h9,g1,g3,sm,.inr hE,.nil,hT1,fun pk kvs L H2 b2 hT2 nk ek hks hq=>?_⟩;have nd:(kvs.map (·.1)).Nodup:=by rw [hks];exact o6 (fN ns.length h9)
  have gne:gs≠[]:=fun z=>by rw [z] at g1;simp at g1
  have ends:∀ q∈sfl ns.length ns.length,gi L (En ns gs) q:=fun q hqm=>by
    have hg:=fo ns.length q hqm;exact mQ gne (fun q hq'=>(hq q hq').2) _ q hg.1 hg.2.1 hg.2.2 (aah _)
  have lk:kvs.length=(sfl ns.length ns.length).length:=by have:=congrArg List.length hks;rwa [aan,aan] at this
  have l81:=jd ns.length ns.length;have l81':ns.length * ns.length≤9 * 9:=abH h9 h9;obtain ⟨tp2,T2⟩:=hT2;have nkT:pk≠T:=fun e=>by rw [e,T2.tab] at ek;cases ek
  refine ⟨_,rfl,pk,rfl,.inl ⟨kvs,ek,fun o=>?_⟩⟩;have S3:∀ b ob,b≠pk→H2 b=some ob→upd H2 pk (.frz o (.dT kvs)) b=some ob:=fun b ob hb e=>by rw [aj hb];exact e
  have e3:upd H2 pk (.frz o (.dT kvs)) pk=some (.frz o (.dT kvs)):=ac;have N3:∀ p,upd H2 pk (.frz o (.dT kvs)) p=none→p≠pk∧H2 p=none:=fun p hp=>by
    have : p≠pk:=fun e=>by rw [e,ac] at hp;cases hp
    rw [aj this] at hp;exact ⟨this,hp⟩
  generalize upd H2 pk (.frz o (.dT kvs))=H3 at S3 e3 N3 ⊢;refine t6 Trn.items (fun p i H'=>Same H3 H'∧∃ kv2,H' p=some (.dT kv2)∧BdIn ns gs H' ((sfl ns.length ns.length).take i) kv2) (fun p hp=>⟨Same.new hp _,[],ac,.nil⟩) (fun p i H' hi z=>z.1 _ _ e3) (fun p i x H4 H' hp hi it z Nx nx=>?_) (fun p H4 hp z=>?_)
  · obtain ⟨S4,kv2,e4,hb⟩:=z;obtain ⟨pp,k,y,npp,rfl,rfl,kv,b,hkv,rfl,rfl,ekb⟩:=it;have hi':i < (sfl ns.length ns.length).length:=by lia
    obtain ⟨p1,hp1⟩:∃ p1,(sfl ns.length ns.length)[i]?=some p1:=⟨_,aad hi'⟩
    have ekv:kv.1=ky p1:=by
      have:=congrArg (·[i]?) hks;simp only [aaY,hkv,hp1,ab2] at this;exact aaM this
    have hpm:=aaI hp1;obtain ⟨⟨t,xs,vt,et,hx⟩,_⟩:=hq p1 hpm;have ev:cx kvs kv.1=some kv.2:=jM nd (aaI hkv);rw [ekv,vt] at ev;have ev:V.ref t=kv.2:=aaM ev;obtain ⟨fv,av,bv,eL,ea,eb,_⟩:=ends p1 hpm;rw [eL] at hx;cases hx with
    | cons hf hx =>
    cases hx with
    | cons ha hx =>
    cases hx with
    | cons hb' hx =>
    cases hx;obtain ⟨a1,rfl,ea1⟩:=ha;obtain ⟨b1,rfl,eb1⟩:=hb';obtain ⟨f1,rfl,ef1⟩:=hf;have st:=Same.new npp (.tup [.ref b,kv.2]);have up:∀ c o',c≠pk→H2 c=some o'→upd H4 pp (.tup [.ref b,kv.2]) c=some o':=fun c o' hc e=>st _ _ (S4 _ _ (S3 c o' hc e));have tk:∀ {c:Addr} {xs:List V},H2 c=some (.tup xs)→c≠pk:=fun {c xs} e z=>by rw [z,ek] at e;cases e
    have et':=up _ _ (tk et) et;have ea':=up _ _ (tk ea1) ea1;have eb':=up _ _ (tk eb1) eb1;have npp4:p≠pp:=ak e4 npp;have e4':=st _ _ e4;refine ⟨pp,_,rfl,SqT.of ac,rfl,_,_,rfl,?_⟩;refine ⟨_,_,rfl,t,_,ev.symm,SqT.of et',rfl,_,_,rfl,_,_,rfl,_,_,rfl,rfl,rfl,?_⟩;refine ⟨_,rfl,_,rfl,a1,_,_,_,rfl,rfl,SqT.of ea',rfl,_,rfl,b1,_,_,_,rfl,rfl,SqT.of eb',rfl,(by show 2≤sizeLine;decide),fun u hu=>?_⟩;have su:=Same.new hu (.tup [.int av.1,.int bv.1]);have nup:p≠u:=ak e4' hu;have ekb':=su _ _ (st _ _ ekb);have lk2:=abk hb;rw [aaE] at lk2;refine ⟨_,DPut.t (su _ _ e4') ekb' (aU (by lia)),nx _ ⟨?_,_,ac,?_⟩⟩
    · intro c o' hc;rw [aj (fun e=>by rw [e,hp] at hc;cases hc)];exact su _ _ (st _ _ (S4 _ _ hc))
    · have kk:=hb.keys;have pnew:ky p1∉kv2.map (·.1):=fun z=>by
        rw [kk] at z;obtain ⟨q',hq',e⟩:=aa5.mp z;have e:=jx e;subst e;obtain ⟨k,hk⟩:=acb.mp hq';have hk1:k < i:=by
          have:=(aai.mp hk).1;rw [aaE] at this;lia
        rw [abC hk1] at hk;obtain ⟨h1',e1'⟩:=aai.mp hk;obtain ⟨h2',e2'⟩:=aai.mp hp1;exact abA.mp (fN ns.length h9) k i h1' h2' hk1 (by rw [e1',e2'])
      rw [ekv,j5 pnew,aa7,hp1];have TT:Tups H4 (upd (upd (upd H4 pp (.tup [.ref b,kv.2])) u (.tup [.int av.1,.int bv.1])) p (.dT (kv2++[(ky p1,.ref u)]))):=fun c xs hc=>by
        rw [aj (fun e=>by rw [e,e4] at hc;cases hc)];exact su _ _ (st _ _ hc)
      refine Paired.app (BdIn.mono TT hb) (.cons ⟨rfl,u,rfl,?_⟩ .nil);rw [aj nup.symm,ac,ea,eb]
  · obtain ⟨S4,kv2,e4,hb⟩:=z;obtain ⟨np1,np2⟩:=N3 p hp;have ek4:=S4 _ _ e3;have nf:mi H2 pk:=fun o' v' e=>by rw [ek] at e;cases e
    refine ⟨pk,o,.dT kvs,nf,ek4,?_⟩;have np0:p≠T:=fun e=>by rw [e,T2.tab] at np2;cases np2
    have keep:∀ c o',c≠pk→H2 c=some o'→upd H4 pk (.dT kvs) c=some o':=fun c o' hc e=>by rw [aj hc];exact S4 _ _ (S3 c o' hc e)
    have nkH:H pk=none:=s1.free nk;refine q p kv2 _ (fun c o' hc e=>?_) ⟨tp2,keep _ _ nkT.symm T2.tab,T2.tri,fun pos' cv hc=>?_⟩ ?_ ?_ ?_
    · exact keep _ _ (ak e nkH) (b2 _ _ hc (s1 _ _ e))
    · obtain ⟨d,e1,e2⟩:=T2.cds pos' cv hc;exact ⟨d,e1,keep _ _ (fun e=>by rw [e,ek] at e2;cases e2) e2⟩
    · cases eH:H p with
      | none=>rfl
      | some o'=>rw [b2 _ _ np0 (s1 _ _ eH)] at np2;cases np2
    · rw [aj np1];exact e4
    · have hb:BdIn ns gs H4 (sfl ns.length ns.length) kv2:=by rw [lk,abq] at hb;exact hb
      refine BdIn.mono (fun c xs hc=>?_) hb;rw [aj (fun e=>by rw [e,ek4] at hc;cases hc)];exact hc
end
open PySem L2
theorem eD (xs:List V) (c:Nat) (h:c≤xs.length):dH xs none (some (c:Int))=xs.take c:=by
  have e0:HT.sIx xs.length 0 none=0:=by simp [HT.sIx]
  have e1:HT.sIx xs.length xs.length (some (c:Int))=c:=by
    simp only [HT.sIx];split <;> lia
  unfold dH;rw [e0,e1,List.drop_zero];rfl
theorem eE (xs:List V) (c:Nat) (h:c≤xs.length):dH xs (some (c:Int)) none=xs.drop c:=by
  have e0:HT.sIx xs.length xs.length none=xs.length:=by simp [HT.sIx]
  have e1:HT.sIx xs.length 0 (some (c:Int))=c:=by
    simp only [HT.sIx];split <;> lia
  unfold dH;rw [e0,e1,abw (by rw [aby];exact aah _)]
def Wy.within (gs:List Sg):Wy→Prop
  | .num _=>True
  | .node g l r=>g∈gs∧l.within gs∧r.within gs
def Wy.wv:Wy→Int
  | .num i=>i
  | .node g l r=>g.op l.wv r.wv
def Wy.bd:Wy→Prop
  | .num i=>i.natAbs≤10 ^ (30 * 1)
  | .node g l r=>l.bd∧r.bd∧(g.op l.wv r.wv).natAbs≤10 ^ (30 * (l.size+r.size))
section
variable {P:Program} {w:World} {K:aab} {mg:Str→Option Value} {base:Heap} {f:Addr} {fd:FuncData}
end
open PySem L2
def slice (ns:List Int) (q:Int × Int):List Int:=(ns.drop q.1.toNat).take (q.2 - q.1+1).toNat
theorem iF {ns:List Int} {q:Int × Int} (h0:0≤q.1) (h1:q.1≤q.2) (h2:q.2 < ns.length):(slice ns q).length=(q.2 - q.1+1).toNat:=by
  unfold slice;rw [aaE,aby];lia
theorem iG {ns:List Int} {q:Int × Int} {c:Int} (h0:0≤q.1) (h1:q.1≤c) (h2:c < q.2):slice ns (q.1,c)++slice ns (c+1,q.2)=slice ns q:=by
  unfold slice;simp only;have e:(q.2 - q.1+1).toNat=(c - q.1+1).toNat+(q.2 - (c+1)+1).toNat:=by lia
  rw [e,List.take_add,List.drop_drop];congr 3;lia
theorem iD {ns:List Int} {q:Int × Int} (h0:0≤q.1) (h1:q.1=q.2) (h2:q.2 < ns.length):slice ns q=[ns.getD q.1.toNat 0]:=by
  unfold slice;have e:(q.2 - q.1+1).toNat=1:=by lia
  have hi:q.1.toNat < ns.length:=by lia
  rw [e,List.drop_eq_getElem_cons hi,List.take_succ_cons,List.take_zero,aax,aad hi];rfl
def prs (s n:Nat):Nat→Int
  | 0=>0
  | j+1=>prs s n j+(s:Int) * cn s (1+j) * cn s (n - (1+j))
theorem qw:∀ s≤3,∀ n≤9,2≤n→prs s n (n - 1)=cn s n:=by decide +kernel
theorem sN:∀ s≤3,cn s 1=1:=by decide +kernel
theorem oK {s n:Nat} (hs:s≤3) (hn:n≤9) {j:Nat} (hj:j+1≤n - 1):prs s n j≤prs s n (j+1):=by
  show _≤prs s n j+(s:Int) * cn s (1+j) * cn s (n - (1+j));have a:=(eX s hs (1+j) (by lia)).1;have b:=(eX s hs (n - (1+j)) (by lia)).1;have c:=abG (abG (Int.natCast_nonneg s) a) b;lia
theorem fw {s n:Nat} (hs:s≤3) (hn:n≤9) {i:Nat}:∀ {j:Nat},i≤j→j≤n - 1→prs s n i≤prs s n j
  | 0,h,_=>by rw [show i=0 by lia];exact aaK _
  | j+1,h,hj=>by
    by_cases e:i=j+1
    · rw [e];exact aaK _
    · exact aca (fw hs hn (j:=j) (by lia) (by lia)) (oK hs hn hj)
def Wy.nr (gs:List Sg):Wy→Int
  | .num _=>0
  | .node g l r=>prs gs.length (l.size+r.size) (l.size - 1)+((((gs.idxOf g:Nat):Int) * cn gs.length l.size+l.nr gs) * cn gs.length r.size+r.nr gs)
theorem o4 {i s A C a c:Int} (i0:0≤i) (i1:i+1≤s) (a0:0≤a) (a1:a < A) (c0:0≤c) (c1:c < C) :
    0≤(i * A+a) * C+c∧(i * A+a) * C+c < s * A * C∧((i * A+a) * C+c) / C=i * A+a∧((i * A+a) * C+c) % C=c∧(i * A+a) / A=i∧(i * A+a) % A=a:=by
  have A0:0 < A:=by lia
  have C0:0 < C:=by lia
  have m0:0≤i * A+a:=Int.add_nonneg (abG i0 (Int.le_of_lt A0)) a0;have m1:i * A+a+1≤s * A:=by
    have:=aa4 i1 (Int.le_of_lt A0);rw [abK,abE] at this;lia
  have m2:=aa4 m1 (Int.le_of_lt C0);rw [abK,abE] at m2;have u1:=(Int.ediv_emod_unique C0 (a:=(i * A+a) * C+c) (q:=i * A+a) (r:=c)).mpr ⟨by rw [Int.mul_comm C,Int.add_comm],c0,c1⟩;have u2:=(Int.ediv_emod_unique A0 (a:=i * A+a) (q:=i) (r:=a)).mpr ⟨by rw [Int.mul_comm A,Int.add_comm],a0,a1⟩;exact ⟨Int.add_nonneg (abG m0 (Int.le_of_lt C0)) c0,by lia,u1.1,u1.2,u2.1,u2.2⟩
theorem jB {gs:List Sg} {g:Sg} (h:g∈gs):gs.idxOf g < gs.length∧gs[gs.idxOf g]?=some g:=by
  have h1:=List.idxOf_lt_length_of_mem h;exact ⟨h1,by rw [aad h1,List.getElem_idxOf h1]⟩
theorem Wy.nr_bd {gs:List Sg} (hs:gs.length≤3):∀ w:Wy,w.within gs→w.size≤9→0≤w.nr gs∧w.nr gs < cn gs.length w.size
  | .num i,_,_=>by
    show (0:Int)≤0∧(0:Int) < cn gs.length 1;rw [sN _ hs];decide
  | .node g l r,h,h9=>by
    have h9:l.size+r.size≤9:=h9;have l1:=l.size_pos;have r1:=r.size_pos;obtain ⟨a0,a1⟩:=Wy.nr_bd hs l h.2.1 (by lia);obtain ⟨c0,c1⟩:=Wy.nr_bd hs r h.2.2 (by lia);obtain ⟨i1,_⟩:=jB h.1;obtain ⟨e0,e1,_⟩:=o4 (i:=((gs.idxOf g:Nat):Int)) (s:=gs.length) (by lia) (by lia) a0 a1 c0 c1;have p0:=fw hs h9 (i:=0) (j:=l.size - 1) (aaQ _) (by lia);have p0:0≤prs gs.length (l.size+r.size) (l.size - 1):=p0;have p1:=fw hs h9 (i:=l.size - 1+1) (j:=l.size+r.size - 1) (by lia) (by lia);rw [qw _ hs _ h9 (by lia)] at p1;have p1:prs gs.length (l.size+r.size) (l.size - 1)+(gs.length:Int) * cn gs.length (1+(l.size - 1)) * cn gs.length (l.size+r.size - (1+(l.size - 1)))≤cn gs.length (l.size+r.size):=p1;rw [show 1+(l.size - 1)=l.size by lia,show l.size+r.size - l.size=r.size by lia] at p1;show 0≤prs _ _ _+_∧prs _ _ _+_ < cn gs.length (l.size+r.size);lia
section
variable {P:Program} {w:World} {K:aab} {mg:Str→Option Value} {base:Heap} {f:Addr} {fd:FuncData}
def gu (n:Nat):Sp:=fun vs H Q _=>∃ (gs:List Sg) (pr pc:Addr) (wy:Wy) (k:Nat),vs=[.ref pr,.str (aw gs),.ref pc,.int (wy.nr gs)]∧gs.length≤3∧H pr=some (.lst (wy.nums.map V.int))∧H pc=some (.lst ((cl gs.length k).map V.int))∧k≤8∧wy.size≤k+1∧wy.size≤n∧wy.within gs∧∀ v H',Same H H'→WyIn H' wy v→Q v H'
abbrev gA:Stmt:=top 26
theorem bu:FnScope ["row","signs","counts","number","many","left","both","right_number","place","left_number","left_way","right_way"] ["row","signs","counts","number"] (ai gA):=⟨rfl,rfl,rfl,by decide +kernel,rfl,by decide +kernel,by decide +kernel⟩
theorem nB (F:Fun K "way_at" "way_at" gA f fd) (bF:Binds K fd ["row","signs","counts","number"] []) (mF:mg "way_at" = some (.ref f)) (B:Bu K mg) (C_ways_by_cut:Cal P w K mg base "ways_by_cut" 1 ["signs","counts","left","right"] mt):∀ n,FnOk P w K mg base CX0 (n+2) f fd ["row","signs","counts","number"] (gu n):=by
  intro n
  induction n with
  | zero =>
    refine ⟨fun vs H Q E h=>?_,fun A outer s H args us vs Q E _ _ _ _ h=>?_⟩
    · obtain ⟨gs,pr,pc,wy,k,rfl,_⟩:=h;rfl
    · obtain ⟨gs,pr,pc,wy,k,_,_,_,_,_,_,h2,_⟩:=h;have:=wy.size_pos;lia
  | succ n ih =>
    have C_way_at:Cal P w K mg base "way_at" (n+2) ["row","signs","counts","number"] (gu n):=⟨f,fd,ih,bF,F.kp,mF⟩
    refine F.ok bu (fun vs H Q E h=>?_) (fun cdv A outer s H vs Q E hr h=>?_)
    · obtain ⟨gs,pr,pc,wy,k,rfl,_⟩:=h;rfl
    obtain ⟨gs,pr,pc,wy,k,rfl,hz,hr',hc,hk,hnk,hn,hwi,q⟩:=h;refine ⟨_,(@ag _ _ _ _ _ (@aC _ _ (4) _ _ _ _ (bu).nd rfl (Or.inl rfl) (@ax _ _ _ _ _ _ _ _ _ bc rfl B.ilen abl (@aa _ _ _ _ _ (pv 0) ad (by rfl)) (by decide) (by decide) (by rfl) (by rfl)) (by rfl) (by first|exact .inl rfl|exact .inr rfl|assumption)) (@ag _ _ _ _ _ (@cA _ _ _ _ _ _ _ _ (@aX _ _ _ _ _ _ _ _ fD (pv 4) af (bt _)) (@am _ _ _ (@az _ _ _ _ (@a4 _ _ _ _ _ _ _ aY (pv 0) af (fun _ _=>rfl)))) bo) (@ag _ _ _ _ _ (@aC _ _ (5) _ _ _ _ (bu).nd rfl (Or.inl rfl) af (by rfl) (by first|exact .inl rfl|exact .inr rfl|assumption)) (@ag _ _ _ _ _ (@oJ _ _ _ _ _ _ abb (@aX _ _ _ _ _ _ _ _ rd (pv 3) (@aB _ _ _ _ _ _ _ _ _ _ _ C_ways_by_cut hr (by lia) rfl (@aa _ _ _ _ _ (pv 1) (@aa _ _ _ _ _ (pv 2) (@aa _ _ _ _ _ (pv 5) (@aa _ _ _ _ _ (@aq _ _ _ _ _ _ _ _ cc (pv 4) (pv 5)) ad (by rfl)) (by rfl)) (by rfl)) (by rfl)) (by decide) (by rfl) (by rfl)) (bt _)) (@ag _ _ _ _ _ (@lM _ _ (3) _ _ _ _ _ _ (bu).nd rfl (Or.inl rfl) (@aB _ _ _ _ _ _ _ _ _ _ _ C_ways_by_cut hr (by lia) rfl (@aa _ _ _ _ _ (pv 1) (@aa _ _ _ _ _ (pv 2) (@aa _ _ _ _ _ (pv 5) (@aa _ _ _ _ _ (@aq _ _ _ _ _ _ _ _ cc (pv 4) (pv 5)) ad (by rfl)) (by rfl)) (by rfl)) (by rfl)) (by decide) (by rfl) (by rfl)) sJ (by first|exact .inl rfl|exact .inr rfl|assumption)) (@am _ _ _ (@lM _ _ (5) _ _ _ _ _ _ (bu).nd rfl (Or.inl rfl) af pA (by first|exact .inl rfl|exact .inr rfl|assumption))))) (@ag _ _ _ _ _ (@dj _ _ _ _ _ _ (@ax _ _ _ _ _ _ _ _ _ gh rfl B.idivmod PyProof.Rows.boot_divmod (@aa _ _ _ _ _ (pv 3) (@aa _ _ _ _ _ (@a4 _ _ _ _ _ _ _ aY (pv 2) (@aq _ _ _ _ _ _ _ _ cc (pv 4) (pv 5)) (fun _ _=>rfl)) ad (by rfl)) (by rfl)) (by decide) (by decide) (by rfl) (by rfl)) (@dk _ _ _ _ _ _ rfl (@ap _ _ _ _ _ (@ao _ _ (6) _ (bu).nd rfl (Or.inl rfl) (.inl rfl)) (@ap _ _ _ _ _ (@ao _ _ (7) _ (bu).nd rfl (Or.inl rfl) (.inl rfl)) bN (by rfl)) (by rfl)) (by rfl) (by rfl)) (by rfl) (by rfl) (by rfl)) (@ag _ _ _ _ _ (@dj _ _ _ _ _ _ (@ax _ _ _ _ _ _ _ _ _ gh rfl B.idivmod PyProof.Rows.boot_divmod (@aa _ _ _ _ _ (pv 6) (@aa _ _ _ _ _ (@a4 _ _ _ _ _ _ _ aY (pv 2) (pv 5) (fun _ _=>rfl)) ad (by rfl)) (by rfl)) (by decide) (by decide) (by rfl) (by rfl)) (@dk _ _ _ _ _ _ rfl (@ap _ _ _ _ _ (@ao _ _ (8) _ (bu).nd rfl (Or.inl rfl) (.inl rfl)) (@ap _ _ _ _ _ (@ao _ _ (9) _ (bu).nd rfl (Or.inl rfl) (.inl rfl)) bN (by rfl)) (by rfl)) (by rfl) (by rfl)) (by rfl) (by rfl) (by rfl)) (@ag _ _ _ _ _ (@aC _ _ (10) _ _ _ _ (bu).nd rfl (Or.inl rfl) (@aB _ _ _ _ _ _ _ _ _ _ _ C_way_at hr (by lia) rfl (@aa _ _ _ _ _ (@dX _ _ _ _ _ _ _ _ _ _ gq (pv 0) fA (@fz _ _ _ (pv 5))) (@aa _ _ _ _ _ (pv 1) (@aa _ _ _ _ _ (pv 2) (@aa _ _ _ _ _ (pv 9) ad (by rfl)) (by rfl)) (by rfl)) (by rfl)) (by decide) (by rfl) (by rfl)) (by rfl) (by first|exact .inl rfl|exact .inr rfl|assumption)) (@ag _ _ _ _ _ (@aC _ _ (11) _ _ _ _ (bu).nd rfl (Or.inl rfl) (@aB _ _ _ _ _ _ _ _ _ _ _ C_way_at hr (by lia) rfl (@aa _ _ _ _ _ (@dX _ _ _ _ _ _ _ _ _ _ gq (pv 0) (@fz _ _ _ (pv 5)) fA) (@aa _ _ _ _ _ (pv 1) (@aa _ _ _ _ _ (pv 2) (@aa _ _ _ _ _ (pv 7) ad (by rfl)) (by rfl)) (by rfl)) (by rfl)) (by decide) (by rfl) (by rfl)) (by rfl) (by first|exact .inl rfl|exact .inr rfl|assumption)) (@am _ _ _ (@az _ _ _ _ (@bK _ _ _ _ _ (@aa _ _ _ _ _ (@a4 _ _ _ _ _ _ _ sI (pv 1) (pv 8) (fun _ _=>rfl)) (@aa _ _ _ _ _ (pv 10) (@aa _ _ _ _ _ (pv 11) ad (by rfl)) (by rfl)) (by rfl))))))))))))),?_⟩;have zl:(aw gs).length=gs.length:=fm gs;refine ⟨_,rfl,pr,_,rfl,.inl (SqL.of hr'),?_⟩;rw [aan,wy.nums_len];cases wy with
    | num a =>
      refine ⟨_,rfl,rfl,true,congrArg V.bl (decide_eq_true rfl),eI ?_⟩;exact ⟨_,rfl,pr,_,_,_,rfl,rfl,SqL.of hr',rfl,q _ _ (Same.refl _) rfl⟩
    | node g l r =>
    have l1:=l.size_pos;have r1:=r.size_pos;have hnk:l.size+r.size≤k+1:=hnk;have hn:l.size+r.size≤n+1:=hn;have h9:l.size+r.size≤9:=by lia
    obtain ⟨N,hN⟩:∃ N,N=l.size+r.size:=⟨_,rfl⟩
    show _;have eN:(Wy.node g l r).size=N:=by rw [hN];rfl
    rw [eN];refine ⟨_,rfl,rfl,false,congrArg V.bl (decide_eq_false (fun e=>by injection e with e;lia)),bH ?_⟩;have bd:=eX gs.length hz;obtain ⟨a0,a1⟩:=Wy.nr_bd hz l hwi.2.1 (by lia);obtain ⟨c0,c1⟩:=Wy.nr_bd hz r hwi.2.2 (by lia);obtain ⟨i1,ig⟩:=jB hwi.1;obtain ⟨x0,hx0⟩:∃ x0,x0=(((gs.idxOf g:Nat):Int) * cn gs.length l.size+l.nr gs) * cn gs.length r.size+r.nr gs:=⟨_,rfl⟩
    obtain ⟨e0,e1,e2,e3,e4,e5⟩:=o4 (i:=((gs.idxOf g:Nat):Int)) (s:=gs.length) (by lia) (by lia) a0 a1 c0 c1;rw [← hx0] at e0 e1 e2 e3;have enr:(Wy.node g l r).nr gs=prs gs.length N (l.size - 1)+x0:=by rw [hN,hx0];rfl
    rw [enr];obtain ⟨p0,hp0⟩:∃ p0,p0=prs gs.length N (l.size - 1):=⟨_,rfl⟩
    rw [← hp0];refine ⟨fun mm σ H'=>∃ (j:Nat) (x:Int),σ=[some (.ref pr),some (.str (aw gs)),some (.ref pc),some (.int x),some (.int (N:Nat)),some (.int (1+(j:Int))),none,none,none,none,none,none]∧H=H'∧x=p0+x0 - prs gs.length N j∧j≤l.size - 1∧mm=l.size - j,?_,?_⟩
    · exact ⟨_,0,p0+x0,rfl,rfl,by show _=p0+x0 - 0;lia,aaQ _,rfl⟩
    rintro mm σ H' ⟨j,x,rfl,rfl,hx,jm,rfl⟩;have e3':(1+(j:Int))=((1+j:Nat):Int):=by lia
    have e2':((N:Nat):Int) - (1+(j:Int))=((N - (1+j):Nat):Int):=by lia
    have at1:atI ((cl gs.length k).map V.int) (1+(j:Int))=some (.int (cn gs.length (1+j))):=by rw [e3'];exact iZ hk (by lia)
    have at2:atI ((cl gs.length k).map V.int) (((N:Nat):Int) - (1+(j:Int)))=some (.int (cn gs.length (N - (1+j)))):=by rw [e2'];exact iZ hk (by lia)
    have b1:=bd (1+j) (by lia);have b2:=bd (N - (1+j)) (by lia);refine ⟨_,rfl,_,rfl,_,rfl,_,rfl,_,rfl,_,rfl,_,_,rfl,rfl,aw gs,pc,_,_,_,_,_,rfl,by lia,hc,at1,at2,b2.1,b2.2,_,_,rfl,rfl,?_⟩;rw [zl];have hst:prs gs.length N (j+1)=prs gs.length N j+(gs.length:Int) * cn gs.length (1+j) * cn gs.length (N - (1+j)):=rfl;by_cases c:j < l.size - 1
    · have hm:=fw hz (n:=N) (by lia) (i:=j+1) (j:=l.size - 1) (by lia) (by lia);rw [← hp0,hst] at hm;have cge:x ≥ (gs.length:Int) * cn gs.length (1+j) * cn gs.length (N - (1+j)):=by lia
      refine ⟨true,congrArg V.bl (decide_eq_true cge),eI ⟨fun σ' H'=>∃ m',m' < l.size - j∧∃ (j:Nat) (x:Int),σ'=[some (.ref pr),some (.str (aw gs)),some (.ref pc),some (.int x),some (.int (N:Nat)),some (.int (1+(j:Int))),none,none,none,none,none,none]∧H=H'∧x=p0+x0 - prs gs.length N j∧j≤l.size - 1∧m'=l.size - j,fun _ _ h=>h,?_⟩⟩;refine ⟨_,rfl,_,rfl,_,rfl,_,rfl,_,rfl,_,rfl,_,_,rfl,rfl,aw gs,pc,_,_,_,_,_,rfl,by lia,hc,at1,at2,b2.1,b2.2,_,_,rfl,rfl,?_⟩;rw [zl];refine ⟨_,rfl,_,_,rfl,rfl,l.size - (j+1),by lia,j+1,x - (gs.length:Int) * cn gs.length (1+j) * cn gs.length (N - (1+j)),?_,rfl,by rw [hst];lia,by lia,rfl⟩;have e5:(1+(j:Int))+1=1+((j+1:Nat):Int):=by lia
      show [_,_,_,_,_,some (V.int ((1+(j:Int))+1)),_,_,_,_,_,_]=_;rw [e5]
    have ej:j=l.size - 1:=by lia
    have ex:x=x0:=by rw [hx,ej,← hp0];lia
    have eA:1+j=l.size:=by lia
    have eC:N - (1+j)=r.size:=by lia
    rw [eC] at at2 b2 ⊢;rw [eA] at at1 b1 ⊢;have cl':¬ (x ≥ (gs.length:Int) * cn gs.length l.size * cn gs.length r.size):=by rw [ex];lia
    refine ⟨false,congrArg V.bl (decide_eq_false cl'),bH ?_⟩;clear cl' hx;subst ex;have A0:0 < cn gs.length l.size:=by lia
    have C0:0 < cn gs.length r.size:=by lia
    have eL:l.nums=(l.nums++r.nums).take l.size:=by rw [← l.nums_len,List.take_left]
    have eR:r.nums=(l.nums++r.nums).drop l.size:=by rw [← l.nums_len,List.drop_left]
    refine ⟨_,rfl,_,rfl,_,rfl,_,rfl,_,_,rfl,rfl,pc,_,_,_,rfl,rfl,SqL.of hc,at2,x,cn gs.length r.size,rfl,⟨C0,by lia⟩,fun t1 n1=>?_⟩;rw [e2,e3];have g1:=Same.new n1 (.tup [.int (((gs.idxOf g:Nat):Int) * cn gs.length l.size+l.nr gs),.int (r.nr gs)]);refine ⟨t1,_,rfl,SqT.of ac,rfl,_,_,rfl,_,_,rfl,rfl,?_⟩;refine ⟨_,rfl,_,rfl,_,rfl,pc,_,_,_,rfl,rfl,SqL.of (g1 _ _ hc),at1,((gs.idxOf g:Nat):Int) * cn gs.length l.size+l.nr gs,cn gs.length l.size,rfl,⟨A0,by lia⟩,fun t2 n2=>?_⟩;rw [e4,e5];have g2:=g1.trans (Same.new n2 (.tup [.int ((gs.idxOf g:Nat):Int),.int (l.nr gs)]));refine ⟨t2,_,rfl,SqT.of ac,rfl,_,_,rfl,_,_,rfl,rfl,?_⟩;have ln:(l.nums++r.nums).length=l.size+r.size:=by rw [aao,l.nums_len,r.nums_len]
    have hr2:H pr=some (.lst ((l.nums++r.nums).map V.int)):=hr';refine ⟨_,rfl,_,rfl,_,rfl,pr,_,rfl,SqL.of (g2 _ _ hr2),fun s1 m1=>?_⟩;rw [e3',eA,eD _ l.size (by rw [aan];lia),← acg,← eL];have g3:=g2.trans (Same.new m1 (.lst (l.nums.map V.int)));refine ⟨_,rfl,_,rfl,_,rfl,gs,s1,pc,l,k,rfl,hz,ac,g3 _ _ hc,hk,by lia,by lia,hwi.2.1,fun lv H4 g4 hlv=>?_⟩;have G4:=g3.trans g4;refine ⟨_,rfl,_,rfl,_,rfl,pr,_,rfl,SqL.of (G4 _ _ hr2),fun s2 m2=>?_⟩;rw [eE _ l.size (by rw [aan];lia),← acf,← eR];have s5:=Same.new m2 (.lst (r.nums.map V.int));have g5:=G4.trans s5;refine ⟨_,rfl,_,rfl,_,rfl,gs,s2,pc,r,k,rfl,hz,ac,g5 _ _ hc,hk,by lia,by lia,hwi.2.2,fun rv H6 g6 hrv=>?_⟩;have G6:=g5.trans g6;have hat:atI (aw gs).cps.toList ((gs.idxOf g:Nat):Int)=some g.code:=fH (by rw [ci,aaY,ig];rfl);refine ⟨_,rfl,_,rfl,aw gs,_,g.code,rfl,rfl,cr (by lia),hat,_,rfl,_,rfl,(by show 3≤sizeLine;decide),fun t7 n7=>?_⟩;have s7:=Same.new n7 (.tup [.str ⟨#[g.code]⟩,lv,rv]);refine q _ _ (G6.trans s7) ⟨t7,lv,rv,rfl,?_,hlv.mono (Tups.of ((s5.trans g6).trans s7)),hrv.mono (Tups.of s7)⟩;rw [ac,dN]
end
open PySem L2
inductive Tr where
  | lf
  | nd (l r:Tr)
def Tr.size:Tr→Nat
  | .lf=>1
  | .nd l r=>l.size+r.size
def Tr.all:Tr→Int→List (Int × Int)
  | .lf,b=>[(b,b)]
  | .nd l r,b=>(b,b+((l.size+r.size:Nat):Int) - 1) :: (l.all b++r.all (b+(l.size:Int)))
theorem Tr.top (t:Tr) (b:Int):(b,b+(t.size:Int) - 1)∈t.all b:=by
  cases t with
  | lf=>show (b,b+1 - 1)∈[(b,b)];rw [Int.add_sub_cancel];simp
  | nd l r=>exact aav
def p9 (o h:Int × Int):Prop:=(o.1 < h.1∧h.1≤o.2∧o.2 < h.2)∨(h.1 < o.1∧o.1≤h.2∧h.2 < o.2)
instance (o h:Int × Int):Decidable (p9 o h):=by unfold p9;infer_instance
def AV (L:List (Int × Int)) (b:Int) (n:Nat):Prop:=∃ t:Tr,t.size=n∧∀ q∈t.all b,q∉L
def lob (hs bs:List (Int × Int)) (q:Int × Int):Bool:=decide (q∈bs) || hs.any fun h=>decide (p9 q h)
def lo (n:Nat) (hs bs:List (Int × Int)):List (Int × Int):=(sfl n n).filter (lob hs bs)
def Wy.tr:Wy→Tr
  | .num _=>.lf
  | .node _ l r=>.nd l.tr r.tr
theorem Wy.tr_size:∀ w:Wy,w.tr.size=w.size
  | .num _=>rfl
  | .node g l r=>by show l.tr.size+r.tr.size=l.size+r.size;rw [l.tr_size,r.tr_size]
theorem jrow_at {c L R:Int} {j:Jt}:∀ {gs:List Sg} {st:Int},j∈cY c L R gs st↔∃ (i:Nat) (g:Sg),gs[i]?=some g∧j=(c,g,st+(i:Int) * (L * R),R)
  | [],st=>by simp [cY]
  | g :: gs,st=>by
    show j∈(c,g,st,R) :: cY c L R gs (st+L * R)↔_;have ar:∀ i:Nat,st+L * R+(i:Int) * (L * R)=st+((i+1:Nat):Int) * (L * R):=fun i=>by
      rw [Int.natCast_add,abK];simp only [Int.natCast_one,abE];lia
    rw [aaj,jrow_at];constructor
    · rintro (rfl|⟨i,g',h,rfl⟩)
      · exact ⟨0,g,rfl,by simp⟩
      · exact ⟨i+1,g',by simpa using h,by rw [ar]⟩
    · rintro ⟨i,g',h,rfl⟩;cases i with
      | zero =>
        have e:g=g':=by simpa using h
        subst e;exact .inl (by simp)
      | succ i=>exact .inr ⟨i,g',by simpa using h,by rw [ar]⟩
def eW (q:Int × Int) (m:Nat):List Int:=(abd m).map fun (k:Nat)=>q.1+(k:Int)
theorem me (q:Int × Int) (m:Nat):eW q (m+1)=eW q m++[q.1+(m:Int)]:=by
  unfold eW;rw [List.range_succ,aaS];rfl
theorem jA {gs:List Sg} {q:Int × Int} {n:Nat} (hn:(q.2 - q.1+1).toNat=n) (hq:q.1≤q.2):∀ m,m≤n - 1→jst gs q (eW q m)=prs gs.length n m∧∀ j,j∈da gs q (eW q m) 0↔∃ k:Nat,k < m∧j∈cY (q.1+(k:Int)) (cn gs.length (1+k)) (cn gs.length (n - (1+k))) gs (prs gs.length n k)
  | 0,_=>⟨rfl,fun j=>by simp [eW,da]⟩
  | m+1,h=>by
    obtain ⟨i1,i2⟩:=jA hn hq m (by lia);have e1:Lw gs.length q (q.1+(m:Int))=cn gs.length (1+m):=by
      unfold Lw;rw [show (q.1+(m:Int) - q.1+1).toNat=1+m by lia]
    have e2:Rw gs.length q (q.1+(m:Int))=cn gs.length (n - (1+m)):=by
      unfold Rw;rw [show (q.2 - (q.1+(m:Int))).toNat=n - (1+m) by lia]
    rw [me];constructor
    · have : jst gs q (eW q m++[q.1+(m:Int)])=jst gs q (eW q m)+(gs.length:Int) * (Lw gs.length q (q.1+(m:Int)) * Rw gs.length q (q.1+(m:Int))):=by
        simp [jst,aaS,List.sum_append]
      rw [this,i1,e1,e2,← Int.mul_assoc];rfl
    · intro j;rw [fY,List.mem_append,i2,i1,e1,e2,Int.zero_add];constructor
      · rintro (⟨k,hk,h⟩|h)
        · exact ⟨k,by lia,h⟩
        · exact ⟨m,by lia,h⟩
      · rintro ⟨k,hk,hj⟩;by_cases c:k=m
        · rw [c] at hj;exact .inr hj
        · exact .inl ⟨k,by lia,hj⟩
theorem jD {ns:List Int} {gs:List Sg} {L:Int × Int→List (Int × Int)} {q:Int × Int} {n:Nat} (hn:(q.2 - q.1+1).toNat=n) (hq:q.1 < q.2) {x:Int × Int}:x∈fnd ns gs L q↔∃ k:Nat,k < n - 1∧∃ (i:Nat) (g:Sg),gs[i]?=some g∧∃ a∈L (q.1,q.1+(k:Int)),∃ b∈L (q.1+(k:Int)+1,q.2),
    x=(g.op a.1 b.1,prs gs.length n k+(i:Int) * (cn gs.length (1+k) * cn gs.length (n - (1+k)))+a.2 * cn gs.length (n - (1+k))+b.2):=by
  have ec:a6 q=eW q (n - 1):=by
    unfold a6 eW;rw [show (q.2 - q.1).toNat=n - 1 by lia]
  unfold fnd;rw [if_neg (by lia),ec];unfold dJ jp2 jp1;simp only [abp,List.mem_map];constructor
  · rintro ⟨j,hj,a,ha,b,hb,rfl⟩;obtain ⟨k,hk,hj⟩:=((jA hn (by lia) (n - 1) (aah _)).2 j).mp hj;obtain ⟨i,g,hg,rfl⟩:=jrow_at.mp hj;exact ⟨k,hk,i,g,hg,a,ha,b,hb,rfl⟩
  · rintro ⟨k,hk,i,g,hg,a,ha,b,hb,rfl⟩;exact ⟨_,((jA hn (by lia) (n - 1) (aah _)).2 _).mpr ⟨k,hk,jrow_at.mpr ⟨i,g,hg,rfl⟩⟩,a,ha,b,hb,rfl⟩
theorem hZ (f:Nat→Int):∀ n k,k≤n→f (au (fun i=>[f i]) n)≤f k
  | 0,k,h=>by
    obtain rfl:k=0:=by lia
    exact aaK _
  | n+1,k,h=>by
    have ih:=hZ f n;have e:au (fun i=>[f i]) (n+1)=if HT.lexLt [f (n+1)] [f (au (fun i=>[f i]) n)]=true then n+1 else au (fun i=>[f i]) n:=rfl
    rw [e,sB];generalize au (fun i=>[f i]) n=b at ih ⊢;by_cases c:decide (f (n+1) < f b)=true
    · rw [if_pos c];have c:=of_decide_eq_true c;by_cases hk:k=n+1
      · rw [hk];exact aaK _
      · have:=ih k (by lia);lia
    · rw [if_neg c];have c:¬ f (n+1) < f b:=fun z=>c (decide_eq_true z);by_cases hk:k=n+1
      · rw [hk];lia
      · exact ih k (by lia)
theorem ge {ps:List (Int × Int)} (h:ps≠[]):∃ f a b,dI ps=[f,a,b]∧(∀ x∈dI ps,x∈ps)∧∀ x∈ps,f.2≤x.2:=by
  have l:0 < ps.length:=abT.mpr h;refine ⟨_,_,_,rfl,cf h,fun x hx=>?_⟩;obtain ⟨k,hk,e⟩:=abF hx;have ek:ps.getD k (0,0)=x:=by rw [aax,aad hk,e];rfl
  have e1:au (bz kH ps) (ps.length - 1)=au (fun i=>[(ps.getD i (0,0)).2]) (ps.length - 1):=bU _ fun i hi=>cS kH (by lia);rw [e1,← ek];exact hZ (fun i=>(ps.getD i (0,0)).2) (ps.length - 1) k (by lia)
def Kpt (ns:List Int) (gs:List Sg) (lo:List (Int × Int)) (q:Int × Int) (w:Wy):Prop:=w.nums=slice ns q∧w.within gs∧∀ p∈w.tr.all q.1,p∉lo
theorem bZ {ns:List Int} {gs:List Sg} {lo:List (Int × Int)} {q:Int × Int} {w:Wy} (h0:0≤q.1) (h1:q.1≤q.2) (h2:q.2 < ns.length) (h:Kpt ns gs lo q w):w.size=(q.2 - q.1+1).toNat:=by
  rw [← iF h0 h1 h2,← h.1,w.nums_len]
theorem kD {ns:List Int} {gs:List Sg} {lo:List (Int × Int)} {q:Int × Int} {g:Sg} {l r:Wy} (h0:0≤q.1) (h1:q.1≤q.2) (h2:q.2 < ns.length) (h:Kpt ns gs lo q (.node g l r)) :
    q∉lo∧g∈gs∧∃ k:Nat,k+1=l.size∧q.1+(k:Int) < q.2∧Kpt ns gs lo (q.1,q.1+(k:Int)) l∧Kpt ns gs lo (q.1+(k:Int)+1,q.2) r:=by
  have hs:=bZ h0 h1 h2 h;have hs:l.size+r.size=(q.2 - q.1+1).toNat:=hs;have pl:=l.size_pos;have pr:=r.size_pos;obtain ⟨e,hw,hl⟩:=h;have e:l.nums++r.nums=slice ns q:=e;obtain ⟨k,hk⟩:∃ k:Nat,k+1=l.size:=⟨l.size - 1,by lia⟩
  have hc:q.1+(k:Int) < q.2:=by lia
  have hsp:=iG (ns:=ns) (q:=q) (c:=q.1+(k:Int)) h0 (by lia) hc;rw [← e] at hsp;obtain ⟨e1,e2⟩:=List.append_inj hsp (by rw [iF (q:=(q.1,q.1+(k:Int))) h0 (by simp only;lia) (by simp only;lia),l.nums_len];simp only;lia);have top:(q.1,q.1+((l.tr.size+r.tr.size:Nat):Int) - 1)=q:=by
    rw [l.tr_size,r.tr_size];obtain ⟨a,b⟩:=q;simp only at *;congr 1;lia
  refine ⟨?_,hw.1,k,hk,hc,⟨e1.symm,hw.2.1,fun p hp=>hl p ?_⟩,⟨e2.symm,hw.2.2,fun p hp=>hl p ?_⟩⟩
  · have:=hl _ (aav (a:=(q.1,q.1+((l.tr.size+r.tr.size:Nat):Int) - 1)) (l:=l.tr.all q.1++r.tr.all (q.1+(l.tr.size:Int))))
    rwa [top] at this
  · exact aal _ (aaz _ hp)
  · refine aal _ (aaa _ ?_);rw [l.tr_size,← hk];have : q.1+(k:Int)+1=q.1+((k+1:Nat):Int):=by lia
    rw [← this];exact hp
theorem ph {ns:List Int} {gs:List Sg} {lo:List (Int × Int)} {q:Int × Int} {g:Sg} {l r:Wy} {k:Nat} (h0:0≤q.1) (h2:q.2 < ns.length) (hc:q.1+(k:Int) < q.2) (hq:q∉lo) (hg:g∈gs) (hl:Kpt ns gs lo (q.1,q.1+(k:Int)) l) (hr:Kpt ns gs lo (q.1+(k:Int)+1,q.2) r):Kpt ns gs lo q (.node g l r)∧l.size=k+1∧l.size+r.size=(q.2 - q.1+1).toNat:=by
  have sl:=bZ (q:=(q.1,q.1+(k:Int))) h0 (by simp only;lia) (by simp only;lia) hl;have sr:=bZ (q:=(q.1+(k:Int)+1,q.2)) (by simp only;lia) (by simp only;lia) h2 hr;simp only at sl sr;have top:(q.1,q.1+((l.tr.size+r.tr.size:Nat):Int) - 1)=q:=by
    rw [l.tr_size,r.tr_size];obtain ⟨a,b⟩:=q;simp only at *;congr 1;lia
  refine ⟨⟨?_,⟨hg,hl.2.1,hr.2.1⟩,fun p hp=>?_⟩,by lia,by lia⟩
  · show l.nums++r.nums=_;rw [hl.1,hr.1,iG (ns:=ns) (q:=q) (c:=q.1+(k:Int)) h0 (by lia) hc]
  · rcases aaj.mp hp with e|hp
    · rw [e,top];exact hq
    · rcases aap.mp hp with hp|hp
      · exact hl.2.2 p hp
      · rw [l.tr_size,show q.1+(l.size:Int)=q.1+(k:Int)+1 by lia] at hp;exact hr.2.2 p hp
theorem j9 {ns:List Int} {gs:List Sg} {lo:List (Int × Int)} {L:Int × Int→List (Int × Int)} (hs:gs.length≤3) (nd:gs.Nodup) (h9:ns.length≤9) (hL:∀ q:Int × Int,0≤q.1→q.1≤q.2→q.2 < ns.length→dL ns gs lo L q):∀ (m:Nat) (q:Int × Int),0≤q.1→q.1≤q.2→q.2 < ns.length→(q.2 - q.1).toNat=m →
    (∀ x∈L q,∃ w,Kpt ns gs lo q w∧x=(w.wv,w.nr gs))∧∀ w,Kpt ns gs lo q w→∃ f cM,L q=f :: cM∧f.2≤w.nr gs:=by
  intro m
  induction m using Nat.strongRecOn with
  | _ m ih =>
    intro q h0 h1 h2 hm;have he:=hL q h0 h1 h2;unfold dL at he;obtain ⟨n,hn⟩:∃ n,(q.2 - q.1+1).toNat=n:=⟨_,rfl⟩
    by_cases e:q.1=q.2
    · have ef:fnd ns gs L q=[(ns.getD q.1.toNat 0,0)]:=by unfold fnd;rw [if_pos e]
      have es:=iD h0 e h2;constructor
      · intro x hx;by_cases c:q∈lo
        · rw [he,if_neg (fun z=>z.2 c)] at hx;cases hx
        · rw [he,if_pos ⟨by rw [ef];simp,c⟩] at hx;have:=cf (by rw [ef];simp) x hx;rw [ef] at this;rw [aak.mp this];refine ⟨.num (ns.getD q.1.toNat 0),⟨es.symm,trivial,fun p hp=>?_⟩,rfl⟩;have : p=(q.1,q.1):=by simpa [Wy.tr,Tr.all] using hp
          rw [this];have : (q.1,q.1)=q:=by
            obtain ⟨a,b⟩:=q;simp only at *;rw [e]
          rw [this];exact c
      · intro w hw;have hz:=bZ h0 h1 h2 hw;have c:q∉lo:=by
          have:=hw.2.2 _ (w.tr.top q.1);rw [w.tr_size,hz] at this;have eq:(q.1,q.1+(((q.2 - q.1+1).toNat:Nat):Int) - 1)=q:=by
            obtain ⟨a,b⟩:=q;simp only at *;congr 1;lia
          rwa [eq] at this
        obtain ⟨f,a,b,hp,hin,hmin⟩:=ge (ps:=fnd ns gs L q) (by rw [ef];simp);refine ⟨f,[a,b],by rw [he,if_pos ⟨by rw [ef];simp,c⟩,hp],?_⟩;have hf:=hin f (by rw [hp];simp);rw [ef] at hf;rw [aak.mp hf];exact (w.nr_bd hs hw.2.1 (by lia)).1
    · have hlt:q.1 < q.2:=by lia
      have sub1:∀ k:Nat,k < n - 1→_:=fun k hk=>ih k (by lia) (q.1,q.1+(k:Int)) h0 (by simp only;lia) (by simp only;lia) (by simp only;lia);have sub2:∀ k:Nat,k < n - 1→_:=fun k hk=>ih (q.2 - (q.1+(k:Int)+1)).toNat (by lia) (q.1+(k:Int)+1,q.2) (by simp only;lia) (by simp only;lia) h2 rfl;constructor
      · intro x hx;by_cases c:fnd ns gs L q≠[]∧q∉lo
        · rw [he,if_pos c] at hx;have hxm:=cf c.1 x hx;obtain ⟨k,hk,i,g,hg,a,ha,b,hb,rfl⟩:=(jD hn hlt).mp hxm;obtain ⟨wl,kl,rfl⟩:=(sub1 k hk).1 a ha;obtain ⟨wr,kr,rfl⟩:=(sub2 k hk).1 b hb;obtain ⟨kj,zl,zs⟩:=ph h0 h2 (by lia) c.2 (aaI hg) kl kr;refine ⟨.node g wl wr,kj,?_⟩;have ei:gs.idxOf g=i:=by
            have h1:=(aai.mp hg)
            obtain ⟨hi,hgi⟩:=h1;rw [← hgi];exact List.Nodup.idxOf_getElem nd i hi
          have zr:wr.size=n - (1+k):=by lia
          show (_,_)=((Wy.node g wl wr).wv,prs gs.length (wl.size+wr.size) (wl.size - 1)+((((gs.idxOf g:Nat):Int) * cn gs.length wl.size+wl.nr gs) * cn gs.length wr.size+wr.nr gs))
          rw [ei,zs,hn,zl,zr,show k+1 - 1=k by lia,show k+1=1+k by lia];congr 1;show _+_+wl.nr gs * _+wr.nr gs=_;rw [abK,Int.mul_assoc];lia
        · rw [he,if_neg c] at hx;cases hx
      · intro w hw;cases w with
        | num i =>
          have:=bZ h0 h1 h2 hw;have : 1=(q.2 - q.1+1).toNat:=this;lia
        | node g l r =>
          obtain ⟨c,hg,k,hk,hc,kl,kr⟩:=kD h0 h1 h2 hw;have hkn:k < n - 1:=by lia
          obtain ⟨fl,rl,el,ll⟩:=(sub1 k hkn).2 l kl;obtain ⟨fr,rr,er,lr⟩:=(sub2 k hkn).2 r kr;obtain ⟨i1,ig⟩:=jB hg;have zs:=bZ h0 h1 h2 hw;have zs:l.size+r.size=(q.2 - q.1+1).toNat:=zs;have zr:r.size=n - (1+k):=by lia
          have hx:=(jD (ns:=ns) (gs:=gs) (L:=L) hn hlt).mpr ⟨k,hkn,gs.idxOf g,g,ig,fl,by rw [el];simp,fr,by rw [er];simp,rfl⟩;have hne:fnd ns gs L q≠[]:=ab0 hx;obtain ⟨f,a,b,hp,hin,hmin⟩:=ge hne;refine ⟨f,[a,b],by rw [he,if_pos ⟨hne,c⟩,hp],?_⟩;refine aca (hmin _ hx) ?_;show prs gs.length n k+((gs.idxOf g:Nat):Int) * (cn gs.length (1+k) * cn gs.length (n - (1+k)))+fl.2 * cn gs.length (n - (1+k))+fr.2≤prs gs.length (l.size+r.size) (l.size - 1)+((((gs.idxOf g:Nat):Int) * cn gs.length l.size+l.nr gs) * cn gs.length r.size+r.nr gs);rw [zs,hn,← hk,zr,show k+1 - 1=k by lia,show k+1=1+k by lia,abK,Int.mul_assoc];have c0:=(eX gs.length hs (n - (1+k)) (by lia)).1;have:=aa4 ll c0;lia
open PySem L2
def Bd (n:Nat):Int:=10 ^ (4 * n)
structure Ck (L:List (Int × Int)) (p:Int × Int) (v:Int):Prop where
  nn:0≤v
  le:v * 100≤Bd (p.2 - p.1+1).toNat
  iff:0 < v↔AV L p.1 (p.2 - p.1+1).toNat
section
variable {P:Program} {w:World} {K:aab} {mg:Str→Option Value} {base:Heap} {f:Addr} {fd:FuncData}
end
section
variable {P:Program} {w:World} {K:aab} {mg:Str→Option Value} {base:Heap} {f:Addr} {fd:FuncData}
end
open PySem L2
def Wy.pl:Wy→Int→List (Int × Int)
  | .num _,_=>[]
  | .node _ l r,b=>(b,b+(l.size:Int)+(r.size:Int) - 1) :: (l.pl b++r.pl (b+(l.size:Int)))
def KW (hs bs:List (Int × Int)) (w:Wy):Prop:=(∀ h∈hs,h∈w.pl 0)∧∀ b∈bs,b∉w.pl 0
instance (hs bs:List (Int × Int)) (w:Wy):Decidable (KW hs bs w):=by unfold KW;infer_instance
theorem qH {gs:List Sg} {g:Sg} {l r:Wy} {n k:Nat} (hl:l.size=k+1) (hr:l.size+r.size=n):(Wy.node g l r).nr gs=prs gs.length n k+((((gs.idxOf g:Nat):Int) * cn gs.length (k+1)+l.nr gs) * cn gs.length (n - (k+1))+r.nr gs):=by
  show prs gs.length (l.size+r.size) (l.size - 1)+_=_;rw [hr,hl,show r.size=n - (k+1) by lia];rfl
open PySem L2
def lexLe (x y:Int × Int):Prop:=x.1 < y.1∨(x.1=y.1∧x.2≤y.2)
theorem lexLe.refl (x:Int × Int):lexLe x x:=.inr ⟨rfl,aaK _⟩
theorem lexLe.trans {x y z:Int × Int} (h:lexLe x y) (g:lexLe y z):lexLe x z:=by unfold lexLe at *;lia
theorem f_ (f:Nat→Int × Int):∀ n k,k≤n→lexLe (f (au (fun i=>[(f i).1,(f i).2]) n)) (f k)
  | 0,k,h=>by
    obtain rfl:k=0:=by lia
    exact lexLe.refl _
  | n+1,k,h=>by
    have ih:=f_ f n;have e:au (fun i=>[(f i).1,(f i).2]) (n+1)=if HT.lexLt [(f (n+1)).1,(f (n+1)).2] [(f (au (fun i=>[(f i).1,(f i).2]) n)).1,(f (au (fun i=>[(f i).1,(f i).2]) n)).2]=true then n+1 else au (fun i=>[(f i).1,(f i).2]) n:=rfl
    rw [e,tO];generalize au (fun i=>[(f i).1,(f i).2]) n=b at ih ⊢;by_cases c:(decide ((f (n+1)).1 < (f b).1) || (decide ((f (n+1)).1=(f b).1) && decide ((f (n+1)).2 < (f b).2)))=true
    · rw [if_pos c];simp only [Bool.or_eq_true,abe,decide_eq_true_eq] at c;by_cases hk:k=n+1
      · rw [hk];exact lexLe.refl _
      · have:=ih k (by lia);unfold lexLe at *;lia
    · rw [if_neg c];simp only [Bool.or_eq_true,abe,decide_eq_true_eq] at c;by_cases hk:k=n+1
      · rw [hk];unfold lexLe;lia
      · exact ih k (by lia)
def Cov (gs:List Sg) (S:Wy→Prop) (ps:List (Int × Int)):Prop:=(∀ p∈ps,∃ w,S w∧p=(w.wv,w.nr gs))∧∀ k:Int,(k=0∨k=1∨k=-1)→∀ w,S w→∃ p∈ps,lexLe (k * p.1,p.2) (k * w.wv,w.nr gs)
def Mon (φ:Int→Int):Prop:=(∀ x y,x < y→φ x < φ y)∨(∀ x y,x < y→φ y < φ x)∨∀ x y,φ x=φ y
theorem ed (k:Int):Mon fun x=>k * x:=by
  rcases Int.lt_trichotomy k 0 with h|h|h
  · exact .inr (.inl fun x y hxy=>Int.mul_lt_mul_of_neg_left hxy h)
  · subst h;exact .inr (.inr fun x y=>by simp)
  · exact .inl fun x y hxy=>Int.mul_lt_mul_of_pos_left hxy h
theorem kn {φ ψ:Int→Int} (h:Mon φ) (g:Mon ψ):Mon fun x=>φ (ψ x):=by
  rcases g with g|g|g
  · rcases h with h|h|h
    · exact .inl fun x y z=>h _ _ (g _ _ z)
    · exact .inr (.inl fun x y z=>h _ _ (g _ _ z))
    · exact .inr (.inr fun x y=>h _ _)
  · rcases h with h|h|h
    · exact .inr (.inl fun x y z=>h _ _ (g _ _ z))
    · exact .inl fun x y z=>h _ _ (g _ _ z)
    · exact .inr (.inr fun x y=>h _ _)
  · exact .inr (.inr fun x y=>by show φ (ψ x)=φ (ψ y);rw [g x y])
theorem o7 (g:Sg) (b:Int):Mon fun a=>g.op a b:=by
  cases g with
  | plus=>exact .inl fun x y h=>by show x+b < y+b;lia
  | minus=>exact .inl fun x y h=>by show x - b < y - b;lia
  | times =>
    have:=ed b;have e:(fun x:Int=>b * x)=fun a=>Sg.times.op a b:=by funext x;exact Int.mul_comm b x
    rw [e] at this;exact this
theorem nJ (g:Sg) (a:Int):Mon fun b=>g.op a b:=by
  cases g with
  | plus=>exact .inl fun x y h=>by show a+x < a+y;lia
  | minus=>exact .inr (.inl fun x y h=>by show a - y < a - x;lia)
  | times=>exact ed a
theorem kX {gs:List Sg} {S:Wy→Prop} {ps:List (Int × Int)} (h:Cov gs S ps) {φ:Int→Int} (m:Mon φ) {w:Wy} (hw:S w):∃ p∈ps,lexLe (φ p.1,p.2) (φ w.wv,w.nr gs):=by
  rcases m with m|m|m
  · obtain ⟨p,hp,le⟩:=h.2 1 (.inr (.inl rfl)) w hw;refine ⟨p,hp,?_⟩;rcases le with le|⟨e,le⟩
    · exact .inl (m _ _ (by simpa using le))
    · exact .inr ⟨by have : p.1=w.wv:=by simpa using e
                     simp only [this],le⟩
  · obtain ⟨p,hp,le⟩:=h.2 (-1) (.inr (.inr rfl)) w hw;refine ⟨p,hp,?_⟩;rcases le with le|⟨e,le⟩
    · exact .inl (m _ _ (by simp only at le;lia))
    · exact .inr ⟨by have : p.1=w.wv:=by simp only at e;lia
                     simp only [this],le⟩
  · obtain ⟨p,hp,le⟩:=h.2 0 (.inl rfl) w hw;refine ⟨p,hp,.inr ⟨m _ _,?_⟩⟩;rcases le with le|⟨_,le⟩
    · simp at le
    · exact le
theorem p_ {gs:List Sg} {S1 S2:Wy→Prop} {ps1 ps2:List (Int × Int)} (h1:Cov gs S1 ps1) (h2:Cov gs S2 ps2) (g:Sg) {l r:Wy} (hl:S1 l) (hr:S2 r) (k B C:Int) (hC:0≤C) :
    ∃ p1∈ps1,∃ p2∈ps2,lexLe (k * g.op p1.1 p2.1,B+p1.2 * C+p2.2) (k * g.op l.wv r.wv,B+l.nr gs * C+r.nr gs):=by
  obtain ⟨p1,m1,a⟩:=kX h1 (kn (ed k) (o7 g r.wv)) hl;obtain ⟨p2,m2,b⟩:=kX h2 (kn (ed k) (nJ g p1.1)) hr;refine ⟨p1,m1,p2,m2,?_⟩;unfold lexLe at *;simp only at *;rcases a with a|⟨ae,an⟩
  · left;rcases b with b|⟨be,_⟩ <;> lia
  · rcases b with b|⟨be,bn⟩
    · left;lia
    · right;have:=aa4 an hC;lia
theorem gc {ps:List (Int × Int)} (h:ps≠[]):∃ f a b,dI ps=[f,a,b]∧∀ x∈ps,lexLe (0 * f.1,f.2) (0 * x.1,x.2)∧lexLe (1 * a.1,a.2) (1 * x.1,x.2)∧lexLe (-1 * b.1,b.2) (-1 * x.1,x.2):=by
  have l:0 < ps.length:=abT.mpr h;refine ⟨_,_,_,rfl,fun x hx=>?_⟩;obtain ⟨k,hk,e⟩:=abF hx;have ek:ps.getD k (0,0)=x:=by rw [aax,aad hk,e];rfl
  rw [← ek];refine ⟨?_,?_,?_⟩
  · have e1:au (bz kH ps) (ps.length - 1)=au (fun i=>[(ps.getD i (0,0)).2]) (ps.length - 1):=bU _ fun i hi=>cS kH (by lia);rw [e1];have:=hZ (fun i=>(ps.getD i (0,0)).2) (ps.length - 1) k (by lia);exact .inr ⟨by simp,this⟩
  · have e1:au (bz eQ ps) (ps.length - 1)=au (fun i=>[(ps.getD i (0,0)).1,(ps.getD i (0,0)).2]) (ps.length - 1):=bU _ fun i hi=>cS eQ (by lia);rw [e1];have:=f_ (fun i=>ps.getD i (0,0)) (ps.length - 1) k (by lia);rw [abE,abE];exact this
  · have e1:au (bz lZ ps) (ps.length - 1)=au (fun i=>[(-(ps.getD i (0,0)).1,(ps.getD i (0,0)).2).1,(-(ps.getD i (0,0)).1,(ps.getD i (0,0)).2).2]) (ps.length - 1):=bU _ fun i hi=>cS lZ (by lia);rw [e1];have:=f_ (fun i=>(-(ps.getD i (0,0)).1,(ps.getD i (0,0)).2)) (ps.length - 1) k (by lia);rw [Int.neg_mul,Int.neg_mul,abE,abE];exact this
theorem ni {ns:List Int} {gs:List Sg} {lo:List (Int × Int)} {L:Int × Int→List (Int × Int)} (hs:gs.length≤3) (nd:gs.Nodup) (h9:ns.length≤9) (hL:∀ q:Int × Int,0≤q.1→q.1≤q.2→q.2 < ns.length→dL ns gs lo L q):∀ (m:Nat) (q:Int × Int),0≤q.1→q.1≤q.2→q.2 < ns.length→(q.2 - q.1).toNat=m →
    Cov gs (Kpt ns gs lo q) (L q):=by
  intro m
  induction m using Nat.strongRecOn with
  | _ m ih =>
    intro q h0 h1 h2 hm;have he:=hL q h0 h1 h2;refine ⟨(j9 hs nd h9 hL _ q h0 h1 h2 hm).1,?_⟩;obtain ⟨n,hn⟩:∃ n,(q.2 - q.1+1).toNat=n:=⟨_,rfl⟩
    have key:q∉lo→∀ k:Int,(k=0∨k=1∨k=-1)→∀ w,Kpt ns gs lo q w→∃ x∈fnd ns gs L q,lexLe (k * x.1,x.2) (k * w.wv,w.nr gs):=by
      intro c k hk w hw;by_cases e:q.1=q.2
      · have ef:fnd ns gs L q=[(ns.getD q.1.toNat 0,0)]:=by unfold fnd;rw [if_pos e]
        have es:=iD h0 e h2;rw [ef];refine ⟨_,aak.mpr rfl,?_⟩;cases w with
        | num i =>
          have : [i]=slice ns q:=hw.1;rw [es] at this;have hi:i=ns.getD q.1.toNat 0:=by simpa using this
          rw [← hi];exact lexLe.refl _
        | node g l r =>
          have hz:=bZ h0 h1 h2 hw;have hz:l.size+r.size=(q.2 - q.1+1).toNat:=hz;have:=l.size_pos;have:=r.size_pos;lia
      · have hlt:q.1 < q.2:=by lia
        cases w with
        | num i =>
          have:=bZ h0 h1 h2 hw;have : 1=(q.2 - q.1+1).toNat:=this;lia
        | node g l r =>
          obtain ⟨_,hg,j,hj,hc,kl,kr⟩:=kD h0 h1 h2 hw;have hjn:j < n - 1:=by lia
          have c1:=ih j (by lia) (q.1,q.1+(j:Int)) h0 (by simp only;lia) (by simp only;lia) (by simp only;lia);have c2:=ih (q.2 - (q.1+(j:Int)+1)).toNat (by lia) (q.1+(j:Int)+1,q.2) (by simp only;lia) (by simp only;lia) h2 rfl;obtain ⟨i1,ig⟩:=jB hg;have zs:=bZ h0 h1 h2 hw;have zs:l.size+r.size=(q.2 - q.1+1).toNat:=zs;have c0:=(eX gs.length hs (n - (1+j)) (by lia)).1;obtain ⟨p1,m1,p2,m2,le⟩:=p_ c1 c2 g kl kr k (prs gs.length n j+((gs.idxOf g:Nat):Int) * (cn gs.length (1+j) * cn gs.length (n - (1+j)))) (cn gs.length (n - (1+j))) c0;refine ⟨_,(jD (ns:=ns) (gs:=gs) (L:=L) hn hlt).mpr ⟨j,hjn,gs.idxOf g,g,ig,p1,m1,p2,m2,rfl⟩,?_⟩;have en:(Wy.node g l r).nr gs=prs gs.length n j+((gs.idxOf g:Nat):Int) * (cn gs.length (1+j) * cn gs.length (n - (1+j)))+l.nr gs * cn gs.length (n - (1+j))+r.nr gs:=by
            rw [qH (n:=n) (k:=j) (by lia) (by lia),show j+1=1+j by lia,abK,Int.mul_assoc];lia
          rw [en];exact le
    intro k hk w hw;have c:q∉lo:=by
      have hz:=bZ h0 h1 h2 hw;have:=hw.2.2 _ (w.tr.top q.1);rw [w.tr_size,hz] at this;have eq:(q.1,q.1+(((q.2 - q.1+1).toNat:Nat):Int) - 1)=q:=by
        obtain ⟨a,b⟩:=q;simp only at *;congr 1;lia
      rwa [eq] at this
    obtain ⟨x,hx,le⟩:=key c k hk w hw;have hne:fnd ns gs L q≠[]:=ab0 hx;obtain ⟨f,a,b,e,al⟩:=gc hne;unfold dL at he;rw [he,if_pos ⟨hne,c⟩,e];obtain ⟨t1,t2,t3⟩:=al x hx;rcases hk with rfl|rfl|rfl
    · exact ⟨f,by simp,t1.trans le⟩
    · exact ⟨a,by simp,t2.trans le⟩
    · exact ⟨b,by simp,t3.trans le⟩
def Bst (gs:List Sg) (S:Wy→Prop) (k:Int) (w:Wy):Prop:=S w∧∀ w',S w'→lexLe (k * w.wv,w.nr gs) (k * w'.wv,w'.nr gs)
theorem nv {ns:List Int} {gs:List Sg} {lo:List (Int × Int)} {L:Int × Int→List (Int × Int)} (hs:gs.length≤3) (nd:gs.Nodup) (h9:ns.length≤9) (hL:∀ q:Int × Int,0≤q.1→q.1≤q.2→q.2 < ns.length→dL ns gs lo L q) {q:Int × Int} (h0:0≤q.1) (h1:q.1≤q.2) (h2:q.2 < ns.length) :
    (L q=[]∧∀ w,¬ Kpt ns gs lo q w)∨∃ f a b,L q=[(f.wv,f.nr gs),(a.wv,a.nr gs),(b.wv,b.nr gs)]∧Bst gs (Kpt ns gs lo q) 0 f∧Bst gs (Kpt ns gs lo q) 1 a∧Bst gs (Kpt ns gs lo q) (-1) b:=by
  have hc:=ni hs nd h9 hL _ q h0 h1 h2 rfl;have he:=hL q h0 h1 h2;unfold dL at he;by_cases c:fnd ns gs L q≠[]∧q∉lo
  · rw [if_pos c] at he;obtain ⟨f,a,b,e,al⟩:=gc c.1;rw [e] at he;obtain ⟨wf,kf,ef⟩:=hc.1 f (by rw [he];simp);obtain ⟨wa,ka,ea⟩:=hc.1 a (by rw [he];simp);obtain ⟨wb,kb,eb⟩:=hc.1 b (by rw [he];simp);have inf:∀ p∈L q,p∈fnd ns gs L q:=fun p hp=>cf c.1 p (by rw [e];rw [he] at hp;exact hp);refine .inr ⟨wf,wa,wb,by rw [he,ef,ea,eb],⟨kf,fun w hw=>?_⟩,⟨ka,fun w hw=>?_⟩,⟨kb,fun w hw=>?_⟩⟩
    · obtain ⟨p,hp,le⟩:=hc.2 0 (.inl rfl) w hw;have:=(al p (inf p hp)).1.trans le;rw [ef] at this;exact this
    · obtain ⟨p,hp,le⟩:=hc.2 1 (.inr (.inl rfl)) w hw;have:=(al p (inf p hp)).2.1.trans le;rw [ea] at this;exact this
    · obtain ⟨p,hp,le⟩:=hc.2 (-1) (.inr (.inr rfl)) w hw;have:=(al p (inf p hp)).2.2.trans le;rw [eb] at this;exact this
  · rw [if_neg c] at he;refine .inl ⟨he,fun w hw=>?_⟩;obtain ⟨p,hp,_⟩:=hc.2 0 (.inl rfl) w hw;rw [he] at hp;cases hp
open PySem L2
section
variable {P:Program} {w:World} {K:aab} {mg:Str→Option Value} {base:Heap} {f:Addr} {fd:FuncData}
theorem jj {H:Hp} {p0 p1 p2:Int × Int} {xs:List V} (h:PairsIn H [p0,p1,p2] xs):∃ x0 x1 x2,xs=[x0,x1,x2]∧PairIn H p0 x0∧PairIn H p1 x1∧PairIn H p2 x2:=by
  cases h with
  | cons a h =>
  cases h with
  | cons b h =>
  cases h with
  | cons c h =>
  cases h;exact ⟨_,_,_,rfl,a,b,c⟩
theorem LT.mono {T:Addr} {H H':Hp} (h:LT T H) (s:Same H H'):LT T H':=by
  obtain ⟨tp,h⟩:=h;exact ⟨tp,s _ _ h.tab,h.tri,fun pos' cv hc=>by obtain ⟨d,e1,e2⟩:=h.cds pos' cv hc;exact ⟨d,e1,s _ _ e2⟩⟩
theorem LT.ne {T a:Addr} {H:Hp} {o:HO} (h:LT T H) (e:H a=some o) (n:∀ ps,o≠.tbl ps):a≠T:=fun z=>by
  obtain ⟨tp,h⟩:=h;rw [z,h.tab] at e;exact n _ (aaM e).symm
theorem iH (ns:List Int) (h1:1≤ns.length):slice ns (0,(ns.length:Int) - 1)=ns:=by
  unfold slice;simp only;rw [show (0:Int).toNat=0 from rfl,List.drop_zero,show ((ns.length:Int) - 1 - 0+1).toNat=ns.length by lia,abq]
def RwIn (H:Hp) (r:Addr) (ns:List Int) (gs:List Sg):Prop:=H r=some (.lst (ns.map V.int))∧1≤ns.length∧ns.length≤9∧1≤gs.length∧gs.length≤3∧cw gs∧Small ns
def fK (aR aS T:Addr):Sp:=fun vs H Q E=>∃ d v e u,vs=[v,u]∧Dat H d v∧Dat H e u∧Sm1 H d v∧LT T H∧Rf aR aS d e H E∧(bh d=true→bX e=true→∀ (r:Addr) (ns:List Int) (gs:List Sg),RwIn H r ns gs→v=.ref r→u=.str (aw gs) →
  ∀ t xs (L:Int × Int→List (Int × Int)) H',But T H H'→LT T H'→H' t=some (.tup xs)→PairsIn H' (L (0,(ns.length:Int) - 1)) xs→(∀ q∈sfl ns.length ns.length,dL ns gs [] L q)→Q (.ref t) H')
abbrev cU:Stmt:=top 36
theorem gj:FnScope ["row","signs"] ["row","signs"] (ai cU):=⟨rfl,rfl,rfl,by decide +kernel,rfl,by decide +kernel,by decide +kernel⟩
theorem fU {T aE aR aS:Addr} (F:Fun K "picks_of_row" "picks_of_row" cU f fd) (B:Bu K mg) (hE:∀ H,SqT K H aE []) (C_need_row:cH P w K mg base "need_row" 3 ["thing"] (du aR)) (C_need_signs:cH P w K mg base "need_signs" 2 ["thing"] (cI aS))
    (C_picks_by_stretch:qX P w K mg base "picks_by_stretch" 5 ["row","signs","left_out"] (mv (K:=K) T) [.ref aE]):FnOk P w K mg base (CX1 P w) 6 f fd ["row","signs"] (fK aR aS T):=by
  refine Fun.ok1 F gj (fun vs H Q E h=>?_) (fun cdv A outer s H vs Q E hr h=>?_)
  · obtain ⟨d,v,e,u,rfl,_⟩:=h;rfl
  obtain ⟨d,v,e,u,rfl,hd,he,hsm,hT,rf,q0⟩:=h;refine ⟨_,(@ag _ _ _ _ _ (@cz _ _ _ _ (@bW _ _ _ _ _ _ _ _ _ _ _ _ C_need_row dn hr (by lia) rfl (@aa _ _ _ _ _ (pv 0) ad (by rfl)) (by decide) (by rfl) (by rfl)) (by rfl)) (@ag _ _ _ _ _ (@cz _ _ _ _ (@bW _ _ _ _ _ _ _ _ _ _ _ _ C_need_signs dn hr (by lia) rfl (@aa _ _ _ _ _ (pv 1) ad (by rfl)) (by decide) (by rfl) (by rfl)) (by rfl)) (PSs.nox (am (az (jh (u1 hr.units) (mB C_picks_by_stretch hr (by lia) rfl (aa (pv 0) (aa (pv 1) ad))) (bK (aa af (aa (aq cc (ax bc rfl B.ilen abl (aa (pv 0) ad)) af) ad))) (fun _ _=>rfl))))))),?_⟩;refine ⟨_,rfl,d,v,rfl,hd,fun c H1 s1=>?_,rf.1⟩;refine ⟨_,rfl,e,u,rfl,Dat.mono s1 e u he,fun c2=>?_,fun c2=>rf.2 c c2 H1 s1⟩;obtain ⟨r,ns,rfl,er,h1,h9,_⟩:=lL c hd;obtain ⟨gs,rfl,hs,g1,g3⟩:=ox c2 he;have sm:=hsm c r ns rfl er;have q:=q0 c c2 r ns gs ⟨er,h1,h9,g1,g3,hs,sm⟩ rfl rfl;have hl:(ns.map V.int).length=ns.length:=aan _;have hT1:=hT.mono s1;refine ⟨_,rfl,_,rfl,r,ns,gs,aE,[],[],rfl,s1 _ _ er,h1,h9,g1,g3,sm,.inr hE,.nil,hT1,fun pk kvs L H2 b2 hT2 nk ek hks hq=>?_⟩;have nrT:r≠T:=hT1.ne (s1 _ _ er) (fun _ z=>nomatch z);refine ⟨_,rfl,r,_,rfl,.inl (SqL.of (b2 _ _ nrT (s1 _ _ er))),_,_,rfl,rfl,(by show 2≤sizeLine;decide),fun u nu=>?_⟩;rw [hl];have su:=Same.new nu (.tup [.int 0,.int ((ns.length:Int) - 1)]);have mq:((0:Int),(ns.length:Int) - 1)∈sfl ns.length ns.length:=by
    have:=gr ns.length 0 (ns.length - 1) (by lia) (by lia)
    rwa [show (((ns.length - 1:Nat)):Int)=(ns.length:Int) - 1 by lia] at this
  obtain ⟨⟨t,xs,vt,et,hx⟩,_⟩:=hq _ mq;refine ⟨pk,.ref t,rfl,by rw [← vt];exact DGet.t (k:=ky (0,(ns.length:Int) - 1)) (su _ _ ek) ac,?_⟩;exact q t xs L _ (fun b o hb e=>su _ _ (b2 _ _ hb (s1 _ _ e))) (hT2.mono su) (su _ _ et) (PairsIn.mono (Tups.of su) hx) fun q hq'=>(hq q hq').2
abbrev KQ (ns:List Int) (gs:List Sg) (L:List (Int × Int)):Wy→Prop:=Kpt ns gs L (0,(ns.length:Int) - 1)
theorem lB:∀ gs:List Sg,gs.length≤3→cw gs→gs.Nodup
  | [],_,_=>List.nodup_nil
  | [a],_,_=>by simp
  | [a,b],_,h=>by
    cases a <;> cases b <;> first|decide|exact absurd h (by unfold cw;decide +kernel)
  | [a,b,c],_,h=>by
    cases a <;> cases b <;> cases c <;> first|decide|exact absurd h (by unfold cw;decide +kernel)
  | _ :: _ :: _ :: _ :: _,h,_=>by simp at h
theorem RwIn.picks {H:Hp} {r:Addr} {ns:List Int} {gs:List Sg} (h:RwIn H r ns gs) {L:Int × Int→List (Int × Int)} (hq:∀ q∈sfl ns.length ns.length,dL ns gs [] L q):∃ f a b,L (0,(ns.length:Int) - 1)=[(f.wv,f.nr gs),(a.wv,a.nr gs),(b.wv,b.nr gs)]∧Bst gs (KQ ns gs []) 0 f∧Bst gs (KQ ns gs []) 1 a∧Bst gs (KQ ns gs []) (-1) b:=by
  obtain ⟨_,h1,h9,g1,g3,sp,_⟩:=h;have hL:∀ q:Int × Int,0≤q.1→q.1≤q.2→q.2 < ns.length→dL ns gs [] L q:=fun q a b c=>hq q (by
    have:=gr ns.length q.1.toNat q.2.toNat (by lia) (by lia)
    rwa [show ((q.1.toNat:Nat):Int)=q.1 by lia,show ((q.2.toNat:Nat):Int)=q.2 by lia] at this)
  rcases nv (ns:=ns) (gs:=gs) (lo:=[]) g3 (lB gs g3 sp) h9 hL (q:=(0,(ns.length:Int) - 1)) (aaK _) (by simp only;lia) (by simp only;lia) with ⟨hl,no⟩|h
  · exfalso
    obtain ⟨f,a,b,e,_⟩:=mQ (fun z=>by rw [z] at g1;simp at g1) hq ns.length (0,(ns.length:Int) - 1) (by simp only;lia) (by simp only;lia) (by simp only;lia) (by simp only;lia);rw [hl] at e;cases e
  · exact h
abbrev dh:Stmt:=top 31
theorem cj:FnScope ["row","signs","first","least","greatest"] ["row","signs"] (ai dh):=⟨rfl,rfl,rfl,by decide +kernel,rfl,by decide +kernel,by decide +kernel⟩
theorem gk {T aR aS:Addr} (F:Fun K "greatest_of" "greatest_of" dh f fd) (B:Bu K mg) (C_picks_of_row:cH P w K mg base "picks_of_row" 6 ["row","signs"] (fK aR aS T)):FnOk P w K mg base (CX1 P w) 7 f fd ["row","signs"] (cT aR aS T):=by
  refine Fun.ok1 F cj (fun vs H Q E h=>?_) (fun cdv A outer s H vs Q E hr h=>?_)
  · obtain ⟨d,v,e,u,rfl,_⟩:=h;rfl
  obtain ⟨d,v,e,u,rfl,hd,he,hsm,hT,rf,q0⟩:=h;refine ⟨_,(@ag _ _ _ _ _ (@dj _ _ _ _ _ _ (@bW _ _ _ _ _ _ _ _ _ _ _ _ C_picks_of_row dn hr (by lia) rfl (@aa _ _ _ _ _ (pv 0) (@aa _ _ _ _ _ (pv 1) ad (by rfl)) (by rfl)) (by decide) (by rfl) (by rfl)) (@dk _ _ _ _ _ _ rfl (@ap _ _ _ _ _ (@ao _ _ (2) _ (cj).nd rfl (Or.inl rfl) (.inl rfl)) (@ap _ _ _ _ _ (@ao _ _ (3) _ (cj).nd rfl (Or.inl rfl) (.inl rfl)) (@ap _ _ _ _ _ (@ao _ _ (4) _ (cj).nd rfl (Or.inl rfl) (.inl rfl)) bN (by rfl)) (by rfl)) (by rfl)) (by rfl) (by rfl)) (by rfl) (by rfl) (by rfl)) (PSs.nox (am (az (a4 dE (pv 4) af (fun _ _=>rfl)))))),?_⟩;refine ⟨_,rfl,_,rfl,d,v,e,u,rfl,hd,he,hsm,hT,rf,fun c c2 r ns gs hR ev eu t xs L H1 b1 hT1 et hx hq=>?_⟩;subst ev;subst eu;have q:=q0 c c2;obtain ⟨wf,wa,wb,hl,bf,ba,bb⟩:=hR.picks hq;rw [hl] at hx;obtain ⟨x0,x1,x2,rfl,⟨t0,rfl,e0⟩,⟨t1,rfl,e1⟩,⟨t2,rfl,e2⟩⟩:=jj hx;refine ⟨t,_,rfl,SqT.of et,rfl,_,_,rfl,_,_,rfl,_,_,rfl,rfl,?_⟩;refine ⟨_,rfl,t2,_,_,_,rfl,rfl,SqT.of e2,rfl,?_⟩;exact q _ H1 b1 hT1
abbrev fc:Stmt:=top 32
theorem db:FnScope ["row","signs","first","least","greatest"] ["row","signs"] (ai fc):=⟨rfl,rfl,rfl,by decide +kernel,rfl,by decide +kernel,by decide +kernel⟩
theorem jo {T aR aS:Addr} (F:Fun K "least_of" "least_of" fc f fd) (B:Bu K mg) (C_picks_of_row:cH P w K mg base "picks_of_row" 6 ["row","signs"] (fK aR aS T)):FnOk P w K mg base (CX1 P w) 7 f fd ["row","signs"] (cT aR aS T):=by
  refine Fun.ok1 F db (fun vs H Q E h=>?_) (fun cdv A outer s H vs Q E hr h=>?_)
  · obtain ⟨d,v,e,u,rfl,_⟩:=h;rfl
  obtain ⟨d,v,e,u,rfl,hd,he,hsm,hT,rf,q0⟩:=h;refine ⟨_,(@ag _ _ _ _ _ (@dj _ _ _ _ _ _ (@bW _ _ _ _ _ _ _ _ _ _ _ _ C_picks_of_row dn hr (by lia) rfl (@aa _ _ _ _ _ (pv 0) (@aa _ _ _ _ _ (pv 1) ad (by rfl)) (by rfl)) (by decide) (by rfl) (by rfl)) (@dk _ _ _ _ _ _ rfl (@ap _ _ _ _ _ (@ao _ _ (2) _ (db).nd rfl (Or.inl rfl) (.inl rfl)) (@ap _ _ _ _ _ (@ao _ _ (3) _ (db).nd rfl (Or.inl rfl) (.inl rfl)) (@ap _ _ _ _ _ (@ao _ _ (4) _ (db).nd rfl (Or.inl rfl) (.inl rfl)) bN (by rfl)) (by rfl)) (by rfl)) (by rfl) (by rfl)) (by rfl) (by rfl) (by rfl)) (PSs.nox (am (az (a4 dE (pv 3) af (fun _ _=>rfl)))))),?_⟩;refine ⟨_,rfl,_,rfl,d,v,e,u,rfl,hd,he,hsm,hT,rf,fun c c2 r ns gs hR ev eu t xs L H1 b1 hT1 et hx hq=>?_⟩;subst ev;subst eu;have q:=q0 c c2;obtain ⟨wf,wa,wb,hl,bf,ba,bb⟩:=hR.picks hq;rw [hl] at hx;obtain ⟨x0,x1,x2,rfl,⟨t0,rfl,e0⟩,⟨t1,rfl,e1⟩,⟨t2,rfl,e2⟩⟩:=jj hx;refine ⟨t,_,rfl,SqT.of et,rfl,_,_,rfl,_,_,rfl,_,_,rfl,rfl,?_⟩;refine ⟨_,rfl,t1,_,_,_,rfl,rfl,SqT.of e1,rfl,?_⟩;exact q _ H1 b1 hT1
abbrev cy:Stmt:=top 33
theorem bM:FnScope ["row","signs","first","least","greatest"] ["row","signs"] (ai cy):=⟨rfl,rfl,rfl,by decide +kernel,rfl,by decide +kernel,by decide +kernel⟩
theorem fi {T aR aS:Addr} (F:Fun K "first_greatest" "first_greatest" cy f fd) (B:Bu K mg) (C_picks_of_row:cH P w K mg base "picks_of_row" 6 ["row","signs"] (fK aR aS T)) (C_way_at:Cal P w K mg base "way_at" 11 ["row","signs","counts","number"] (gu 9)) (C_counts_up_to:Cal P w K mg base "counts_up_to" 2 ["signs","many"] jQ):FnOk P w K mg base (CX1 P w) 12 f fd ["row","signs"] (cT aR aS T):=by
  refine Fun.ok1 F bM (fun vs H Q E h=>?_) (fun cdv A outer s H vs Q E hr h=>?_)
  · obtain ⟨d,v,e,u,rfl,_⟩:=h;rfl
  obtain ⟨d,v,e,u,rfl,hd,he,hsm,hT,rf,q0⟩:=h;refine ⟨_,(@ag _ _ _ _ _ (@dj _ _ _ _ _ _ (@bW _ _ _ _ _ _ _ _ _ _ _ _ C_picks_of_row dn hr (by lia) rfl (@aa _ _ _ _ _ (pv 0) (@aa _ _ _ _ _ (pv 1) ad (by rfl)) (by rfl)) (by decide) (by rfl) (by rfl)) (@dk _ _ _ _ _ _ rfl (@ap _ _ _ _ _ (@ao _ _ (2) _ (bM).nd rfl (Or.inl rfl) (.inl rfl)) (@ap _ _ _ _ _ (@ao _ _ (3) _ (bM).nd rfl (Or.inl rfl) (.inl rfl)) (@ap _ _ _ _ _ (@ao _ _ (4) _ (bM).nd rfl (Or.inl rfl) (.inl rfl)) bN (by rfl)) (by rfl)) (by rfl)) (by rfl) (by rfl)) (by rfl) (by rfl) (by rfl)) (PSs.nox (am (az (aB C_way_at hr (by lia) rfl (aa (pv 0) (aa (pv 1) (aa (aB C_counts_up_to hr (by lia) rfl (aa (pv 1) (aa (ax bc rfl B.ilen abl (aa (pv 0) ad)) ad))) (aa (a4 dE (pv 4) af (fun _ _=>rfl)) ad))))))))),?_⟩;refine ⟨_,rfl,_,rfl,d,v,e,u,rfl,hd,he,hsm,hT,rf,fun c c2 r ns gs hR ev eu t xs L H1 b1 hT1 et hx hq=>?_⟩;subst ev;subst eu;have q:=q0 c c2;obtain ⟨wf,wa,wb,hl,bf,ba,bb⟩:=hR.picks hq;obtain ⟨er,h1,h9,g1,g3,sp,sm⟩:=hR;have nrT:r≠T:=hT.ne er (fun _ z=>nomatch z);rw [hl] at hx;obtain ⟨x0,x1,x2,rfl,⟨t0,rfl,e0⟩,⟨t1,rfl,e1⟩,⟨t2,rfl,e2⟩⟩:=jj hx;have k0:=bb.1;have en:wb.nums=ns:=by rw [k0.1,iH ns h1]
  have ez:wb.size=ns.length:=by rw [← wb.nums_len,en]
  have zl:(aw gs).length=gs.length:=fm gs;refine ⟨t,_,rfl,SqT.of et,rfl,_,_,rfl,_,_,rfl,_,_,rfl,rfl,?_⟩;have er1:=b1 _ _ nrT er;refine ⟨_,rfl,_,rfl,_,rfl,_,rfl,r,_,rfl,.inl (SqL.of er1),?_⟩;rw [aan,← ez];refine ⟨aw gs,(wb.size:Nat),rfl,by lia,by lia,by lia,fun pc H2 s2 npc epc=>?_⟩;rw [zl] at epc;refine ⟨_,rfl,t2,_,_,_,rfl,rfl,SqT.of (s2 _ _ e2),rfl,?_⟩;exact ⟨gs,r,pc,wb,_,rfl,g3,by rw [en];exact s2 _ _ er1,epc,by lia,by lia,by lia,k0.2.1,fun v H3 s3 hv=>q v _ (b1.trans (But.of (s2.trans s3))) (hT1.mono (s2.trans s3))⟩
abbrev di:Stmt:=top 34
theorem ck:FnScope ["row","signs","first","least","greatest"] ["row","signs"] (ai di):=⟨rfl,rfl,rfl,by decide +kernel,rfl,by decide +kernel,by decide +kernel⟩
theorem gl {T aR aS:Addr} (F:Fun K "first_least" "first_least" di f fd) (B:Bu K mg) (C_picks_of_row:cH P w K mg base "picks_of_row" 6 ["row","signs"] (fK aR aS T)) (C_way_at:Cal P w K mg base "way_at" 11 ["row","signs","counts","number"] (gu 9)) (C_counts_up_to:Cal P w K mg base "counts_up_to" 2 ["signs","many"] jQ):FnOk P w K mg base (CX1 P w) 12 f fd ["row","signs"] (cT aR aS T):=by
  refine Fun.ok1 F ck (fun vs H Q E h=>?_) (fun cdv A outer s H vs Q E hr h=>?_)
  · obtain ⟨d,v,e,u,rfl,_⟩:=h;rfl
  obtain ⟨d,v,e,u,rfl,hd,he,hsm,hT,rf,q0⟩:=h;refine ⟨_,(@ag _ _ _ _ _ (@dj _ _ _ _ _ _ (@bW _ _ _ _ _ _ _ _ _ _ _ _ C_picks_of_row dn hr (by lia) rfl (@aa _ _ _ _ _ (pv 0) (@aa _ _ _ _ _ (pv 1) ad (by rfl)) (by rfl)) (by decide) (by rfl) (by rfl)) (@dk _ _ _ _ _ _ rfl (@ap _ _ _ _ _ (@ao _ _ (2) _ (ck).nd rfl (Or.inl rfl) (.inl rfl)) (@ap _ _ _ _ _ (@ao _ _ (3) _ (ck).nd rfl (Or.inl rfl) (.inl rfl)) (@ap _ _ _ _ _ (@ao _ _ (4) _ (ck).nd rfl (Or.inl rfl) (.inl rfl)) bN (by rfl)) (by rfl)) (by rfl)) (by rfl) (by rfl)) (by rfl) (by rfl) (by rfl)) (PSs.nox (am (az (aB C_way_at hr (by lia) rfl (aa (pv 0) (aa (pv 1) (aa (aB C_counts_up_to hr (by lia) rfl (aa (pv 1) (aa (ax bc rfl B.ilen abl (aa (pv 0) ad)) ad))) (aa (a4 dE (pv 3) af (fun _ _=>rfl)) ad))))))))),?_⟩;refine ⟨_,rfl,_,rfl,d,v,e,u,rfl,hd,he,hsm,hT,rf,fun c c2 r ns gs hR ev eu t xs L H1 b1 hT1 et hx hq=>?_⟩;subst ev;subst eu;have q:=q0 c c2;obtain ⟨wf,wa,wb,hl,bf,ba,bb⟩:=hR.picks hq;obtain ⟨er,h1,h9,g1,g3,sp,sm⟩:=hR;have nrT:r≠T:=hT.ne er (fun _ z=>nomatch z);rw [hl] at hx;obtain ⟨x0,x1,x2,rfl,⟨t0,rfl,e0⟩,⟨t1,rfl,e1⟩,⟨t2,rfl,e2⟩⟩:=jj hx;have k0:=ba.1;have en:wa.nums=ns:=by rw [k0.1,iH ns h1]
  have ez:wa.size=ns.length:=by rw [← wa.nums_len,en]
  have zl:(aw gs).length=gs.length:=fm gs;refine ⟨t,_,rfl,SqT.of et,rfl,_,_,rfl,_,_,rfl,_,_,rfl,rfl,?_⟩;have er1:=b1 _ _ nrT er;refine ⟨_,rfl,_,rfl,_,rfl,_,rfl,r,_,rfl,.inl (SqL.of er1),?_⟩;rw [aan,← ez];refine ⟨aw gs,(wa.size:Nat),rfl,by lia,by lia,by lia,fun pc H2 s2 npc epc=>?_⟩;rw [zl] at epc;refine ⟨_,rfl,t1,_,_,_,rfl,rfl,SqT.of (s2 _ _ e1),rfl,?_⟩;exact ⟨gs,r,pc,wa,_,rfl,g3,by rw [en];exact s2 _ _ er1,epc,by lia,by lia,by lia,k0.2.1,fun v H3 s3 hv=>q v _ (b1.trans (But.of (s2.trans s3))) (hT1.mono (s2.trans s3))⟩
def ow (aR aS T:Addr):Sp:=fun vs H Q E=>∃ k d v e u,vs=[.int k,v,u]∧0≤k∧k≤4∧Dat H d v∧Dat H e u∧Sm1 H d v∧LT T H∧Rf aR aS d e H E∧(bh d=true→bX e=true→∀ y H',But T H H'→LT T H'→Q y H')
abbrev dz:Stmt:=top 48
theorem ik:FnScope ["way","row","signs"] ["way","row","signs"] (ai dz):=⟨rfl,rfl,rfl,by decide +kernel,rfl,by decide +kernel,by decide +kernel⟩
theorem o1 {T aR aS:Addr} (F:Fun K "_law_asked" "_law_asked" dz f fd) (C_greatest_of:cH P w K mg base "greatest_of" 7 ["row","signs"] (cT aR aS T)) (C_least_of:cH P w K mg base "least_of" 7 ["row","signs"] (cT aR aS T)) (C_first_greatest:cH P w K mg base "first_greatest" 12 ["row","signs"] (cT aR aS T)) (C_first_least:cH P w K mg base "first_least" 12 ["row","signs"] (cT aR aS T)) (C_bounds_of:cH P w K mg base "bounds_of" 6 ["row","signs"] (cT aR aS T)):FnOk P w K mg base (CX1 P w) 13 f fd ["way","row","signs"] (ow aR aS T):=by
  refine Fun.ok1 F ik (fun vs H Q E h=>?_) (fun cdv A outer s H vs Q E hr h=>?_)
  · obtain ⟨k,d,v,e,u,rfl,_⟩:=h;rfl
  obtain ⟨k,d,v,e,u,rfl,k0,k4,hd,he,hsm,hT,rf,q0⟩:=h;refine ⟨_,(@ag _ _ _ _ _ (@cA _ _ _ _ _ _ _ _ (@aX _ _ _ _ _ _ _ _ fD (pv 0) af (bt _)) (@am _ _ _ (@az _ _ _ _ (@bW _ _ _ _ _ _ _ _ _ _ _ _ C_greatest_of dn hr (by lia) rfl (@aa _ _ _ _ _ (pv 1) (@aa _ _ _ _ _ (pv 2) ad (by rfl)) (by rfl)) (by decide) (by rfl) (by rfl)))) bo) (@ag _ _ _ _ _ (@cA _ _ _ _ _ _ _ _ (@aX _ _ _ _ _ _ _ _ fD (pv 0) af (bt _)) (@am _ _ _ (@az _ _ _ _ (@bW _ _ _ _ _ _ _ _ _ _ _ _ C_least_of dn hr (by lia) rfl (@aa _ _ _ _ _ (pv 1) (@aa _ _ _ _ _ (pv 2) ad (by rfl)) (by rfl)) (by decide) (by rfl) (by rfl)))) bo) (@ag _ _ _ _ _ (@cA _ _ _ _ _ _ _ _ (@aX _ _ _ _ _ _ _ _ fD (pv 0) af (bt _)) (@am _ _ _ (@az _ _ _ _ (@bW _ _ _ _ _ _ _ _ _ _ _ _ C_first_greatest dn hr (by lia) rfl (@aa _ _ _ _ _ (pv 1) (@aa _ _ _ _ _ (pv 2) ad (by rfl)) (by rfl)) (by decide) (by rfl) (by rfl)))) bo) (@ag _ _ _ _ _ (@cA _ _ _ _ _ _ _ _ (@aX _ _ _ _ _ _ _ _ fD (pv 0) af (bt _)) (@am _ _ _ (@az _ _ _ _ (@bW _ _ _ _ _ _ _ _ _ _ _ _ C_first_least dn hr (by lia) rfl (@aa _ _ _ _ _ (pv 1) (@aa _ _ _ _ _ (pv 2) ad (by rfl)) (by rfl)) (by decide) (by rfl) (by rfl)))) bo) (@am _ _ _ (@az _ _ _ _ (@bW _ _ _ _ _ _ _ _ _ _ _ _ C_bounds_of dn hr (by lia) rfl (@aa _ _ _ _ _ (pv 1) (@aa _ _ _ _ _ (pv 2) ad (by rfl)) (by rfl)) (by decide) (by rfl) (by rfl)))))))),?_⟩;have cases5:k=0∨k=1∨k=2∨k=3∨k=4:=by lia
  rcases cases5 with rfl|rfl|rfl|rfl|rfl
  · exact ⟨_,rfl,rfl,true,rfl,eI ⟨_,rfl,_,rfl,d,v,e,u,rfl,hd,he,hsm,hT,rf,q0⟩⟩
  · exact ⟨_,rfl,rfl,false,rfl,bH ⟨_,rfl,rfl,true,rfl,eI ⟨_,rfl,_,rfl,d,v,e,u,rfl,hd,he,hsm,hT,rf,q0⟩⟩⟩
  · exact ⟨_,rfl,rfl,false,rfl,bH ⟨_,rfl,rfl,false,rfl,bH ⟨_,rfl,rfl,true,rfl,eI ⟨_,rfl,_,rfl,d,v,e,u,rfl,hd,he,hsm,hT,rf,q0⟩⟩⟩⟩
  · exact ⟨_,rfl,rfl,false,rfl,bH ⟨_,rfl,rfl,false,rfl,bH ⟨_,rfl,rfl,false,rfl,bH ⟨_,rfl,rfl,true,rfl,eI ⟨_,rfl,_,rfl,d,v,e,u,rfl,hd,he,hsm,hT,rf,q0⟩⟩⟩⟩⟩
  · exact ⟨_,rfl,rfl,false,rfl,bH ⟨_,rfl,rfl,false,rfl,bH ⟨_,rfl,rfl,false,rfl,bH ⟨_,rfl,rfl,false,rfl,bH ⟨_,rfl,_,rfl,d,v,e,u,rfl,hd,he,hsm,hT,rf,q0⟩⟩⟩⟩⟩
end
open PySem L2
structure Xk (mg:Str→Option Value) (aR aS aW aN aL aF aO aA aH aT aM:Addr):Prop where
  mNoRow:mg "NoRow" = some (.ref aR)
  mNoSigns:mg "NoSigns" = some (.ref aS)
  mNoWay:mg "NoWay" = some (.ref aW)
  mNoNumber:mg "NoNumber" = some (.ref aN)
  mNoPlace:mg "NoPlace" = some (.ref aL)
  mNoFit:mg "NoFit" = some (.ref aF)
  mNoForm:mg "NoForm" = some (.ref aO)
  mNoAsk:mg "NoAsk" = some (.ref aA)
  mNoHolds:mg "NoHolds" = some (.ref aH)
  mNoText:mg "NoText" = some (.ref aT)
  mTooMany:mg "TooMany" = some (.ref aM)
  iValueError:mg "ValueError" = none
structure Kx (K:aab) (C:Addr):Prop where
  ex:ExC K C
  kv:aaC K (.ref C) (.type "ValueError")=some true
structure Kg (K:aab) (aR aS aW aN aL aF aO aA aH aT aM:Addr) (t:Value) (j:Nat):Prop where
  k0:aaC K t (.ref aR)=some (decide (j=0))
  k1:aaC K t (.ref aS)=some (decide (j=1))
  k2:aaC K t (.ref aW)=some (decide (j=2))
  k3:aaC K t (.ref aN)=some (decide (j=3))
  k4:aaC K t (.ref aH)=some (decide (j=4))
  k5:aaC K t (.ref aM)=some (decide (j=5))
  k6:aaC K t (.ref aT)=some (decide (j=6))
  ko:PySem.W.kitAny K t [.ref aA,.ref aF,.ref aO,.ref aL]=some false
def ml:List V:=[.str "NoRow",.str "NoSigns",.str "NoWay",.str "NoNumber",.str "NoHolds",.str "TooMany",.str "NoText"]
def mX (j:Nat):List Bool:=[decide (j=0),decide (j=1),decide (j=2),decide (j=3),decide (j=4),decide (j=5),decide (j=6)]
theorem on:∀ j,j < 7→(mX j).countP id=1:=by decide
theorem sW:∀ j,j < 7→(mX j)[j]?=some true∧∀ m,m < j→(mX j)[m]?=some false:=by decide
theorem rE {a b c d:Addr} {us:List Value} (r:Vals [.ref a,.ref b,.ref c,.ref d] us):us=[.ref a,.ref b,.ref c,.ref d]:=by
  cases r with
  | cons p r=>cases r with
    | cons p' r=>cases r with
      | cons p'' r=>cases r with
        | cons p3 r=>cases r;cases p;cases p';cases p'';cases p3;rfl
def oq (K:aab) (aR aS aW aN aL aF aO aA aH aT aM:Addr):Sp:=fun vs H Q _=>∃ (x:V) (t:Value) (j:Nat) (nm:Str),vs=[x]∧CauT K H x t∧Kg K aR aS aW aN aL aF aO aA aH aT aM t j∧j < 7∧aaC K t (.type "ValueError")=some true∧ml[j]?=some (.str nm)∧∀ H',Same H H'→Q (.str nm) H'
theorem gK {T:Addr} {H H':Hp} (s:Same H H'):Same (off T H) (off T H'):=fun c o h=>by
  unfold off at h ⊢;by_cases e:c=T
  · rw [if_pos e] at h;cases h
  · rw [if_neg e] at h ⊢;exact s _ _ h
theorem o3 {T:Addr} {H H':Hp} (s:But T H H'):Same (off T H) (off T H'):=fun c o h=>by
  unfold off at h ⊢;by_cases e:c=T
  · rw [if_pos e] at h;cases h
  · rw [if_neg e] at h ⊢;exact s _ _ e h
theorem jr {T:Addr} {H:Hp}:Same (off T H) H:=fun c o h=>by
  unfold off at h;by_cases e:c=T
  · rw [if_pos e] at h;cases h
  · rw [if_neg e] at h;exact h
def PrD (d:PyData):Prop:=d.showable=true∧d.depth≤50∧d.shown.length≤100000
theorem iJ {d:PyData} (h:OkD d) (hs:szD d≤900) (hd:d.depth≤50):PrD d:=by
  have:=o0 d h;exact ⟨mC d h,hd,by lia⟩
theorem r_ {i:Int} (h:i.natAbs < 10 ^ 40):PrD (.int i):=by
  refine ⟨?_,by simp [aaF],?_⟩
  · have z:(10:Nat) ^ 40 < 2 ^ 140:=by decide
    have : i.natAbs.log2 < 140:=by
      by_cases c:i.natAbs=0
      · rw [c];decide
      · exact (Nat.log2_lt c).mpr (by lia)
    simp only [abc];exact decide_eq_true (by lia)
  · have e:=int_text_length_le10 (a:=i) (k:=40) (by decide) h;show (abX (toString i)).length≤100000;rw [ofString_length];lia
theorem bq {H:Hp}:∀ ns:List Int,DatAll H (ns.map PyData.int) (ns.map V.int)
  | []=>by simp only [abW,DatAll]
  | i :: ns=>by
    simp only [aaH,DatAll];exact ⟨_,_,rfl,by simp only [Dat],bq ns⟩
theorem bw:∀ {ns:List Int},Small ns→OkAll (ns.map PyData.int)
  | [],_=>by simp only [abW,OkAll]
  | i :: ns,h=>by
    simp only [aaH,OkAll,OkD];have:=h i aav;have z:(10:Nat) ^ 13=10000000000000:=by decide
    exact ⟨by lia,bw fun j hj=>h j (aal _ hj)⟩
theorem bQ:∀ ns:List Int,szAll (ns.map PyData.int)=ns.length
  | []=>rfl
  | i :: ns=>by simp only [aaH,szAll,szD,bQ ns,aaB];lia
theorem bT:∀ ns:List Int,aaG (ns.map PyData.int)=0
  | []=>rfl
  | i :: ns=>by simp only [aaH,aaG,aaF,bT ns];rfl
theorem lT:∀ {a b:List PyData},OkAll a→OkAll b→OkAll (a++b)
  | [],_,_,h=>h
  | x :: a,b,h,k=>by
    simp only [abx,OkAll] at h ⊢;exact ⟨h.1,lT h.2 k⟩
theorem lu:∀ a b:List PyData,szAll (a++b)=szAll a+szAll b
  | [],b=>by simp [szAll]
  | x :: a,b=>by simp only [abx,szAll,lu a b];lia
theorem l8:∀ a b:List PyData,aaG (a++b)=max (aaG a) (aaG b)
  | [],b=>by simp [aaG]
  | x :: a,b=>by simp only [abx,aaG,l8 a b];lia
theorem Small.take {ns:List Int} (h:Small ns) (k:Nat):Small (ns.take k):=fun i hi=>h i (List.mem_of_mem_take hi)
theorem Small.drop {ns:List Int} (h:Small ns) (k:Nat):Small (ns.drop k):=fun i hi=>h i (List.mem_of_mem_drop hi)
def Gq (p:PyData→Bool) (H:Hp) (u:V):Prop:=∃ d,Dat H d u∧PrD d∧p d=true
theorem Gq.mono {p:PyData→Bool} {H H':Hp} {u:V} (g:Same H H') (h:Gq p H u):Gq p H' u:=by obtain ⟨d,a,b⟩:=h;exact ⟨d,Dat.mono g d u a,b⟩
section
variable {p:PyData→Bool} {H:Hp}
theorem iU {d:PyData} {u:V} (hd:Dat H d u) (ok:OkD d) (hs:szD d≤900) (hp:d.depth≤50) (h:p d=true):Gq p H u:=⟨d,hd,iJ ok hs hp,h⟩
theorem pF (h:p .none=true):Gq p H .non:=iU (d:=.none) (by simp only [Dat]) (by simp only [OkD]) (by simp [szD]) (by simp [aaF]) h
theorem rj (b:Bool) (h:p (.bool b)=true):Gq p H (.bl b):=iU (d:=.bool b) (by simp only [Dat]) (by simp only [OkD]) (by simp [szD]) (by simp [aaF]) h
theorem pG (i:Int) (hi:i.natAbs < 10 ^ 40) (h:p (.int i)=true):Gq p H (.int i):=⟨.int i,by simp only [Dat],r_ hi,h⟩
theorem cu (x:Str) (hx:(reprText x).length≤20) (h:p (.str x)=true):Gq p H (.str x):=iU (d:=.str x) (by simp only [Dat]) (by simp only [OkD];exact hx) (by simp [szD]) (by simp [aaF]) h
theorem dG {a:Addr} {xs:List V} {ds:List PyData} (e:H a=some (.lst xs)) (hd:DatAll H ds xs) (ok:OkAll ds) (sz:szAll ds≤800) (dp:aaG ds≤40) (h:p (.list ds)=true):Gq p H (.ref a) :=
  iU (d:=.list ds) (by simp only [Dat];exact ⟨a,xs,rfl,e,hd⟩) (by simp only [OkD];exact ok) (by simp only [szD];lia) (by simp only [aaF];lia) h
theorem l6 {a:Addr} {xs:List V} {ds:List PyData} (e:H a=some (.tup xs)) (hd:DatAll H ds xs) (ok:OkAll ds) (sz:szAll ds≤800) (dp:aaG ds≤40) (h:p (.tuple ds)=true):Gq p H (.ref a) :=
  iU (d:=.tuple ds) (by simp only [Dat];exact ⟨a,xs,rfl,e,hd⟩) (by simp only [OkD];exact ok) (by simp only [szD];lia) (by simp only [aaF];lia) h
theorem mK {a:Addr} (e:H a=some (.dK [])) (h:p (.dict [])=true):Gq p H (.ref a):=iU (d:=.dict []) (by simp only [Dat,DatKv];exact ⟨a,_,rfl,e,rfl⟩) (by simp only [OkD]) (by simp [szD]) (by simp [aaF,PyData.depthKv]) h
theorem rz (k:Int):DatAll H [.int k] [.int k]:=by simp only [DatAll,Dat];exact ⟨_,_,rfl,rfl,rfl⟩
theorem rq (k:Str):DatAll H [.str k] [.str k]:=by simp only [DatAll,Dat];exact ⟨_,_,rfl,rfl,rfl⟩
theorem pZ:DatAll H [] []:=by simp only [DatAll]
end
def uH (d:PyData):Bool:=!bX d
def oY (d:PyData):Bool:=!bh d
theorem c_ {H H':Hp} {z p:Addr} {oz:HO} (e:H z=some oz) (s:Same H H') (n:H' p=none):p≠z:=abt (ak (s _ _ e) n)
theorem pr2 {a b:PyData} (h1:PrD a) (h2:PrD b):(PyData.list [a,b]).showable=true∧(PyData.list [a,b]).depth≤60∧(PyData.list [a,b]).shown.length≤sizeLine:=by
  obtain ⟨a1,a2,a3⟩:=h1;obtain ⟨b1,b2,b3⟩:=h2;refine ⟨?_,?_,?_⟩
  · simp only [abc,ab3,a1,b1,Bool.and_self]
  · simp only [aaF,aaG];lia
  · have z:=listText_len_le (abD [a,b]);simp only [PyData.shown];simp only [abD,aaH,abW,List.sum_cons,List.sum_nil,aaB,aaV] at z ⊢;exact aaJ (show _≤700000 by lia) (by rw [sizeLine_eq];decide)
theorem neF {b:Bool} (h:b=true):¬ b=false:=fun z=>by rw [h] at z;cases z
def eM (d e:PyData):Str:=if bh d=false then "NoRow" else if bX e=false then "NoSigns" else "told"
theorem jZ {d e:PyData} (c:bh d=false):eM d e = "NoRow":=by unfold eM;rw [if_pos c]
theorem gz {d e:PyData} (c:bh d=true) (c2:bX e=false):eM d e = "NoSigns":=by unfold eM;rw [if_neg (neF c),if_pos c2]
theorem iI {d e:PyData} (c:bh d=true) (c2:bX e=true):eM d e = "told":=by unfold eM;rw [if_neg (neF c),if_neg (neF c2)]
def lF (T:Addr):Sp:=fun vs H Q _=>∃ k d v e u,vs=[.int k,v,u]∧0≤k∧k≤4∧Dat (off T H) d v∧Dat (off T H) e u∧PrD d∧PrD e∧Sm1 H d v∧LT T H∧∀ H',But T H H'→LT T H'→Q (.str (eM d e)) H'
section
variable {P:Program} {w:World} {K:aab} {mg:Str→Option Value} {base:Heap} {f:Addr} {fd:FuncData}
abbrev dR:Stmt:=top 45
theorem cJ:FnScope ["caught","kinds","odd"] ["caught"] (ai dR):=⟨rfl,rfl,rfl,by decide +kernel,rfl,by decide +kernel,by decide +kernel⟩
theorem qC {aR aS aW aN aL aF aO aA aH aT aM:Addr} (F:Fun K "_law_word" "_law_word" dR f fd) (B:Bu K mg) (XK:Xk mg aR aS aW aN aL aF aO aA aH aT aM):FnOk P w K mg base CX0 1 f fd ["caught"] (oq K aR aS aW aN aL aF aO aA aH aT aM):=by
  refine F.ok cJ (fun vs H Q E h=>?_) (fun cdv A outer s H vs Q E hr h=>?_)
  · obtain ⟨x,t,j,nm,rfl,_⟩:=h;rfl
  obtain ⟨x,t,j,nm,rfl,hx,kf,j7,kv,hn,q⟩:=h;refine ⟨_,(@ag _ _ _ _ _ (@aC _ _ (1) _ _ _ _ (cJ).nd rfl (Or.inl rfl) (@aD _ _ _ _ (@aa _ _ _ _ _ (@ax _ _ _ _ _ _ _ _ _ br rfl B.iisinstance aaw (@aa _ _ _ _ _ (pv 0) (@aa _ _ _ _ _ (@bV _ _ (.ref aR) _ _ rfl XK.mNoRow rfl (by decide)) ad (by rfl)) (by rfl)) (by decide) (by decide) (by rfl) (by rfl)) (@aa _ _ _ _ _ (@ax _ _ _ _ _ _ _ _ _ br rfl B.iisinstance aaw (@aa _ _ _ _ _ (pv 0) (@aa _ _ _ _ _ (@bV _ _ (.ref aS) _ _ rfl XK.mNoSigns rfl (by decide)) ad (by rfl)) (by rfl)) (by decide) (by decide) (by rfl) (by rfl)) (@aa _ _ _ _ _ (@ax _ _ _ _ _ _ _ _ _ br rfl B.iisinstance aaw (@aa _ _ _ _ _ (pv 0) (@aa _ _ _ _ _ (@bV _ _ (.ref aW) _ _ rfl XK.mNoWay rfl (by decide)) ad (by rfl)) (by rfl)) (by decide) (by decide) (by rfl) (by rfl)) ad (by rfl)) (by rfl)) (by rfl))) (by rfl) (by first|exact .inl rfl|exact .inr rfl|assumption)) (@ag _ _ _ _ _ (@aC _ _ (1) _ _ _ _ (cJ).nd rfl (Or.inl rfl) (@aq _ _ _ _ _ _ _ _ dl (pv 1) (@aD _ _ _ _ (@aa _ _ _ _ _ (@ax _ _ _ _ _ _ _ _ _ br rfl B.iisinstance aaw (@aa _ _ _ _ _ (pv 0) (@aa _ _ _ _ _ (@bV _ _ (.ref aN) _ _ rfl XK.mNoNumber rfl (by decide)) ad (by rfl)) (by rfl)) (by decide) (by decide) (by rfl) (by rfl)) (@aa _ _ _ _ _ (@ax _ _ _ _ _ _ _ _ _ br rfl B.iisinstance aaw (@aa _ _ _ _ _ (pv 0) (@aa _ _ _ _ _ (@bV _ _ (.ref aH) _ _ rfl XK.mNoHolds rfl (by decide)) ad (by rfl)) (by rfl)) (by decide) (by decide) (by rfl) (by rfl)) (@aa _ _ _ _ _ (@ax _ _ _ _ _ _ _ _ _ br rfl B.iisinstance aaw (@aa _ _ _ _ _ (pv 0) (@aa _ _ _ _ _ (@bV _ _ (.ref aM) _ _ rfl XK.mTooMany rfl (by decide)) ad (by rfl)) (by rfl)) (by decide) (by decide) (by rfl) (by rfl)) ad (by rfl)) (by rfl)) (by rfl)))) (by rfl) (by first|exact .inl rfl|exact .inr rfl|assumption)) (@ag _ _ _ _ _ (@cz _ _ _ _ (@gG _ _ _ _ _ _ _ _ _ _ _ _ aa3 abm abn dq (pv 1) (@aa _ _ _ _ _ (@ax _ _ _ _ _ _ _ _ _ br rfl B.iisinstance aaw (@aa _ _ _ _ _ (pv 0) (@aa _ _ _ _ _ (@bV _ _ (.ref aT) _ _ rfl XK.mNoText rfl (by decide)) ad (by rfl)) (by rfl)) (by decide) (by decide) (by rfl) (by rfl)) ad (by rfl)) (by rfl) (by rfl) (by rfl) (by rfl) (by rfl)) (by rfl)) (@ag _ _ _ _ _ (@aC _ _ (2) _ _ _ _ (cJ).nd rfl (Or.inl rfl) (@ax _ _ _ _ _ _ _ _ _ iz rfl B.iisinstance aaw (@aa _ _ _ _ _ (pv 0) (@aa _ _ _ _ _ (@bK _ _ _ _ _ (@aa _ _ _ _ _ (@bV _ _ (.ref aA) _ _ rfl XK.mNoAsk rfl (by decide)) (@aa _ _ _ _ _ (@bV _ _ (.ref aF) _ _ rfl XK.mNoFit rfl (by decide)) (@aa _ _ _ _ _ (@bV _ _ (.ref aO) _ _ rfl XK.mNoForm rfl (by decide)) (@aa _ _ _ _ _ (@bV _ _ (.ref aL) _ _ rfl XK.mNoPlace rfl (by decide)) ad (by rfl)) (by rfl)) (by rfl)) (by rfl))) ad (by rfl)) (by rfl)) (by decide) (by decide) (by rfl) (by rfl)) (by rfl) (by first|exact .inl rfl|exact .inr rfl|assumption)) (@ag _ _ _ _ _ (@cA _ _ _ _ _ _ _ _ (@PW.pt _ _ _ (@oG _ _ _ _ _ _ _ (@j6 _ _ _ (pv 2) (fun _=>rfl)) (@oG _ _ _ _ _ _ _ (@aX _ _ _ _ _ _ _ _ kc (@gG _ _ _ _ _ _ _ _ _ _ _ _ aa3 PySem.F.slot_list_count PySem.F.type_list_count (@nI _ hr.units) (pv 1) (@aa _ _ _ _ _ dY ad (by rfl)) (by rfl) (by rfl) (by rfl) (by rfl) (by rfl)) af (bt _)) (@oF _ _ _ _ (@gC _ _ _ _ (@jf _ _ _ (@ax _ _ _ _ _ _ _ _ _ br rfl B.iisinstance aaw (@aa _ _ _ _ _ (pv 0) (@aa _ _ _ _ _ (@fC _ _ (.ty "ValueError") _ _ rfl XK.iValueError (by decide +kernel) rfl (by decide) (by decide)) ad (by rfl)) (by rfl)) (by decide) (by decide) (by rfl) (by rfl)) (by intro _;rfl))))))) (@am _ _ _ (@az _ _ _ _ ay)) bo) (@am _ _ _ (@az _ _ _ _ (@a4 _ _ _ _ _ _ _ aY (@aD _ _ _ _ (@aa _ _ _ _ _ ay (@aa _ _ _ _ _ ay (@aa _ _ _ _ _ ay (@aa _ _ _ _ _ ay (@aa _ _ _ _ _ ay (@aa _ _ _ _ _ ay (@aa _ _ _ _ _ ay ad (by rfl)) (by rfl)) (by rfl)) (by rfl)) (by rfl)) (by rfl)) (by rfl))) (@gG _ _ _ _ _ _ _ _ _ _ _ _ aa3 PySem.F.slot_list_index PySem.F.type_list_index (@nH _ hr.units) (pv 1) (@aa _ _ _ _ _ dY ad (by rfl)) (by rfl) (by rfl) (by rfl) (by rfl) (by rfl)) (fun _ _=>rfl))))))))),?_⟩;refine ⟨_,rfl,x,_,t,_,_,rfl,hx,fun _ z=>z,kf.k0,_,rfl,x,_,t,_,_,rfl,hx,fun _ z=>z,kf.k1,_,rfl,x,_,t,_,_,rfl,hx,fun _ z=>z,kf.k2,(by show 3≤sizeLine;decide),fun pk nk=>?_⟩;have g1:=Same.new nk (.lst [.bl (decide (j=0)),.bl (decide (j=1)),.bl (decide (j=2))]);have ek1:upd H pk (.lst [.bl (decide (j=0)),.bl (decide (j=1)),.bl (decide (j=2))]) pk=_:=ac;generalize upd H pk (.lst [.bl (decide (j=0)),.bl (decide (j=1)),.bl (decide (j=2))])=H1 at g1 ek1 ⊢;have hx1:=hx.mono g1;refine ⟨_,rfl,_,rfl,x,_,t,_,_,rfl,hx1,fun _ z=>z,kf.k3,_,rfl,x,_,t,_,_,rfl,hx1,fun _ z=>z,kf.k4,_,rfl,x,_,t,_,_,rfl,hx1,fun _ z=>z,kf.k5,(by show 3≤sizeLine;decide),fun pl nl=>?_⟩;have g2:=Same.new nl (.lst [.bl (decide (j=3)),.bl (decide (j=4)),.bl (decide (j=5))]);have ek2:upd H1 pl (.lst [.bl (decide (j=3)),.bl (decide (j=4)),.bl (decide (j=5))]) pl=_:=ac;have ek1':=g2 _ _ ek1;generalize upd H1 pl (.lst [.bl (decide (j=3)),.bl (decide (j=4)),.bl (decide (j=5))])=H2 at g2 ek2 ek1' ⊢;refine ⟨pk,pl,_,_,rfl,rfl,ek1',ek2,(by show 6≤sizeLine;decide),fun pm nm'=>?_⟩;have g3:=Same.new nm' (.lst ([.bl (decide (j=0)),.bl (decide (j=1)),.bl (decide (j=2))]++[.bl (decide (j=3)),.bl (decide (j=4)),.bl (decide (j=5))]));have ek:upd H2 pm (.lst ([.bl (decide (j=0)),.bl (decide (j=1)),.bl (decide (j=2))]++[.bl (decide (j=3)),.bl (decide (j=4)),.bl (decide (j=5))])) pm=some (.lst [.bl (decide (j=0)),.bl (decide (j=1)),.bl (decide (j=2)),.bl (decide (j=3)),.bl (decide (j=4)),.bl (decide (j=5))]):=ac;have G2:=g1.trans g2;have nm0:H pm=none:=G2.free nm';have G3:=G2.trans g3;generalize upd H2 pm (.lst ([.bl (decide (j=0)),.bl (decide (j=1)),.bl (decide (j=2))]++[.bl (decide (j=3)),.bl (decide (j=4)),.bl (decide (j=5))]))=H3 at g3 ek G3 ⊢;refine ⟨_,rfl,.inl ⟨rfl,_,SqL.of ek⟩,_,rfl,x,_,t,_,_,rfl,(hx.mono G3),fun _ z=>z,kf.k6,pm,_,_,rfl,rfl,ek,(by show 6 < sizeLine;decide),?_⟩;have G4:=G3.upd (o:=.lst ([.bl (decide (j=0)),.bl (decide (j=1)),.bl (decide (j=2)),.bl (decide (j=3)),.bl (decide (j=4)),.bl (decide (j=5))]++[.bl (decide (j=6))])) nm0;have ek4:upd H3 pm (.lst ([.bl (decide (j=0)),.bl (decide (j=1)),.bl (decide (j=2)),.bl (decide (j=3)),.bl (decide (j=4)),.bl (decide (j=5))]++[.bl (decide (j=6))])) pm=some (.lst ((mX j).map V.bl)):=ac;generalize upd H3 pm (.lst ([.bl (decide (j=0)),.bl (decide (j=1)),.bl (decide (j=2)),.bl (decide (j=3)),.bl (decide (j=4)),.bl (decide (j=5))]++[.bl (decide (j=6))]))=H4 at G4 ek4 ⊢;refine ⟨_,rfl,(by show 4≤sizeLine;decide),fun p1 n1=>⟨x,p1,_,t,_,false,rfl,(hx.mono G4).mono (Same.new n1 _),ac,fun _ r=>rE r,kf.ko,?_⟩⟩;have G5:=G4.trans (Same.new n1 (.tup [.ref aA,.ref aF,.ref aO,.ref aL]));have ek5:=(Same.new n1 (.tup [.ref aA,.ref aF,.ref aO,.ref aL])) _ _ ek4;generalize upd H4 p1 (.tup [.ref aA,.ref aF,.ref aO,.ref aL])=H5 at G5 ek5 ⊢;have hx5:=hx.mono G5;refine ⟨_,rfl,false,rfl,bH ?_⟩;refine ⟨_,rfl,.inl ⟨rfl,_,SqL.of ek5⟩,pm,mX j,rfl,rfl,SqL.of ek5,?_⟩;rw [on j j7];refine ⟨rfl,_,rfl,tS rfl ?_⟩;refine ⟨_,rfl,x,_,t,_,_,rfl,hx5,fun _ z=>z,kv,true,rfl,bH ?_⟩;refine ⟨(by show 7≤sizeLine;decide),fun pn nn=>?_⟩;have g7:=Same.new nn (.lst ml);obtain ⟨k1,k2⟩:=sW j j7;refine ⟨_,rfl,.inl ⟨rfl,_,SqL.of (g7 _ _ ek5)⟩,pm,mX j,j,rfl,rfl,SqL.of (g7 _ _ ek5),k1,k2,(by show 7≤1000;decide),?_⟩;exact ⟨pn,_,_,_,rfl,rfl,SqL.of ac,fH hn,q _ (G5.trans g7)⟩
abbrev dU:Stmt:=top 49
theorem cm:FnScope ["way","row","signs","caught","kept","e"] ["way","row","signs"] (ai dU):=⟨rfl,rfl,rfl,by decide +kernel,rfl,by decide +kernel,by decide +kernel⟩
theorem qE {T aP aR aS aW aN aL aF aO aA aH aT aM:Addr} (F:Fun K "_law_said" "_law_said" dU f fd) (B:Bu K mg) (XC:Xc K mg aP aR aS) (E0:Kg K aR aS aW aN aL aF aO aA aH aT aM (.ref aR) 0) (E1:Kg K aR aS aW aN aL aF aO aA aH aT aM (.ref aS) 1) (X0:Kx K aR) (X1:Kx K aS)
    (C__law_asked:cH P w K mg base "_law_asked" 13 ["way","row","signs"] (ow aR aS T)) (C__law_word:Cal P w K mg base "_law_word" 1 ["caught"] (oq K aR aS aW aN aL aF aO aA aH aT aM)):FnOk P w K mg base CX0 14 f fd ["way","row","signs"] (lF T):=by
  refine F.ok cm (fun vs H Q E h=>?_) (fun cdv A outer s H vs Q E hr h=>?_)
  · obtain ⟨k,d,v,e,u,rfl,_⟩:=h;rfl
  obtain ⟨k,d,v,e,u,rfl,k0,k4,hd,he,pd,pe,hsm,hT,q⟩:=h;refine ⟨_,(@ag _ _ _ _ _ (@aC _ _ (3) _ _ _ _ (cm).nd rfl (Or.inl rfl) fS (by rfl) (by first|exact .inl rfl|exact .inr rfl|assumption)) (@ag _ _ _ _ _ (@aC _ _ (4) _ _ _ _ (cm).nd rfl (Or.inl rfl) (@ax _ _ _ _ _ _ _ _ _ (@i4 _ hr.gd hr.units) rfl B.irepr PyProof.Rows.boot_repr (@aa _ _ _ _ _ (@aD _ _ _ _ (@aa _ _ _ _ _ (pv 1) (@aa _ _ _ _ _ (pv 2) ad (by rfl)) (by rfl))) ad (by rfl)) (by decide) (by decide) (by rfl) (by rfl)) (by rfl) (by first|exact .inl rfl|exact .inr rfl|assumption)) (@ag _ _ _ _ _ (@rY _ _ _ _ (5) _ _ _ _ _ _ _ _ rfl rfl rfl rfl XC.mPutError (cm).nd rfl rfl (fun _ _=>(am (cz (qA C__law_asked rfl hr (by lia) rfl (aa (pv 0) (aa (pv 1) (aa (pv 2) ad))))))) (fun _=>(am (aC (i:=3) (cm).nd rfl (Or.inl rfl) (pv 5)))) (by decide)) (@ag _ _ _ _ _ (@cA _ _ _ _ _ _ _ _ (@aX _ _ _ _ _ _ _ _ kc (@ax _ _ _ _ _ _ _ _ _ (@i4 _ hr.gd hr.units) rfl B.irepr PyProof.Rows.boot_repr (@aa _ _ _ _ _ (@aD _ _ _ _ (@aa _ _ _ _ _ (pv 1) (@aa _ _ _ _ _ (pv 2) ad (by rfl)) (by rfl))) ad (by rfl)) (by decide) (by decide) (by rfl) (by rfl)) (pv 4) (bt _)) (@am _ _ _ (@az _ _ _ _ ay)) bo) (@am _ _ _ (@az _ _ _ _ (@gE _ _ _ _ _ _ _ _ (@aX _ _ _ _ _ _ _ _ so (pv 3) fS (bt _)) ay (@aB _ _ _ _ _ _ _ _ _ _ _ C__law_word hr (by lia) rfl (@aa _ _ _ _ _ (pv 3) ad (by rfl)) (by decide) (by rfl) (by rfl))))))))),?_⟩;obtain ⟨s1,s2,s3⟩:=pr2 pd pe;have DL:∀ {H':Hp} {p:Addr},Same (off T H) (off T H')→H' p=some (.lst [v,u])→Dat H' (.list [d,e]) (.ref p):=fun {H' p} S' e'=>by
    have S'':=S'.trans jr;simp only [Dat,DatAll];exact ⟨p,_,rfl,e',_,_,rfl,Dat.mono S'' _ _ hd,_,_,rfl,Dat.mono S'' _ _ he,rfl⟩
  obtain ⟨kt,hkt⟩:∃ kt,(PyData.list [d,e]).shown=kt:=⟨_,rfl⟩
  refine ⟨_,rfl,_,rfl,(by show 2≤sizeLine;decide),fun p1 n1=>⟨_,_,rfl,DL (gK (Same.new n1 _)) ac,s1,s2,s3,?_⟩⟩;rw [hkt];have g0:=Same.new n1 (.lst [v,u]);generalize upd H p1 (.lst [v,u])=H0 at g0 ⊢;have hT0:=hT.mono g0;have VV:=gK (T:=T) g0;have hd0:=Dat.mono (VV.trans jr) _ _ hd;have he0:=Dat.mono (VV.trans jr) _ _ he;have sm0:Sm1 H0 d v:=fun c r ns ev en=>by
    obtain ⟨r',ns',e1,e2,_⟩:=lL c (Dat.mono jr _ _ hd);have e3:=g0 _ _ e2;rw [ev] at e1;injection e1 with e1
    subst e1;rw [e3] at en;injection en with en
    injection en with en
    exact hsm c r ns ev (by rw [e2,en])
  refine ⟨_,rfl,_,rfl,_,rfl,k,d,v,e,u,rfl,k0,k4,hd0,he0,sm0,hT0,⟨fun c H1 g1 C hC=>?_,fun c c2 H1 g1 C hC=>?_⟩,fun c c2 y H1 b1 hT1=>?_⟩
  · cases hC;refine ⟨XC.uNoRow,fun ea ne=>?_⟩;refine ⟨_,rfl,?_⟩;have ee:upd H1 ea (cZ ea aR) ea=some (cZ ea aR):=ac;have g2:=g1.trans (Same.new ne (cZ ea aR));generalize upd H1 ea (cZ ea aR)=H2 at g2 ee ⊢;have V2:=VV.trans (gK (T:=T) g2);refine ⟨_,rfl,_,rfl,(by show 2≤sizeLine;decide),fun p2 n2=>⟨_,_,rfl,DL (V2.trans (gK (Same.new n2 _))) ac,s1,s2,s3,?_⟩⟩;rw [hkt];have g3:=Same.new n2 (.lst [v,u]);refine ⟨_,rfl,rfl,_,rfl,iq (fun zz=>absurd zz (by simp)) (fun _=>?_)⟩;have G:=(g0.trans g2).trans g3;refine ⟨_,rfl,rfl,_,rfl,kN (fun z=>nomatch z) ?_⟩;exact ⟨_,rfl,.ref ea,.ref aR,0,"NoRow",rfl,.inr ⟨ea,aR,rfl,g3 _ _ ee,X0.ex,rfl⟩,E0,by decide,X0.kv,rfl,fun H5 g5=>by rw [← (show eM d e=("NoRow":Str) from jZ c)];exact q H5 (But.of (G.trans g5)) (hT.mono (G.trans g5))⟩
  · cases hC;refine ⟨XC.uNoSigns,fun ea ne=>?_⟩;refine ⟨_,rfl,?_⟩;have ee:upd H1 ea (cZ ea aS) ea=some (cZ ea aS):=ac;have g2:=g1.trans (Same.new ne (cZ ea aS));generalize upd H1 ea (cZ ea aS)=H2 at g2 ee ⊢;have V2:=VV.trans (gK (T:=T) g2);refine ⟨_,rfl,_,rfl,(by show 2≤sizeLine;decide),fun p2 n2=>⟨_,_,rfl,DL (V2.trans (gK (Same.new n2 _))) ac,s1,s2,s3,?_⟩⟩;rw [hkt];have g3:=Same.new n2 (.lst [v,u]);refine ⟨_,rfl,rfl,_,rfl,iq (fun zz=>absurd zz (by simp)) (fun _=>?_)⟩;have G:=(g0.trans g2).trans g3;refine ⟨_,rfl,rfl,_,rfl,kN (fun z=>nomatch z) ?_⟩;exact ⟨_,rfl,.ref ea,.ref aS,1,"NoSigns",rfl,.inr ⟨ea,aS,rfl,g3 _ _ ee,X1.ex,rfl⟩,E1,by decide,X1.kv,rfl,fun H5 g5=>by rw [← (show eM d e=("NoSigns":Str) from gz c c2)];exact q H5 (But.of (G.trans g5)) (hT.mono (G.trans g5))⟩
  · have V2:=VV.trans (o3 b1);refine ⟨_,rfl,_,rfl,(by show 2≤sizeLine;decide),fun p2 n2=>⟨_,_,rfl,DL (V2.trans (gK (Same.new n2 _))) ac,s1,s2,s3,?_⟩⟩;rw [hkt];have g3:=Same.new n2 (.lst [v,u]);refine ⟨_,rfl,rfl,_,rfl,iq (fun zz=>absurd zz (by simp)) (fun _=>?_)⟩;refine ⟨_,rfl,rfl,_,rfl,py rfl ?_⟩;rw [← (show eM d e=("told":Str) from iI c c2)];exact q _ ((But.of g0).trans (b1.trans (But.of g3))) (hT1.mono g3)
end
open PySem L2
theorem qp {A B:List PyData} {d:PyData} (h:bS d=false):oY (.list (A++[d]++B))=true:=by
  show (!(decide (1≤(A++[d]++B).length) && decide ((A++[d]++B).length≤9) && (A++[d]++B).all bS))=true;have : (A++[d]++B).all bS=false:=by
    rw [List.all_append,List.all_append];simp [h]
  rw [this];simp
def GsB (H:Hp) (u:V):Prop:=∃ d,Dat H d u∧OkD d∧szD d≤10∧d.depth≤3∧bS d=false
theorem LT.old {T:Addr} {H:Hp} (h:LT T H):∃ oT,H T=some oT:=by obtain ⟨tp,h⟩:=h;exact ⟨_,h.tab⟩
def lH (T:Addr):Sp:=fun vs H Q _=>∃ oT,vs=[]∧H T=some oT∧∀ p xs H',Same H H'→H p=none→H' p=some (.lst xs)→xs.length≤100→(∀ x∈xs,Gq uH (off T H') x)→Q (.ref p) H'
def lI (T:Addr):Sp:=fun vs H Q _=>∃ wl r ns M oT,vs=[.ref wl,.ref r]∧Wel H wl M∧M < 999990000∧H T=some oT∧T≠wl∧H r=some (.lst (ns.map V.int))∧r≠wl∧r≠T∧1≤ns.length∧ns.length≤9∧Small ns∧∀ p xs H',But wl H H'→H p=none→H' p=some (.lst xs)→xs.length≤100→(∀ x∈xs,Gq oY (off T H') x)→Q (.ref p) H'
theorem sx {H:Hp} {p:Addr} (n:H p=none) (o:HO):upd H p o p=some o:=ac
theorem tJ:PrD (.dict [(.int 1,.int 2)]):=by unfold PrD;decide +kernel
theorem qM {ds:List PyData} (h:ds.length=10):oY (.list ds)=true:=by
  show (!(decide (1≤ds.length) && decide (ds.length≤9) && ds.all bS))=true;rw [h];rfl
section
variable {P:Program} {w:World} {K:aab} {mg:Str→Option Value} {base:Heap} {f:Addr} {fd:FuncData}
abbrev cG:Stmt:=top 47
theorem dm:FnScope ["some"] [] (ai cG):=⟨rfl,rfl,rfl,by decide +kernel,rfl,by decide +kernel,by decide +kernel⟩
theorem kh {T:Addr} (F:Fun K "_law_no_signs" "_law_no_signs" cG f fd):FnOk P w K mg base CX0 1 f fd [] (lH T):=by
  refine F.ok dm (fun vs H Q E h=>?_) (fun cdv A outer s H vs Q E hr h=>?_)
  · obtain ⟨oT,rfl,_⟩:=h;rfl
  obtain ⟨oT,rfl,eT,q⟩:=h;refine ⟨_,(@ag _ _ _ _ _ (@aC _ _ (0) _ _ _ _ (dm).nd rfl (Or.inl rfl) (@aD _ _ _ _ (@aa _ _ _ _ _ fS (@aa _ _ _ _ _ af (@aa _ _ _ _ _ dY (@aa _ _ _ _ _ ay (@aa _ _ _ _ _ ay (@aa _ _ _ _ _ ay (@aa _ _ _ _ _ ay (@aa _ _ _ _ _ ay (@aa _ _ _ _ _ ay (@aa _ _ _ _ _ ay (@aa _ _ _ _ _ ay (@aa _ _ _ _ _ ay (@aa _ _ _ _ _ (@aD _ _ _ _ (@aa _ _ _ _ _ ay ad (by rfl))) (@aa _ _ _ _ _ (@bK _ _ _ _ _ (@aa _ _ _ _ _ ay ad (by rfl))) (@aa _ _ _ _ _ (@aD _ _ _ _ ad) (@aa _ _ _ _ _ gF ad (by rfl)) (by rfl)) (by rfl)) (by rfl)) (by rfl)) (by rfl)) (by rfl)) (by rfl)) (by rfl)) (by rfl)) (by rfl)) (by rfl)) (by rfl)) (by rfl)) (by rfl)) (by rfl))) (by rfl) (by first|exact .inl rfl|exact .inr rfl|assumption)) (@am _ _ _ (@az _ _ _ _ (@aq _ _ _ _ _ _ _ _ dl (pv 0) (@aD _ _ _ _ (@aa _ _ _ _ _ ay (@aa _ _ _ _ _ ay (@aa _ _ _ _ _ ay ad (by rfl)) (by rfl)) (by rfl))))))),?_⟩;refine ⟨(by show 1≤sizeLine;decide),fun p1 n1=>⟨(by show 1≤sizeLine;decide),fun p2 n2=>⟨(by show 0≤sizeLine;decide),fun p3 n3=>fun p4 n4=>⟨(by show 16≤sizeLine;decide),fun p5 n5=>?_⟩⟩⟩⟩;have k1:=Same.new n1 (.lst [.str "+"]);have k2:=Same.new n2 (.tup [.str "+"]);have k3:=Same.new n3 (.lst []);have k4:=Same.new n4 (.dK []);have k5:=Same.new n5 (.lst [.non,.int 0,.bl true,.str "",.str "-+",.str "*+",.str "++",.str "+-*+",.str "/",.str "+ ",.str "+/",.str "a",.ref p1,.ref p2,.ref p3,.ref p4]);have K2:=k1.trans k2;have K3:=K2.trans k3;have K4:=K3.trans k4;have K5:=K4.trans k5;refine ⟨_,rfl,(by show 3≤sizeLine;decide),fun p6 n6=>⟨p5,p6,_,_,rfl,rfl,(Same.new n6 _) _ _ ac,ac,(by show 19≤sizeLine;decide),fun p7 n7=>?_⟩⟩;have k6:=Same.new n6 (.lst [.str "*-",.str "+*-",.str "+ -"]);have k7:=Same.new n7 (.lst ([.non,.int 0,.bl true,.str "",.str "-+",.str "*+",.str "++",.str "+-*+",.str "/",.str "+ ",.str "+/",.str "a",.ref p1,.ref p2,.ref p3,.ref p4]++[.str "*-",.str "+*-",.str "+ -"]));have K6:=K5.trans k6;have K7:=K6.trans k7;have f1:=(bG (c_ eT (Same.refl _) n1)).trans (k7 _ _ (k6 _ _ (k5 _ _ (k4 _ _ (k3 _ _ (k2 _ _ (ac (a:=p1))))))));have f2:=(bG (c_ eT k1 n2)).trans (k7 _ _ (k6 _ _ (k5 _ _ (k4 _ _ (k3 _ _ (ac (a:=p2)))))));have f3:=(bG (c_ eT K2 n3)).trans (k7 _ _ (k6 _ _ (k5 _ _ (k4 _ _ (ac (a:=p3))))));have f4:=(bG (c_ eT K3 n4)).trans (k7 _ _ (k6 _ _ (k5 _ _ (ac (a:=p4)))));refine q p7 _ _ K7 (K6.free n7) ac (by show 19≤100;decide) (fun x hm=>?_);simp only [abx,List.nil_append,aaj,aa6,or_false] at hm;rcases hm with rfl|rfl|rfl|rfl|rfl|rfl|rfl|rfl|rfl|rfl|rfl|rfl|rfl|rfl|rfl|rfl|rfl|rfl|rfl
  · exact pF rfl
  · exact pG _ (by decide) rfl
  · exact rj _ rfl
  · exact cu _ (by decide +kernel) (by decide +kernel)
  · exact cu _ (by decide +kernel) (by decide +kernel)
  · exact cu _ (by decide +kernel) (by decide +kernel)
  · exact cu _ (by decide +kernel) (by decide +kernel)
  · exact cu _ (by decide +kernel) (by decide +kernel)
  · exact cu _ (by decide +kernel) (by decide +kernel)
  · exact cu _ (by decide +kernel) (by decide +kernel)
  · exact cu _ (by decide +kernel) (by decide +kernel)
  · exact cu _ (by decide +kernel) (by decide +kernel)
  · exact dG f1 (rq "+") (by simp only [OkAll,OkD];decide +kernel) (by simp [szAll,szD]) (by simp [aaF,aaG]) rfl
  · exact l6 f2 (rq "+") (by simp only [OkAll,OkD];decide +kernel) (by simp [szAll,szD]) (by simp [aaF,aaG]) rfl
  · exact dG f3 pZ (by simp only [OkAll]) (by simp [szAll]) (by simp [aaG]) rfl
  · exact mK f4 rfl
  · exact cu _ (by decide +kernel) (by decide +kernel)
  · exact cu _ (by decide +kernel) (by decide +kernel)
  · exact cu _ (by decide +kernel) (by decide +kernel)
abbrev cW:Stmt:=top 46
theorem cb:FnScope ["well","row","at","odd","some"] ["well","row"] (ai cW):=⟨rfl,rfl,rfl,by decide +kernel,rfl,by decide +kernel,by decide +kernel⟩
theorem lR {T:Addr} (F:Fun K "_law_no_rows" "_law_no_rows" cW f fd) (B:Bu K mg) (C__law_draw:Cal P w K mg base "_law_draw" 2 ["well","many"] fM):FnOk P w K mg base CX0 3 f fd ["well","row"] (lI T):=by
  refine F.ok cb (fun vs H Q E h=>?_) (fun cdv A outer s H vs Q E hr h=>?_)
  · obtain ⟨wl,r,ns,M,oT,rfl,_⟩:=h;rfl
  obtain ⟨wl,r,ns,M,oT,rfl,hw,hM,eT,nTw,er,nrw,nrT,h1,h9,sm,q⟩:=h;refine ⟨_,(@ag _ _ _ _ _ (@aC _ _ (2) _ _ _ _ (cb).nd rfl (Or.inr rfl) (@aB _ _ _ _ _ _ _ _ _ _ _ C__law_draw hr (by lia) rfl (@aa _ _ _ _ _ (pv 0) (@aa _ _ _ _ _ (@ax _ _ _ _ _ _ _ _ _ bc rfl B.ilen abl (@aa _ _ _ _ _ (pv 1) ad (by rfl)) (by decide) (by decide) (by rfl) (by rfl)) ad (by rfl)) (by rfl)) (by decide) (by rfl) (by rfl)) (by rfl) (by first|exact .inl rfl|exact .inr rfl|assumption)) (@ag _ _ _ _ _ (@aC _ _ (3) _ _ _ _ (cb).nd rfl (Or.inl rfl) (@aD _ _ _ _ (@aa _ _ _ _ _ fS (@aa _ _ _ _ _ dY (@aa _ _ _ _ _ dY (@aa _ _ _ _ _ ay (@aa _ _ _ _ _ (@aD _ _ _ _ (@aa _ _ _ _ _ af ad (by rfl))) (@aa _ _ _ _ _ (@bK _ _ _ _ _ (@aa _ _ _ _ _ af ad (by rfl))) (@aa _ _ _ _ _ gF (@aa _ _ _ _ _ ay (@aa _ _ _ _ _ (@bK _ _ _ _ _ (@aa _ _ _ _ _ ay (@aa _ _ _ _ _ af (@aa _ _ _ _ _ af ad (by rfl)) (by rfl)) (by rfl))) (@aa _ _ _ _ _ ay ad (by rfl)) (by rfl)) (by rfl)) (by rfl)) (by rfl)) (by rfl)) (by rfl)) (by rfl)) (by rfl)) (by rfl))) (by rfl) (by first|exact .inl rfl|exact .inr rfl|assumption)) (@ag _ _ _ _ _ (@aC _ _ (4) _ _ _ _ (cb).nd rfl (Or.inl rfl) (@aD _ _ _ _ (@aa _ _ _ _ _ fS (@aa _ _ _ _ _ af (@aa _ _ _ _ _ dY (@aa _ _ _ _ _ ay (@aa _ _ _ _ _ ay (@aa _ _ _ _ _ (@bK _ _ _ _ _ ad) (@aa _ _ _ _ _ (@aD _ _ _ _ ad) (@aa _ _ _ _ _ gF (@aa _ _ _ _ _ (@iN _ _ _ _ _ _ _ _ _ iy rfl B.ituple PyProof.Rows.boot_tuple (@aa _ _ _ _ _ (pv 1) ad (by rfl)) (by decide) (by decide) (by rfl) (by rfl)) (@aa _ _ _ _ _ (@aD _ _ _ _ (@aa _ _ _ _ _ (pv 1) ad (by rfl))) (@aa _ _ _ _ _ (@aq _ _ _ _ _ _ _ _ oZ (@aD _ _ _ _ (@aa _ _ _ _ _ af ad (by rfl))) af) (@aa _ _ _ _ _ (@qz _ _ _ _ _ (@oN _ _ _ _ _ _ _ _ _ af af qx) rfl rfl (by simp) (by decide)) ad (by rfl)) (by rfl)) (by rfl)) (by rfl)) (by rfl)) (by rfl)) (by rfl)) (by rfl)) (by rfl)) (by rfl)) (by rfl)) (by rfl))) (by rfl) (by first|exact .inl rfl|exact .inr rfl|assumption)) (@ag _ _ _ _ _ (@cz _ _ _ _ (@gG _ _ _ _ _ _ _ _ _ _ _ _ aa3 abm abn dq (pv 4) (@aa _ _ _ _ _ (@aq _ _ _ _ _ _ _ _ dl (pv 1) (@aq _ _ _ _ _ _ _ _ oZ (@aD _ _ _ _ (@aa _ _ _ _ _ af ad (by rfl))) (@aq _ _ _ _ _ _ _ _ cc af (@ax _ _ _ _ _ _ _ _ _ bc rfl B.ilen abl (@aa _ _ _ _ _ (pv 1) ad (by rfl)) (by decide) (by decide) (by rfl) (by rfl))))) ad (by rfl)) (by rfl) (by rfl) (by rfl) (by rfl) (by rfl)) (by rfl)) (@am _ _ _ (@az _ _ _ _ (@aq _ _ _ _ _ _ _ _ dl (pv 4) (@iM _ _ _ _ _ _ _ _ (["thing","row","at"]) ([none,some 1,some 2]) _ _ _ _ rfl (@cN _ _ _ _ (pv 3)) rfl ⟨rfl,⟨rfl,trivial⟩⟩ ⟨⟨rfl,Or.inl rfl,Or.inl rfl⟩,⟨⟨rfl,Or.inl rfl,Or.inl rfl⟩,trivial⟩⟩ (fun _ _ _ _=>⟨(@ao _ _ (0) _ (show aaX (["thing","row","at"]:List Str) by decide +kernel) rfl (Or.inl rfl) (.inr rfl)),bY,(@aq _ _ _ _ _ _ _ _ dl (@aq _ _ _ _ _ _ _ _ dl (@dX _ _ _ _ _ _ _ _ _ _ (@jR _ _ rfl) (pv 1) fA (@fz _ _ _ (pv 2))) (@aD _ _ _ _ (@aa _ _ _ _ _ (pv 0) ad (by rfl)))) (@dX _ _ _ _ _ _ _ _ _ _ (@jR _ _ rfl) (pv 1) (@fz _ _ _ (@aq _ _ _ _ _ _ _ _ cq (pv 2) af)) fA))⟩) (by rfl) (by rfl) (by rfl) (by rfl) (by intro _;rfl))))))))),?_⟩;have hl:(ns.map V.int).length=ns.length:=aan _;have t1:(1:Nat)≤sizeLine:=by decide
  refine ⟨_,rfl,_,rfl,r,_,rfl,.inl (SqL.of er),wl,((ns.map V.int).length:Nat),M,rfl,by lia,by rw [hl];lia,hw,by lia,fun at' H1 a1 b1 g1 hw1=>?_⟩;rw [hl] at b1;have er1:=g1 _ _ nrw er;have eT1:=g1 _ _ nTw eT;have K_H1:=Same.refl H1;refine ⟨t1,fun p1 n_p1=>?_⟩;have k_p1:=Same.new n_p1 (.lst [.int 1]);have e_p1:upd H1 p1 (.lst [.int 1]) p1=some (.lst [.int 1]):=ac;generalize upd H1 p1 (.lst [.int 1])=h_p1 at k_p1 e_p1 ⊢;have z_p1:p1≠T:=c_ eT1 K_H1 n_p1;have K_h_p1:=K_H1.trans k_p1;refine ⟨t1,fun p2 n_p2=>?_⟩;have k_p2:=Same.new n_p2 (.tup [.int 1]);have e_p2:upd h_p1 p2 (.tup [.int 1]) p2=some (.tup [.int 1]):=ac;generalize upd h_p1 p2 (.tup [.int 1])=h_p2 at k_p2 e_p2 ⊢;have z_p2:p2≠T:=c_ eT1 K_h_p1 n_p2;have K_h_p2:=K_h_p1.trans k_p2;refine fun p3 n_p3=>?_;have k_p3:=Same.new n_p3 (.dK []);have e_p3:upd h_p2 p3 (.dK []) p3=some (.dK []):=ac;generalize upd h_p2 p3 (.dK [])=h_p3 at k_p3 e_p3 ⊢;have z_p3:p3≠T:=c_ eT1 K_h_p2 n_p3;have K_h_p3:=K_h_p2.trans k_p3;refine ⟨(by show 3≤sizeLine;decide),fun p4 n_p4=>?_⟩;have k_p4:=Same.new n_p4 (.tup [.str "+",.int 1,.int 2]);have e_p4:upd h_p3 p4 (.tup [.str "+",.int 1,.int 2]) p4=some (.tup [.str "+",.int 1,.int 2]):=ac;generalize upd h_p3 p4 (.tup [.str "+",.int 1,.int 2])=h_p4 at k_p4 e_p4 ⊢;have z_p4:p4≠T:=c_ eT1 K_h_p3 n_p4;have K_h_p4:=K_h_p3.trans k_p4;refine ⟨(by show 10≤sizeLine;decide),fun p5 n_p5=>?_⟩;have k_p5:=Same.new n_p5 (.lst [.non,.bl true,.bl false,.str "1",.ref p1,.ref p2,.ref p3,.str "",.ref p4,.str "a"]);have e_p5:upd h_p4 p5 (.lst [.non,.bl true,.bl false,.str "1",.ref p1,.ref p2,.ref p3,.str "",.ref p4,.str "a"]) p5=some (.lst [.non,.bl true,.bl false,.str "1",.ref p1,.ref p2,.ref p3,.str "",.ref p4,.str "a"]):=ac;generalize upd h_p4 p5 (.lst [.non,.bl true,.bl false,.str "1",.ref p1,.ref p2,.ref p3,.str "",.ref p4,.str "a"])=h_p5 at k_p5 e_p5 ⊢;have z_p5:p5≠T:=c_ eT1 K_h_p4 n_p5;have K_h_p5:=K_h_p4.trans k_p5;refine ⟨(by show 0≤sizeLine;decide),fun q1 n_q1=>?_⟩;have k_q1:=Same.new n_q1 (.tup []);have e_q1:upd h_p5 q1 (.tup []) q1=some (.tup []):=ac;generalize upd h_p5 q1 (.tup [])=h_q1 at k_q1 e_q1 ⊢;have z_q1:q1≠T:=c_ eT1 K_h_p5 n_q1;have K_h_q1:=K_h_p5.trans k_q1;refine ⟨(by show 0≤sizeLine;decide),fun q2 n_q2=>?_⟩;have k_q2:=Same.new n_q2 (.lst []);have e_q2:upd h_q1 q2 (.lst []) q2=some (.lst []):=ac;generalize upd h_q1 q2 (.lst [])=h_q2 at k_q2 e_q2 ⊢;have z_q2:q2≠T:=c_ eT1 K_h_q1 n_q2;have K_h_q2:=K_h_q1.trans k_q2;refine fun q3 n_q3=>?_;have k_q3:=Same.new n_q3 (.dK []);have e_q3:upd h_q2 q3 (.dK []) q3=some (.dK []):=ac;generalize upd h_q2 q3 (.dK [])=h_q3 at k_q3 e_q3 ⊢;have z_q3:q3≠T:=c_ eT1 K_h_q2 n_q3;have K_h_q3:=K_h_q2.trans k_q3;refine ⟨_,rfl,r,_,rfl,.inl ⟨SqL.of (K_h_q3 _ _ er1),fun q4 n_q4=>?_⟩⟩;have k_q4:=Same.new n_q4 (.tup (ns.map V.int));have e_q4:upd h_q3 q4 (.tup (ns.map V.int)) q4=some (.tup (ns.map V.int)):=ac;generalize upd h_q3 q4 (.tup (ns.map V.int))=h_q4 at k_q4 e_q4 ⊢;have z_q4:q4≠T:=c_ eT1 K_h_q3 n_q4;have K_h_q4:=K_h_q3.trans k_q4;refine ⟨_,rfl,t1,fun q5 n_q5=>?_⟩;have k_q5:=Same.new n_q5 (.lst [.ref r]);have e_q5:upd h_q4 q5 (.lst [.ref r]) q5=some (.lst [.ref r]):=ac;generalize upd h_q4 q5 (.lst [.ref r])=h_q5 at k_q5 e_q5 ⊢;have z_q5:q5≠T:=c_ eT1 K_h_q4 n_q5;have K_h_q5:=K_h_q4.trans k_q5;refine ⟨t1,fun q6 n_q6=>?_⟩;have k_q6:=Same.new n_q6 (.lst [.int 1]);have e_q6:upd h_q5 q6 (.lst [.int 1]) q6=some (.lst [.int 1]):=ac;generalize upd h_q5 q6 (.lst [.int 1])=h_q6 at k_q6 e_q6 ⊢;have z_q6:q6≠T:=c_ eT1 K_h_q5 n_q6;have K_h_q6:=K_h_q5.trans k_q6;refine ⟨q6,10,_,rfl,rfl,e_q6,by decide,by decide,(by decide),fun q7 n_q7=>?_⟩;have k_q7:=Same.new n_q7 (.lst (aat (10:Int).toNat [V.int 1]).flatten);have e_q7:upd h_q6 q7 (.lst (aat (10:Int).toNat [V.int 1]).flatten) q7=some (.lst (aat (10:Int).toNat [V.int 1]).flatten):=ac;generalize upd h_q6 q7 (.lst (aat (10:Int).toNat [V.int 1]).flatten)=h_q7 at k_q7 e_q7 ⊢;have z_q7:q7≠T:=c_ eT1 K_h_q6 n_q7;have K_h_q7:=K_h_q6.trans k_q7;refine fun q8 n_q8=>⟨ac,[(.inl 1,.int 2)],rfl,(by show 1≤15;decide),?_⟩
  have em:fV [] [((.inl 1:Key),V.int 2)]=[(.inl 1,.int 2)]:=rfl;rw [em];have k_q8:Same h_q7 (upd (upd h_q7 q8 (.dK [])) q8 (.dK [(.inl 1,.int 2)])):=(Same.new n_q8 _).upd n_q8;have e_q8:upd (upd h_q7 q8 (.dK [])) q8 (.dK [(.inl 1,.int 2)]) q8=some (.dK [(.inl 1,.int 2)]):=ac;generalize upd (upd h_q7 q8 (.dK [])) q8 (.dK [(.inl 1,.int 2)])=h_q8 at k_q8 e_q8 ⊢;have z_q8:q8≠T:=c_ eT1 K_h_q7 n_q8;have K_h_q8:=K_h_q7.trans k_q8;refine ⟨(by show 12≤sizeLine;decide),fun q9 n_q9=>?_⟩;have k_q9:=Same.new n_q9 (.lst [.non,.int 0,.bl true,.str "",.str "1 2",.ref q1,.ref q2,.ref q3,.ref q4,.ref q5,.ref q7,.ref q8]);have e_q9:upd h_q8 q9 (.lst [.non,.int 0,.bl true,.str "",.str "1 2",.ref q1,.ref q2,.ref q3,.ref q4,.ref q5,.ref q7,.ref q8]) q9=some (.lst [.non,.int 0,.bl true,.str "",.str "1 2",.ref q1,.ref q2,.ref q3,.ref q4,.ref q5,.ref q7,.ref q8]):=ac;generalize upd h_q8 q9 (.lst [.non,.int 0,.bl true,.str "",.str "1 2",.ref q1,.ref q2,.ref q3,.ref q4,.ref q5,.ref q7,.ref q8])=h_q9 at k_q9 e_q9 ⊢;have z_q9:q9≠T:=c_ eT1 K_h_q8 n_q9;have K_h_q9:=K_h_q8.trans k_q9;refine ⟨_,rfl,.inl ⟨rfl,_,SqL.of e_q9⟩,_,rfl,t1,fun s1 n_s1=>?_⟩;have k_s1:=Same.new n_s1 (.lst [.int 1]);have e_s1:upd h_q9 s1 (.lst [.int 1]) s1=some (.lst [.int 1]):=ac;generalize upd h_q9 s1 (.lst [.int 1])=h_s1 at k_s1 e_s1 ⊢;have z_s1:s1≠T:=c_ eT1 K_h_q9 n_s1;have K_h_s1:=K_h_q9.trans k_s1;refine ⟨_,rfl,r,_,rfl,.inl (SqL.of (K_h_s1 _ _ er1)),_,_,rfl,rfl,s1,_,_,rfl,rfl,e_s1,by rw [hl];lia,by rw [hl];lia,cr (by simp only [aaB,aaV];lia),fun s2 n_s2=>?_⟩;rw [hl];have k_s2:=Same.new n_s2 (.lst (aat (10 - (ns.length:Int)).toNat [V.int 1]).flatten);have e_s2:upd h_s1 s2 (.lst (aat (10 - (ns.length:Int)).toNat [V.int 1]).flatten) s2=some (.lst (aat (10 - (ns.length:Int)).toNat [V.int 1]).flatten):=ac;generalize upd h_s1 s2 (.lst (aat (10 - (ns.length:Int)).toNat [V.int 1]).flatten)=h_s2 at k_s2 e_s2 ⊢;have z_s2:s2≠T:=c_ eT1 K_h_s1 n_s2;have K_h_s2:=K_h_s1.trans k_s2;refine ⟨r,s2,_,_,rfl,rfl,K_h_s2 _ _ er1,e_s2,cr (by rw [hl,mG];simp only [aaB,aaV];lia),fun s3 n_s3=>?_⟩;have k_s3:=Same.new n_s3 (.lst (ns.map V.int++(aat (10 - (ns.length:Int)).toNat [V.int 1]).flatten));have e_s3:upd h_s2 s3 (.lst (ns.map V.int++(aat (10 - (ns.length:Int)).toNat [V.int 1]).flatten)) s3=some (.lst (ns.map V.int++(aat (10 - (ns.length:Int)).toNat [V.int 1]).flatten)):=ac;generalize upd h_s2 s3 (.lst (ns.map V.int++(aat (10 - (ns.length:Int)).toNat [V.int 1]).flatten))=h_s3 at k_s3 e_s3 ⊢;have z_s3:s3≠T:=c_ eT1 K_h_s2 n_s3;have K_h_s3:=K_h_s2.trans k_s3;have e9:=k_s3 _ _ (k_s2 _ _ (k_s1 _ _ (e_q9)));refine ⟨q9,_,_,rfl,rfl,e9,(by show 12 < sizeLine;decide),?_⟩;have w_p1:p1≠q9:=ak (k_q8 _ _ (k_q7 _ _ (k_q6 _ _ (k_q5 _ _ (k_q4 _ _ (k_q3 _ _ (k_q2 _ _ (k_q1 _ _ (k_p5 _ _ (k_p4 _ _ (k_p3 _ _ (k_p2 _ _ (e_p1))))))))))))) n_q9;have f_p1:upd h_s3 q9 (.lst ([.non,.int 0,.bl true,.str "",.str "1 2",.ref q1,.ref q2,.ref q3,.ref q4,.ref q5,.ref q7,.ref q8]++[.ref s3])) p1=some (.lst [.int 1]):=by rw [aj w_p1];exact k_s3 _ _ (k_s2 _ _ (k_s1 _ _ (k_q9 _ _ (k_q8 _ _ (k_q7 _ _ (k_q6 _ _ (k_q5 _ _ (k_q4 _ _ (k_q3 _ _ (k_q2 _ _ (k_q1 _ _ (k_p5 _ _ (k_p4 _ _ (k_p3 _ _ (k_p2 _ _ (e_p1))))))))))))))))
  have w_p2:p2≠q9:=ak (k_q8 _ _ (k_q7 _ _ (k_q6 _ _ (k_q5 _ _ (k_q4 _ _ (k_q3 _ _ (k_q2 _ _ (k_q1 _ _ (k_p5 _ _ (k_p4 _ _ (k_p3 _ _ (e_p2)))))))))))) n_q9;have f_p2:upd h_s3 q9 (.lst ([.non,.int 0,.bl true,.str "",.str "1 2",.ref q1,.ref q2,.ref q3,.ref q4,.ref q5,.ref q7,.ref q8]++[.ref s3])) p2=some (.tup [.int 1]):=by rw [aj w_p2];exact k_s3 _ _ (k_s2 _ _ (k_s1 _ _ (k_q9 _ _ (k_q8 _ _ (k_q7 _ _ (k_q6 _ _ (k_q5 _ _ (k_q4 _ _ (k_q3 _ _ (k_q2 _ _ (k_q1 _ _ (k_p5 _ _ (k_p4 _ _ (k_p3 _ _ (e_p2)))))))))))))))
  have w_p3:p3≠q9:=ak (k_q8 _ _ (k_q7 _ _ (k_q6 _ _ (k_q5 _ _ (k_q4 _ _ (k_q3 _ _ (k_q2 _ _ (k_q1 _ _ (k_p5 _ _ (k_p4 _ _ (e_p3))))))))))) n_q9;have f_p3:upd h_s3 q9 (.lst ([.non,.int 0,.bl true,.str "",.str "1 2",.ref q1,.ref q2,.ref q3,.ref q4,.ref q5,.ref q7,.ref q8]++[.ref s3])) p3=some (.dK []):=by rw [aj w_p3];exact k_s3 _ _ (k_s2 _ _ (k_s1 _ _ (k_q9 _ _ (k_q8 _ _ (k_q7 _ _ (k_q6 _ _ (k_q5 _ _ (k_q4 _ _ (k_q3 _ _ (k_q2 _ _ (k_q1 _ _ (k_p5 _ _ (k_p4 _ _ (e_p3))))))))))))))
  have w_p4:p4≠q9:=ak (k_q8 _ _ (k_q7 _ _ (k_q6 _ _ (k_q5 _ _ (k_q4 _ _ (k_q3 _ _ (k_q2 _ _ (k_q1 _ _ (k_p5 _ _ (e_p4)))))))))) n_q9;have f_p4:upd h_s3 q9 (.lst ([.non,.int 0,.bl true,.str "",.str "1 2",.ref q1,.ref q2,.ref q3,.ref q4,.ref q5,.ref q7,.ref q8]++[.ref s3])) p4=some (.tup [.str "+",.int 1,.int 2]):=by rw [aj w_p4];exact k_s3 _ _ (k_s2 _ _ (k_s1 _ _ (k_q9 _ _ (k_q8 _ _ (k_q7 _ _ (k_q6 _ _ (k_q5 _ _ (k_q4 _ _ (k_q3 _ _ (k_q2 _ _ (k_q1 _ _ (k_p5 _ _ (e_p4)))))))))))))
  have w_q1:q1≠q9:=ak (k_q8 _ _ (k_q7 _ _ (k_q6 _ _ (k_q5 _ _ (k_q4 _ _ (k_q3 _ _ (k_q2 _ _ (e_q1)))))))) n_q9;have f_q1:upd h_s3 q9 (.lst ([.non,.int 0,.bl true,.str "",.str "1 2",.ref q1,.ref q2,.ref q3,.ref q4,.ref q5,.ref q7,.ref q8]++[.ref s3])) q1=some (.tup []):=by rw [aj w_q1];exact k_s3 _ _ (k_s2 _ _ (k_s1 _ _ (k_q9 _ _ (k_q8 _ _ (k_q7 _ _ (k_q6 _ _ (k_q5 _ _ (k_q4 _ _ (k_q3 _ _ (k_q2 _ _ (e_q1)))))))))))
  have w_q2:q2≠q9:=ak (k_q8 _ _ (k_q7 _ _ (k_q6 _ _ (k_q5 _ _ (k_q4 _ _ (k_q3 _ _ (e_q2))))))) n_q9;have f_q2:upd h_s3 q9 (.lst ([.non,.int 0,.bl true,.str "",.str "1 2",.ref q1,.ref q2,.ref q3,.ref q4,.ref q5,.ref q7,.ref q8]++[.ref s3])) q2=some (.lst []):=by rw [aj w_q2];exact k_s3 _ _ (k_s2 _ _ (k_s1 _ _ (k_q9 _ _ (k_q8 _ _ (k_q7 _ _ (k_q6 _ _ (k_q5 _ _ (k_q4 _ _ (k_q3 _ _ (e_q2))))))))))
  have w_q3:q3≠q9:=ak (k_q8 _ _ (k_q7 _ _ (k_q6 _ _ (k_q5 _ _ (k_q4 _ _ (e_q3)))))) n_q9;have f_q3:upd h_s3 q9 (.lst ([.non,.int 0,.bl true,.str "",.str "1 2",.ref q1,.ref q2,.ref q3,.ref q4,.ref q5,.ref q7,.ref q8]++[.ref s3])) q3=some (.dK []):=by rw [aj w_q3];exact k_s3 _ _ (k_s2 _ _ (k_s1 _ _ (k_q9 _ _ (k_q8 _ _ (k_q7 _ _ (k_q6 _ _ (k_q5 _ _ (k_q4 _ _ (e_q3)))))))))
  have w_q4:q4≠q9:=ak (k_q8 _ _ (k_q7 _ _ (k_q6 _ _ (k_q5 _ _ (e_q4))))) n_q9;have f_q4:upd h_s3 q9 (.lst ([.non,.int 0,.bl true,.str "",.str "1 2",.ref q1,.ref q2,.ref q3,.ref q4,.ref q5,.ref q7,.ref q8]++[.ref s3])) q4=some (.tup (ns.map V.int)):=by rw [aj w_q4];exact k_s3 _ _ (k_s2 _ _ (k_s1 _ _ (k_q9 _ _ (k_q8 _ _ (k_q7 _ _ (k_q6 _ _ (k_q5 _ _ (e_q4))))))))
  have w_q5:q5≠q9:=ak (k_q8 _ _ (k_q7 _ _ (k_q6 _ _ (e_q5)))) n_q9;have f_q5:upd h_s3 q9 (.lst ([.non,.int 0,.bl true,.str "",.str "1 2",.ref q1,.ref q2,.ref q3,.ref q4,.ref q5,.ref q7,.ref q8]++[.ref s3])) q5=some (.lst [.ref r]):=by rw [aj w_q5];exact k_s3 _ _ (k_s2 _ _ (k_s1 _ _ (k_q9 _ _ (k_q8 _ _ (k_q7 _ _ (k_q6 _ _ (e_q5)))))))
  have w_q7:q7≠q9:=ak (k_q8 _ _ (e_q7)) n_q9;have f_q7:upd h_s3 q9 (.lst ([.non,.int 0,.bl true,.str "",.str "1 2",.ref q1,.ref q2,.ref q3,.ref q4,.ref q5,.ref q7,.ref q8]++[.ref s3])) q7=some (.lst (aat (10:Int).toNat [V.int 1]).flatten):=by rw [aj w_q7];exact k_s3 _ _ (k_s2 _ _ (k_s1 _ _ (k_q9 _ _ (k_q8 _ _ (e_q7)))))
  have w_q8:q8≠q9:=ak (e_q8) n_q9;have f_q8:upd h_s3 q9 (.lst ([.non,.int 0,.bl true,.str "",.str "1 2",.ref q1,.ref q2,.ref q3,.ref q4,.ref q5,.ref q7,.ref q8]++[.ref s3])) q8=some (.dK [(.inl 1,.int 2)]):=by rw [aj w_q8];exact k_s3 _ _ (k_s2 _ _ (k_s1 _ _ (k_q9 _ _ (e_q8))))
  have w_s3:s3≠q9:=abt (ak (k_s2 _ _ (k_s1 _ _ (e_q9))) n_s3);have f_s3:upd h_s3 q9 (.lst ([.non,.int 0,.bl true,.str "",.str "1 2",.ref q1,.ref q2,.ref q3,.ref q4,.ref q5,.ref q7,.ref q8]++[.ref s3])) s3=some (.lst (ns.map V.int++(aat (10 - (ns.length:Int)).toNat [V.int 1]).flatten)):=by rw [aj w_s3];exact e_s3
  have w_p5:p5≠q9:=ak (k_q8 _ _ (k_q7 _ _ (k_q6 _ _ (k_q5 _ _ (k_q4 _ _ (k_q3 _ _ (k_q2 _ _ (k_q1 _ _ (e_p5))))))))) n_q9;have f_p5:upd h_s3 q9 (.lst ([.non,.int 0,.bl true,.str "",.str "1 2",.ref q1,.ref q2,.ref q3,.ref q4,.ref q5,.ref q7,.ref q8]++[.ref s3])) p5=some (.lst [.non,.bl true,.bl false,.str "1",.ref p1,.ref p2,.ref p3,.str "",.ref p4,.str "a"]):=by rw [aj w_p5];exact k_s3 _ _ (k_s2 _ _ (k_s1 _ _ (k_q9 _ _ (k_q8 _ _ (k_q7 _ _ (k_q6 _ _ (k_q5 _ _ (k_q4 _ _ (k_q3 _ _ (k_q2 _ _ (k_q1 _ _ (e_p5))))))))))))
  have wr:r≠q9:=ak (K_h_q8 _ _ er1) n_q9;have fr:upd h_s3 q9 (.lst ([.non,.int 0,.bl true,.str "",.str "1 2",.ref q1,.ref q2,.ref q3,.ref q4,.ref q5,.ref q7,.ref q8]++[.ref s3])) r=some (.lst (ns.map V.int)):=by rw [aj wr];exact K_h_s3 _ _ er1
  have f9:upd h_s3 q9 (.lst ([.non,.int 0,.bl true,.str "",.str "1 2",.ref q1,.ref q2,.ref q3,.ref q4,.ref q5,.ref q7,.ref q8]++[.ref s3])) q9=some (.lst ([.non,.int 0,.bl true,.str "",.str "1 2",.ref q1,.ref q2,.ref q3,.ref q4,.ref q5,.ref q7,.ref q8]++[.ref s3])):=ac;have nq9:H1 q9=none:=K_h_q8.free n_q9;have S1:Same H1 (upd h_s3 q9 (.lst ([.non,.int 0,.bl true,.str "",.str "1 2",.ref q1,.ref q2,.ref q3,.ref q4,.ref q5,.ref q7,.ref q8]++[.ref s3]))):=K_h_s3.upd nq9;generalize upd h_s3 q9 (.lst ([.non,.int 0,.bl true,.str "",.str "1 2",.ref q1,.ref q2,.ref q3,.ref q4,.ref q5,.ref q7,.ref q8]++[.ref s3]))=G at f_p1 f_p2 f_p3 f_p4 f_q1 f_q2 f_q3 f_q4 f_q5 f_q7 f_q8 f_s3 f_p5 fr f9 S1 ⊢;clear k_p1 e_p1 K_h_p1 k_p2 e_p2 K_h_p2 k_p3 e_p3 K_h_p3 k_p4 e_p4 K_h_p4 k_p5 e_p5 K_h_p5 k_q1 e_q1 K_h_q1 k_q2 e_q2 K_h_q2 k_q3 e_q3 K_h_q3 k_q4 e_q4 K_h_q4 k_q5 e_q5 K_h_q5 k_q6 e_q6 K_h_q6 k_q7 e_q7 K_h_q7 k_q8 e_q8 K_h_q8 k_q9 e_q9 K_h_q9 k_s1 e_s1 K_h_s1 k_s2 e_s2 K_h_s2 k_s3 e_s3 K_h_s3 e9;have f_p1:=(bG z_p1).trans f_p1;have f_p2:=(bG z_p2).trans f_p2;have f_p3:=(bG z_p3).trans f_p3;have f_p4:=(bG z_p4).trans f_p4;have f_q1:=(bG z_q1).trans f_q1;have f_q2:=(bG z_q2).trans f_q2;have f_q3:=(bG z_q3).trans f_q3;have f_q4:=(bG z_q4).trans f_q4;have f_q5:=(bG z_q5).trans f_q5;have f_q7:=(bG z_q7).trans f_q7;have f_q8:=(bG z_q8).trans f_q8;have f_s3:=(bG z_s3).trans f_s3;have fr':=(bG (w:=T) nrT).trans fr;have l9:∀ a b,(dH (ns.map V.int) a b).length≤9:=fun a b=>by
    have:=List.length_take_le' (HT.sIx (ns.map V.int).length (ns.map V.int).length b - HT.sIx (ns.map V.int).length 0 a) ((ns.map V.int).drop (HT.sIx (ns.map V.int).length 0 a));unfold dH;rw [aby] at this;lia
  obtain ⟨j,rfl⟩:=Int.eq_ofNat_of_zero_le a1;have hj:j < ns.length:=by lia
  have gs:∀ x∈([.non,.bl true,.bl false,.str "1",.ref p1,.ref p2,.ref p3,.str "",.ref p4,.str "a"]:List V),GsB (off T G) x:=fun x hm=>by
    simp only [aaj,aa6,or_false] at hm;rcases hm with rfl|rfl|rfl|rfl|rfl|rfl|rfl|rfl|rfl|rfl
    · exact ⟨.none,by simp only [Dat],by simp only [OkD],by simp [szD],by simp [aaF],rfl⟩
    · exact ⟨.bool true,by simp only [Dat],by simp only [OkD],by simp [szD],by simp [aaF],rfl⟩
    · exact ⟨.bool false,by simp only [Dat],by simp only [OkD],by simp [szD],by simp [aaF],rfl⟩
    · exact ⟨.str "1",by simp only [Dat],by simp only [OkD];decide +kernel,by simp [szD],by simp [aaF],rfl⟩
    · exact ⟨.list [.int 1],by simp only [Dat];exact ⟨p1,_,rfl,f_p1,rz 1⟩,by simp only [OkD,OkAll];decide,by simp [szD,szAll],by simp [aaF,aaG],rfl⟩
    · exact ⟨.tuple [.int 1],by simp only [Dat];exact ⟨p2,_,rfl,f_p2,rz 1⟩,by simp only [OkD,OkAll];decide,by simp [szD,szAll],by simp [aaF,aaG],rfl⟩
    · exact ⟨.dict [],by simp only [Dat,DatKv];exact ⟨p3,_,rfl,f_p3,rfl⟩,by simp only [OkD],by simp [szD],by simp [aaF,PyData.depthKv],rfl⟩
    · exact ⟨.str "",by simp only [Dat],by simp only [OkD];decide +kernel,by simp [szD],by simp [aaF],rfl⟩
    · exact ⟨.tuple [.str "+",.int 1,.int 2],by simp only [Dat,DatAll];exact ⟨p4,_,rfl,f_p4,_,_,rfl,rfl,_,_,rfl,rfl,_,_,rfl,rfl,rfl⟩,by simp only [OkD,OkAll];decide +kernel,by simp [szD,szAll],by simp [aaF,aaG],rfl⟩
    · exact ⟨.str "a",by simp only [Dat],by simp only [OkD];decide +kernel,by simp [szD],by simp [aaF],rfl⟩
  have some13:∀ x∈([.non,.int 0,.bl true,.str "",.str "1 2",.ref q1,.ref q2,.ref q3,.ref q4,.ref q5,.ref q7,.ref q8]++[.ref s3]:List V),Gq oY (off T G) x:=fun x hm=>by
    simp only [abx,List.nil_append,aaj,aa6,or_false] at hm;rcases hm with rfl|rfl|rfl|rfl|rfl|rfl|rfl|rfl|rfl|rfl|rfl|rfl|rfl
    · exact pF rfl
    · exact pG _ (by decide) rfl
    · exact rj _ rfl
    · exact cu _ (by decide +kernel) rfl
    · exact cu _ (by decide +kernel) rfl
    · exact l6 f_q1 pZ (by simp only [OkAll]) (by simp [szAll]) (by simp [aaG]) rfl
    · exact dG f_q2 pZ (by simp only [OkAll]) (by simp [szAll]) (by simp [aaG]) rfl
    · exact mK f_q3 rfl
    · exact l6 f_q4 (bq ns) (bw sm) (by rw [bQ];lia) (by rw [bT];lia) rfl
    · exact dG (ds:=[.list (ns.map PyData.int)]) f_q5 (by simp only [DatAll,Dat];exact ⟨_,_,rfl,⟨r,_,rfl,fr',bq ns⟩,rfl⟩) (by simp only [OkAll,OkD];exact ⟨bw sm,trivial⟩) (by simp only [szAll,szD,bQ];lia) (by simp only [aaG,aaF,bT];lia) rfl
    · exact dG (ds:=(aat 10 (1:Int)).map PyData.int) f_q7 (bq (aat 10 1)) (bw (fun i hi=>by have:=List.eq_of_mem_replicate hi;lia)) (by decide) (by decide) rfl
    · exact ⟨.dict [(.int 1,.int 2)],by simp only [Dat,DatKv];exact ⟨q8,_,rfl,f_q8,_,_,_,rfl,rfl,rfl,rfl⟩,tJ,rfl⟩
    · have el:ns.map V.int++(aat (10 - (ns.length:Int)).toNat [V.int 1]).flatten=(ns++aat (10 - (ns.length:Int)).toNat 1).map V.int:=by
        rw [aaS,List.map_replicate];congr 1;generalize (10 - (ns.length:Int)).toNat=k
        induction k with
        | zero=>rfl
        | succ k ih=>rw [abi,abi,abN,ih];rfl
      rw [el] at f_s3;have lz:(ns++aat (10 - (ns.length:Int)).toNat (1:Int)).length=10:=by rw [aao,List.length_replicate];lia
      have sm':Small (ns++aat (10 - (ns.length:Int)).toNat (1:Int)):=fun i hi=>by
        rcases aap.mp hi with z|z
        · exact sm i z
        · have:=List.eq_of_mem_replicate z;lia
      exact dG f_s3 (bq _) (bw sm') (by rw [bQ,lz];decide) (by rw [bT];lia) (qM (by rw [aan,lz]))
  refine ⟨_,rfl,_,rfl,p5,rfl,⟨_,SqL.of f_p5⟩,kB (Trn.list (xs:=[.non,.bl true,.bl false,.str "1",.ref p1,.ref p2,.ref p3,.str "",.ref p4,.str "a"])) (fun i ys H'=>Same G H'∧ys.length=i∧∀ y∈ys,Gq oY (off T H') y) ⟨Same.refl _,rfl,fun _ z=>nomatch z⟩ (fun i ys H' hi z=>⟨SqL.of (z.1 _ _ f_p5),aU (by rw [z.2.1];have : i≤10:=hi;lia)⟩) (fun i x ys H0' H' hi hx z Nx nx=>?_) (fun ys H2 z pL nL=>?_)⟩
  · obtain ⟨rfl,hx⟩:=hx;obtain ⟨S,ly,gy⟩:=z;obtain ⟨d0,d1,d2,d3,d4,d5⟩:=gs x (aaI hx);have erS:=S _ _ fr;refine ⟨_,rfl,_,rfl,j,rfl,r,_,rfl,SqL.of erS,fun c1 m1=>⟨_,rfl,t1,fun c2 m2=>⟨c1,c2,_,_,rfl,rfl,(Same.new m2 _) _ _ ac,ac,cr (by have:=l9 none (some (j:Int));simp only [aaB,aaV];lia),fun c3 m3=>?_⟩⟩⟩;have k1:=Same.new m1 (.lst (dH (ns.map V.int) none (some (j:Int))));have k2:=Same.new m2 (.lst [x]);have k3:=Same.new m3 (.lst (dH (ns.map V.int) none (some (j:Int))++[x]));have K3:=(k1.trans k2).trans k3;refine ⟨_,rfl,_,rfl,_,_,rfl,rfl,(j:Int)+1,rfl,r,_,rfl,SqL.of (K3 _ _ erS),fun c4 m4=>⟨c3,c4,_,_,rfl,rfl,(Same.new m4 _) _ _ ac,ac,cr (by have:=l9 none (some (j:Int));have:=l9 (some ((j:Int)+1)) none;simp only [aao,aaB,aaV];lia),fun c5 m5=>?_⟩⟩;have k4:=Same.new m4 (.lst (dH (ns.map V.int) (some ((j:Int)+1)) none));have k5:=Same.new m5 (.lst (dH (ns.map V.int) none (some (j:Int))++[x]++dH (ns.map V.int) (some ((j:Int)+1)) none));have K5:=(K3.trans k4).trans k5;have z5:c5≠T:=c_ eT1 (S1.trans (S.trans (K3.trans k4))) m5;have f5:=(bG (w:=T) z5).trans (sx m5 (.lst (dH (ns.map V.int) none (some (j:Int))++[x]++dH (ns.map V.int) (some ((j:Int)+1)) none)));rw [eD _ j (by rw [hl];lia),show (j:Int)+1=((j+1:Nat):Int) from rfl,eE _ (j+1) (by rw [hl];lia),← acg,← acf] at f5;refine nx _ _ ⟨S.trans K5,by rw [aao,ly];rfl,fun y hy=>?_⟩;rcases aap.mp hy with hy|hy
    · exact (gy y hy).mono (gK K5)
    · rw [aak.mp hy];have h1':=Dat.mono (gK (T:=T) (S.trans K5)) d0 x d1;rw [eD _ j (by rw [hl];lia),show (j:Int)+1=((j+1:Nat):Int) from rfl,eE _ (j+1) (by rw [hl];lia),← acg,← acf] at h1';rw [eD _ j (by rw [hl];lia),show (j:Int)+1=((j+1:Nat):Int) from rfl,eE _ (j+1) (by rw [hl];lia),← acg,← acf];refine dG (ds:=(ns.take j).map PyData.int++[d0]++(ns.drop (j+1)).map PyData.int) f5 (((bq _).app (by simp only [DatAll];exact ⟨_,_,rfl,h1',rfl⟩)).app (bq _)) (lT (lT (bw (sm.take j)) (by simp only [OkAll];exact ⟨d2,trivial⟩)) (bw (sm.drop (j+1)))) ?_ ?_ (qp d5)
      · rw [lu,lu,bQ,bQ,aaE,aby];simp only [szAll];lia
      · rw [l8,l8,bT,bT];simp only [aaG];lia
  · obtain ⟨S,ly,gy⟩:=z;have kL:=Same.new nL (.lst ys);have SL:=S.trans kL;have ly10:ys.length=10:=ly;refine ⟨q9,pL,_,_,rfl,rfl,kL _ _ (S _ _ f9),ac,cr (by rw [ly10];show 13+10≤1000;decide),fun pR nR=>?_⟩;have kR:=Same.new nR (.lst (([.non,.int 0,.bl true,.str "",.str "1 2",.ref q1,.ref q2,.ref q3,.ref q4,.ref q5,.ref q7,.ref q8]++[.ref s3])++ys));refine q pR _ _ (g1.trans (But.of ((S1.trans SL).trans kR))) (But.free g1 hw1 ((S1.trans SL).free nR)) ac (by rw [aao,ly10];show 13+10≤100;decide) (fun x hx=>?_);rcases aap.mp hx with hx|hx
    · exact (some13 x hx).mono (gK (SL.trans kR))
    · exact (gy x hx).mono (gK (kL.trans kR))
end
open PySem L2
theorem p8 (ns:List Int) (lo hi:Option Int):∃ ms:List Int,dH (ns.map V.int) lo hi=ms.map V.int∧ms.length≤ns.length:=by
  refine ⟨(ns.drop (HT.sIx ns.length 0 lo)).take (HT.sIx ns.length ns.length hi - HT.sIx ns.length 0 lo),?_,?_⟩
  · unfold dH;rw [aan,acg,acf]
  · rw [aaE,aby];lia
theorem h_ (n:Nat):(abd n).all (fun _=>true)=true:=by simp
theorem LT.of_new {T p:Addr} {H:Hp} (h:LT T H) (n:H p=none):p≠T:=fun z=>by
  obtain ⟨tp,h⟩:=h;have e:=h.tab;rw [← z,n] at e;cases e
theorem LT.well {T wl:Addr} {M:Int} {H H':Hp} (h:LT T H) (w:Wel H wl M) (b:But wl H H'):LT T H':=by
  obtain ⟨x,y,e,_⟩:=w;obtain ⟨tp,h⟩:=h;refine ⟨tp,b _ _ (fun q=>by have z:=h.tab;rw [q,e] at z;cases z) h.tab,h.tri,fun pos' cv hc=>?_⟩;obtain ⟨d,e1,e2⟩:=h.cds pos' cv hc;exact ⟨d,e1,b _ _ (fun q=>by rw [q,e] at e2;cases e2) e2⟩
theorem l7 {K:aab} {H:Hp}:∀ (j:Nat) x y,([]:List V)[j]?=some x→([]:List V)[j]?=some y→EqR K H 0 x y true:=fun j x y hx _=>by simp at hx
theorem gf:∀ {a b:List Int},a.map V.int=b.map V.int→a=b
  | [],[],_=>rfl
  | [],_ :: _,h=>by simp at h
  | _ :: _,[],h=>by simp at h
  | x :: a,y :: b,h=>by
    simp only [aaH,List.cons.injEq,V.int.injEq] at h;rw [h.1,gf h.2]
theorem lA:∀ gs:List Sg,gs.length≤3→cw gs→gs=[.plus]∨gs=[.minus]∨gs=[.times]∨gs=[.plus,.minus]∨gs=[.plus,.times]∨gs=[.minus,.times]∨gs=[.plus,.minus,.times]
  | [],_,h=>absurd h (by unfold cw;decide +kernel)
  | [a],_,_=>by cases a <;> simp
  | [a,b],_,h=>by
    cases a <;> cases b <;> first|decide|exact absurd h (by unfold cw;decide +kernel)
  | [a,b,c],_,h=>by
    cases a <;> cases b <;> cases c <;> first|decide|exact absurd h (by unfold cw;decide +kernel)
  | _ :: _ :: _ :: _ :: _,h,_=>by simp at h
theorem oM {gs:List Sg} (g3:gs.length≤3) (sp:cw gs):PrD (.str (aw gs)):=by
  refine iJ ?_ (by simp [szD]) (by simp [aaF]);simp only [OkD];rcases lA gs g3 sp with rfl|rfl|rfl|rfl|rfl|rfl|rfl <;> decide +kernel
theorem rZ {ns:List Int} (sm:Small ns) (h:ns.length≤9):PrD (.list (ns.map PyData.int)):=iJ (by simp only [OkD];exact bw sm) (by simp only [szD,bQ];lia) (by simp only [aaF,bT];lia)
theorem rg {b:Bool} (h:(!b)=true):b=false:=by cases b <;> simp_all
theorem rT {gs:List Sg} (h:cw gs):bX (.str (aw gs))=true:=h
theorem qo {ns:List Int} (h1:1≤ns.length) (h9:ns.length≤9):bh (.list (ns.map PyData.int))=true:=by
  show (decide (1≤(ns.map PyData.int).length) && decide ((ns.map PyData.int).length≤9) && (ns.map PyData.int).all bS)=true;have : (ns.map PyData.int).all bS=true:=by
    rw [List.all_map,aaD];exact fun _ _=>rfl
  rw [this,aan,decide_eq_true h1,decide_eq_true h9];rfl
section
variable {P:Program} {w:World} {K:aab} {mg:Str→Option Value} {base:Heap} {f:Addr} {fd:FuncData}
def mw (K:aab) (T:Addr):Sp:=fun vs H Q _=>∃ (a:Addr) (ns:List Int),vs=[.ref a]∧SqL K H a (ns.map V.int)∧ns.length≤63∧LT T H∧∀ H',Q (.bl true) H'
abbrev fu:Stmt:=top 50
theorem dO:FnScope ["script","cell","well","row","signs","thing","other"] ["script"] (ai fu):=⟨rfl,rfl,rfl,by decide +kernel,rfl,by decide +kernel,by decide +kernel⟩
theorem sw {T:Addr} (F:Fun K "law" "law" fu f fd) (B:Bu K mg) (C__law_well:Cal P w K mg base "_law_well" 1 ["cell"] lC) (C__law_draw:Cal P w K mg base "_law_draw" 2 ["well","many"] fM) (C__law_row:Cal P w K mg base "_law_row" 3 ["well","many"] ou) (C__law_signs:Cal P w K mg base "_law_signs" 3 ["well"] eZ)
    (C__law_no_rows:Cal P w K mg base "_law_no_rows" 3 ["well","row"] (lI T)) (C__law_no_signs:Cal P w K mg base "_law_no_signs" 1 [] (lH T)) (C__law_said:Cal P w K mg base "_law_said" 14 ["way","row","signs"] (lF T)):FnOk P w K mg base CX0 15 f fd ["script"] (mw K T):=by
  refine F.ok dO (fun vs H Q E h=>?_) (fun cdv A outer s H vs Q E hr h=>?_)
  · obtain ⟨a,ns,rfl,_⟩:=h;rfl
  obtain ⟨a,ns,rfl,hS,h63,hT,q⟩:=h;refine ⟨_,(@ag _ _ _ _ _ (@dA _ _ _ _ _ _ _ _ abb rfl (@cN _ _ _ _ (@aq _ _ _ _ _ _ _ _ dl (@aD _ _ _ _ (@aa _ _ _ _ _ af (@aa _ _ _ _ _ af ad (by rfl)) (by rfl))) (@dX _ _ _ _ _ _ _ _ _ _ gq (pv 0) fA (@fz _ _ _ af)))) (@ao _ _ (1) _ (dO).nd rfl (Or.inl rfl) (.inl rfl)) (@ag _ _ _ _ _ (@aC _ _ (2) _ _ _ _ (dO).nd rfl (Or.inl rfl) (@aB _ _ _ _ _ _ _ _ _ _ _ C__law_well hr (by lia) rfl (@aa _ _ _ _ _ (pv 1) ad (by rfl)) (by decide) (by rfl) (by rfl)) (by rfl) (by first|exact .inl rfl|exact .inr rfl|assumption)) (@ag _ _ _ _ _ (@aC _ _ (3) _ _ _ _ (dO).nd rfl (Or.inr rfl) (@aB _ _ _ _ _ _ _ _ _ _ _ C__law_row hr (by lia) rfl (@aa _ _ _ _ _ (pv 2) (@aa _ _ _ _ _ (@aq _ _ _ _ _ _ _ _ cq af (@aB _ _ _ _ _ _ _ _ _ _ _ C__law_draw hr (by lia) rfl (@aa _ _ _ _ _ (pv 2) (@aa _ _ _ _ _ af ad (by rfl)) (by rfl)) (by decide) (by rfl) (by rfl))) ad (by rfl)) (by rfl)) (by decide) (by rfl) (by rfl)) (by rfl) (by first|exact .inl rfl|exact .inr rfl|assumption)) (@ag _ _ _ _ _ (@aC _ _ (4) _ _ _ _ (dO).nd rfl (Or.inr rfl) (@aB _ _ _ _ _ _ _ _ _ _ _ C__law_signs hr (by lia) rfl (@aa _ _ _ _ _ (pv 2) ad (by rfl)) (by decide) (by rfl) (by rfl)) (by rfl) (by first|exact .inl rfl|exact .inr rfl|assumption)) (@ag _ _ _ _ _ (@dA _ _ _ _ _ _ _ _ abb rfl (@cN _ _ _ _ (@aB _ _ _ _ _ _ _ _ _ _ _ C__law_no_rows hr (by lia) rfl (@aa _ _ _ _ _ (pv 2) (@aa _ _ _ _ _ (pv 3) ad (by rfl)) (by rfl)) (by decide) (by rfl) (by rfl))) (@ao _ _ (5) _ (dO).nd rfl (Or.inr rfl) (.inl rfl)) (@am _ _ _ (@dA _ _ _ _ _ _ _ _ abb rfl (@cN _ _ _ _ (@aD _ _ _ _ (@aa _ _ _ _ _ (pv 4) (@aa _ _ _ _ _ fS (@aa _ _ _ _ _ ay (@aa _ _ _ _ _ ay ad (by rfl)) (by rfl)) (by rfl)) (by rfl)))) (@ao _ _ (6) _ (dO).nd rfl (Or.inr rfl) (.inl rfl)) (@am _ _ _ (@cA _ _ _ _ _ _ _ _ (@aX _ _ _ _ _ _ _ _ (@lQ _ hr.units) (@iM _ _ _ _ _ _ _ _ (["way","thing","other"]) ([none,some 5,some 6]) _ _ _ _ rfl (@cO _ _ _ _ _ _ rfl B.irange (@aa _ _ _ _ _ af ad (by rfl)) (by rfl)) rfl ⟨rfl,⟨rfl,trivial⟩⟩ ⟨⟨rfl,Or.inl rfl,Or.inl rfl⟩,⟨⟨rfl,Or.inl rfl,Or.inl rfl⟩,trivial⟩⟩ (fun _ _ _ _=>⟨(@ao _ _ (0) _ (show aaX (["way","thing","other"]:List Str) by decide +kernel) rfl (Or.inl rfl) (.inr rfl)),(@gD _ _ _ (@aX _ _ _ _ _ _ _ _ kc (@aB _ _ _ _ _ _ _ _ _ _ _ C__law_said hr (by lia) rfl (@aa _ _ _ _ _ (pv 0) (@aa _ _ _ _ _ (pv 1) (@aa _ _ _ _ _ (pv 2) ad (by rfl)) (by rfl)) (by rfl)) (by decide) (by rfl) (by rfl)) ay (bt _))),(pv 0)⟩) (by rfl) (by rfl) (by rfl) (by rfl) (by intro _;rfl)) (@aD _ _ _ _ ad) (bt _)) (@am _ _ _ (@az _ _ _ _ dY)) bo)) (by intro _;rfl))) (by intro _;rfl)) (@ag _ _ _ _ _ (@dA _ _ _ _ _ _ _ _ abb rfl (@cN _ _ _ _ (qB C__law_no_signs hr (by lia) rfl)) (@ao _ _ (5) _ (dO).nd rfl (Or.inr rfl) (.inl rfl)) (@am _ _ _ (@cA _ _ _ _ _ _ _ _ (@aX _ _ _ _ _ _ _ _ (@lQ _ hr.units) (@iM _ _ _ _ _ _ _ _ (["way","row","thing"]) ([none,some 3,some 5]) _ _ _ _ rfl (@cO _ _ _ _ _ _ rfl B.irange (@aa _ _ _ _ _ af ad (by rfl)) (by rfl)) rfl ⟨rfl,⟨rfl,trivial⟩⟩ ⟨⟨rfl,Or.inl rfl,Or.inl rfl⟩,⟨⟨rfl,Or.inl rfl,Or.inl rfl⟩,trivial⟩⟩ (fun _ _ _ _=>⟨(@ao _ _ (0) _ (show aaX (["way","row","thing"]:List Str) by decide +kernel) rfl (Or.inl rfl) (.inr rfl)),(@gD _ _ _ (@aX _ _ _ _ _ _ _ _ kc (@aB _ _ _ _ _ _ _ _ _ _ _ C__law_said hr (by lia) rfl (@aa _ _ _ _ _ (pv 0) (@aa _ _ _ _ _ (pv 1) (@aa _ _ _ _ _ (pv 2) ad (by rfl)) (by rfl)) (by rfl)) (by decide) (by rfl) (by rfl)) ay (bt _))),(pv 0)⟩) (by rfl) (by rfl) (by rfl) (by rfl) (by intro _;rfl)) (@aD _ _ _ _ ad) (bt _)) (@am _ _ _ (@az _ _ _ _ dY)) bo)) (by intro _;rfl)) (@am _ _ _ (@cA _ _ _ _ _ _ _ _ (@aX _ _ _ _ _ _ _ _ (@lQ _ hr.units) (@iM _ _ _ _ _ _ _ _ (["way","row","signs"]) ([none,some 3,some 4]) _ _ _ _ rfl (@cO _ _ _ _ _ _ rfl B.irange (@aa _ _ _ _ _ af ad (by rfl)) (by rfl)) rfl ⟨rfl,⟨rfl,trivial⟩⟩ ⟨⟨rfl,Or.inl rfl,Or.inl rfl⟩,⟨⟨rfl,Or.inl rfl,Or.inl rfl⟩,trivial⟩⟩ (fun _ _ _ _=>⟨(@ao _ _ (0) _ (show aaX (["way","row","signs"]:List Str) by decide +kernel) rfl (Or.inl rfl) (.inr rfl)),(@gD _ _ _ (@aX _ _ _ _ _ _ _ _ kc (@aB _ _ _ _ _ _ _ _ _ _ _ C__law_said hr (by lia) rfl (@aa _ _ _ _ _ (pv 0) (@aa _ _ _ _ _ (pv 1) (@aa _ _ _ _ _ (pv 2) ad (by rfl)) (by rfl)) (by rfl)) (by decide) (by rfl) (by rfl)) ay (bt _))),(pv 0)⟩) (by rfl) (by rfl) (by rfl) (by rfl) (by intro _;rfl)) (@aD _ _ _ _ ad) (bt _)) (@am _ _ _ (@az _ _ _ _ dY)) bo))))))) (by intro _;rfl)) (@am _ _ _ (@az _ _ _ _ dY))),?_⟩;have t1:(1:Nat)≤sizeLine:=by decide
  have t2:(2:Nat)≤sizeLine:=by decide
  refine ⟨t2,fun p1 n1=>?_⟩;have g1:=Same.new n1 (.lst [.int 0,.int 5]);refine ⟨_,rfl,6,rfl,a,_,rfl,g1.seq hS,fun p2 n2=>?_⟩;obtain ⟨ms,em,hm⟩:=p8 ns none (some 6);rw [em];have g2:=Same.new n2 (.lst (ms.map V.int));refine ⟨p1,p2,_,_,rfl,rfl,g2 _ _ ac,ac,cr (by rw [aan];show 2+ms.length≤1000;lia),fun p3 n3=>?_⟩;have e3:upd (upd (upd H p1 (.lst [.int 0,.int 5])) p2 (.lst (ms.map V.int))) p3 (.lst ([.int 0,.int 5]++ms.map V.int)) p3=_:=ac;have hT3:LT T (upd (upd (upd H p1 (.lst [.int 0,.int 5])) p2 (.lst (ms.map V.int))) p3 (.lst ([.int 0,.int 5]++ms.map V.int))):=hT.mono ((g1.trans g2).trans (Same.new n3 _));have el:[V.int 0,V.int 5]++ms.map V.int=(0 :: 5 :: ms).map V.int:=rfl;rw [el] at e3 hT3 ⊢;revert e3 hT3;generalize upd (upd (upd H p1 (.lst [.int 0,.int 5])) p2 (.lst (ms.map V.int))) p3 (.lst ((0 :: 5 :: ms).map V.int))=H3;intro e3 hT3;have np3:p3≠T:=hT3.ne e3 (fun _ z=>nomatch z);refine ⟨p3,rfl,⟨_,SqL.of e3⟩,jC (Trn.list (xs:=(0 :: 5 :: ms).map V.int)) (fun i σ H'=>∃ c1 c2 c3 c4 c5 c6,σ=[some (.ref a),c1,c2,c3,c4,c5,c6]∧But T H3 H'∧LT T H') ⟨_,_,_,_,_,_,rfl,But.refl,hT3⟩ (fun i σ H' hi z=>?_) (fun i x σ H4' H4 hi it z=>?_) (fun σ H' z=>?_)⟩
  · obtain ⟨_,_,_,_,_,_,rfl,S,_⟩:=z;exact SqL.of (S _ _ np3 e3)
  · obtain ⟨c1,c2,c3,c4,c5,c6,rfl,S4,hT4⟩:=z;obtain ⟨rfl,hx⟩:=it;rw [aaY] at hx;obtain ⟨c,_,rfl⟩:=ab5.mp hx;refine ⟨_,rfl,c,rfl,fun wl H5 g5 nw ew=>?_⟩;have hT5:=hT4.mono g5;have nwT:T≠wl:=fun z=>by obtain ⟨tp,h⟩:=hT4;rw [← z,h.tab] at nw;cases nw
    refine ⟨_,rfl,_,rfl,wl,9,_,rfl,by decide,by decide,ew,by lia,fun r1 H6 a1 b1 k6 w6=>⟨_,_,rfl,rfl,wl,1+r1,_,rfl,by lia,by lia,w6,by lia,fun r rs H7 k7 w7 nr er hlen sm=>?_⟩⟩;have n1':1≤rs.length:=by lia
    have n9':rs.length≤9:=by lia
    have hT6:=hT5.well ew k6;have hT7:=hT6.well w6 k7;have nrw:r≠wl:=w6.ne nr;refine ⟨_,rfl,wl,_,rfl,w7,by lia,fun gs H8 g1' g3' sp k8 w8=>?_⟩;have hT8:=hT7.well w7 k8;have er8:=k8 _ _ nrw er;have nrT:r≠T:=hT8.ne er8 (fun _ z=>nomatch z);obtain ⟨oT,eT8⟩:=hT8.old;have c6':=qo n1' n9';have c7':=rT sp;refine ⟨_,rfl,_,rfl,wl,r,rs,_,oT,rfl,w8,by lia,eT8,nwT,er8,nrw,nrT,n1',n9',sm,fun pn xs H9 k9 npn epn lxs gxs=>?_⟩;have hT9:=hT8.well w8 k9;have er9:=k9 _ _ nrw er8;have npT:pn≠T:=hT9.ne epn (fun _ z=>nomatch z);have rowD:∀ {H':Hp},H' r=some (.lst (rs.map V.int))→Dat (off T H') (.list (rs.map PyData.int)) (.ref r):=fun {H'} e=>by
      simp only [Dat];exact ⟨r,_,rfl,(bG nrT).trans e,bq rs⟩
    have smR:∀ {H':Hp},H' r=some (.lst (rs.map V.int))→Sm1 H' (.list (rs.map PyData.int)) (.ref r):=fun {H'} e _ r0 ns' er' en'=>by
      injection er' with er'
      subst er';rw [e] at en';injection en' with en'
      injection en' with en'
      rw [← gf en'];exact sm
    have oth:∀ y∈([.str (aw gs),.non,.str "-+",.str ""]:List V),∃ e,(∀ H',Dat H' e y)∧PrD e:=fun y hy=>by
      simp only [aaj,aa6,or_false] at hy;rcases hy with rfl|rfl|rfl|rfl
      · exact ⟨.str (aw gs),fun _=>by simp only [Dat],oM g3' sp⟩
      · exact ⟨.none,fun _=>by simp only [Dat],iJ (by simp only [OkD]) (by simp [szD]) (by simp [aaF])⟩
      · exact ⟨.str "-+",fun _=>by simp only [Dat],iJ (by simp only [OkD];decide +kernel) (by simp [szD]) (by simp [aaF])⟩
      · exact ⟨.str "",fun _=>by simp only [Dat],iJ (by simp only [OkD];decide +kernel) (by simp [szD]) (by simp [aaF])⟩
    have pR:=rZ sm n9';have pS:=oM g3' sp;have sgD:∀ H',Dat H' (.str (aw gs)) (.str (aw gs)):=fun _=>by simp only [Dat]
    refine ⟨pn,rfl,⟨_,SqL.of epn⟩,jC (Trn.list (xs:=xs)) (fun i σ H'=>∃ c5 c6,σ=[some (.ref a),some (.int c),some (.ref wl),some (.ref r),some (.str (aw gs)),c5,c6]∧But T H9 H'∧LT T H') ⟨_,_,rfl,But.refl,hT9⟩ (fun i σ H' hi z=>?_) (fun i x σ HA' HA hi it z=>?_) (fun σ HB z=>?_)⟩
    · obtain ⟨_,_,rfl,S,_⟩:=z;exact SqL.of (S _ _ npT epn)
    · obtain ⟨d5,d6,rfl,bA,hTA⟩:=z;obtain ⟨rfl,hx'⟩:=it;obtain ⟨d,hd,pd,hp⟩:=(gxs x (aaI hx')).mono (o3 bA);have hp:bh d=false:=rg hp;refine ⟨_,rfl,(by show 4≤sizeLine;decide),fun po no=>?_⟩;have ko:=Same.new no (.lst [.str (aw gs),.non,.str "-+",.str ""]);have eo:upd HA po (.lst [.str (aw gs),.non,.str "-+",.str ""]) po=some (.lst [.str (aw gs),.non,.str "-+",.str ""]):=ac;have noT:=hTA.of_new no;generalize upd HA po (.lst [.str (aw gs),.non,.str "-+",.str ""])=HC at ko eo ⊢;have hTC:=hTA.mono ko;have bC:=bA.trans (But.of ko);refine ⟨po,rfl,⟨_,SqL.of eo⟩,jC (Trn.list (xs:=[.str (aw gs),.non,.str "-+",.str ""])) (fun i' σ H'=>∃ c6,σ=[some (.ref a),some (.int c),some (.ref wl),some (.ref r),some (.str (aw gs)),some x,c6]∧But T HC H'∧LT T H') ⟨_,rfl,But.refl,hTC⟩ (fun i' σ H' hi' z=>?_) (fun i' y σ HD' HD hi' it z=>?_) (fun σ HE z=>?_)⟩
      · obtain ⟨_,rfl,S,_⟩:=z;exact SqL.of (S _ _ noT eo)
      · obtain ⟨e6,rfl,bD,hTD⟩:=z;obtain ⟨rfl,hy'⟩:=it;obtain ⟨e,he,pe⟩:=oth y (aaI hy');refine ⟨5,rfl,by decide,by decide,kB (Trn.range (lo:=0) (n:=(5:Int).toNat)) (fun i zs H'=>(But T HD H'∧LT T H')∧zs=[]) ⟨⟨But.refl,hTD⟩,rfl⟩ (fun i zs H' hi p=>by rw [p.2];exact ⟨trivial,aU (by decide)⟩) (fun i y zs HI' HI hi hx p Nx nx=>?_) (fun zs HI p p5 n5=>?_)⟩
        · obtain ⟨rfl,rfl⟩:=hx;obtain ⟨⟨bI,hTI⟩,rfl⟩:=p;have hi5:i < 5:=hi;refine ⟨_,rfl,_,rfl,_,rfl,0+(i:Int),d,x,e,y,rfl,by lia,by lia,Dat.mono (o3 ((But.of ko).trans (bD.trans bI))) _ _ hd,he _,pd,pe,(fun z=>by rw [hp] at z;cases z),hTI,fun HJ bJ hTJ=>?_⟩;rw [jZ hp];exact ⟨rfl,_,rfl,iq (fun zz=>absurd zz (by simp)) (fun _=>nx _ _ ⟨⟨bI.trans bJ,hTJ⟩,rfl⟩)⟩
        · obtain ⟨⟨bI,hTI⟩,rfl⟩:=p;refine ⟨(by show 0≤sizeLine;decide),fun pq nq=>⟨0,p5,pq,[],[],by decide,rfl,rfl,SqL.of ((Same.new nq _) _ _ ac),SqL.of ac,.inr ⟨fun _=>true,rfl,l7,?_⟩⟩⟩;rw [h_];refine ⟨false,rfl,bH ?_⟩;have kq:=(Same.new n5 (.lst [])).trans (Same.new nq (.lst []));exact ⟨_,rfl,(bD.trans bI).trans (But.of kq),hTI.mono kq⟩
      · obtain ⟨e6,rfl,bE,hTE⟩:=z;exact ⟨_,_,rfl,bC.trans bE,hTE⟩
    · obtain ⟨d5,d6,rfl,bB,hTB⟩:=z;obtain ⟨oB,eTB⟩:=hTB.old;refine ⟨oB,rfl,eTB,fun pm xm HC kC npm epm lxm gxm=>?_⟩;have hTC:=hTB.mono kC;have npmT:pm≠T:=hTC.ne epm (fun _ z=>nomatch z);have bC:=bB.trans (But.of kC);refine ⟨pm,rfl,⟨_,SqL.of epm⟩,jC (Trn.list (xs:=xm)) (fun i σ H'=>∃ c5 c6,σ=[some (.ref a),some (.int c),some (.ref wl),some (.ref r),some (.str (aw gs)),c5,c6]∧But T HC H'∧LT T H') ⟨_,_,rfl,But.refl,hTC⟩ (fun i σ H' hi z=>?_) (fun i x σ HD' HD hi it z=>?_) (fun σ HE z=>?_)⟩
      · obtain ⟨_,_,rfl,S,_⟩:=z;exact SqL.of (S _ _ npmT epm)
      · obtain ⟨e5,e6,rfl,bD,hTD⟩:=z;obtain ⟨rfl,hx'⟩:=it;obtain ⟨e,he,pe,hp⟩:=(gxm x (aaI hx')).mono (o3 bD);have hp:bX e=false:=rg hp;have erD:=(bC.trans bD) _ _ nrT er9;refine ⟨5,rfl,by decide,by decide,kB (Trn.range (lo:=0) (n:=(5:Int).toNat)) (fun i zs H'=>(But T HD H'∧LT T H')∧zs=[]) ⟨⟨But.refl,hTD⟩,rfl⟩ (fun i zs H' hi p=>by rw [p.2];exact ⟨trivial,aU (by decide)⟩) (fun i y zs HI' HI hi hx p Nx nx=>?_) (fun zs HI p p5 n5=>?_)⟩
        · obtain ⟨rfl,rfl⟩:=hx;obtain ⟨⟨bI,hTI⟩,rfl⟩:=p;have hi5:i < 5:=hi;refine ⟨_,rfl,_,rfl,_,rfl,0+(i:Int),(.list (rs.map PyData.int)),(.ref r),e,x,rfl,by lia,by lia,rowD (bI _ _ nrT erD),Dat.mono (o3 bI) _ _ he,pR,pe,smR (bI _ _ nrT erD),hTI,fun HJ bJ hTJ=>?_⟩;rw [gz c6' hp];exact ⟨rfl,_,rfl,iq (fun zz=>absurd zz (by simp)) (fun _=>nx _ _ ⟨⟨bI.trans bJ,hTJ⟩,rfl⟩)⟩
        · obtain ⟨⟨bI,hTI⟩,rfl⟩:=p;refine ⟨(by show 0≤sizeLine;decide),fun pq nq=>⟨0,p5,pq,[],[],by decide,rfl,rfl,SqL.of ((Same.new nq _) _ _ ac),SqL.of ac,.inr ⟨fun _=>true,rfl,l7,?_⟩⟩⟩;rw [h_];refine ⟨false,rfl,bH ?_⟩;have kq:=(Same.new n5 (.lst [])).trans (Same.new nq (.lst []));exact ⟨_,_,rfl,(bD.trans bI).trans (But.of kq),hTI.mono kq⟩
      · obtain ⟨e5,e6,rfl,bE,hTE⟩:=z;have erE:=(bC.trans bE) _ _ nrT er9;refine ⟨5,rfl,by decide,by decide,kB (Trn.range (lo:=0) (n:=(5:Int).toNat)) (fun i zs H'=>(But T HE H'∧LT T H')∧zs=[]) ⟨⟨But.refl,hTE⟩,rfl⟩ (fun i zs H' hi p=>by rw [p.2];exact ⟨trivial,aU (by decide)⟩) (fun i y zs HI' HI hi hx p Nx nx=>?_) (fun zs HI p p5 n5=>?_)⟩
        · obtain ⟨rfl,rfl⟩:=hx;obtain ⟨⟨bI,hTI⟩,rfl⟩:=p;have hi5:i < 5:=hi;refine ⟨_,rfl,_,rfl,_,rfl,0+(i:Int),(.list (rs.map PyData.int)),(.ref r),(.str (aw gs)),(.str (aw gs)),rfl,by lia,by lia,rowD (bI _ _ nrT erE),sgD _,pR,pS,smR (bI _ _ nrT erE),hTI,fun HJ bJ hTJ=>?_⟩;rw [iI c6' c7'];exact ⟨rfl,_,rfl,iq (fun zz=>absurd zz (by simp)) (fun _=>nx _ _ ⟨⟨bI.trans bJ,hTJ⟩,rfl⟩)⟩
        · obtain ⟨⟨bI,hTI⟩,rfl⟩:=p;refine ⟨(by show 0≤sizeLine;decide),fun pq nq=>⟨0,p5,pq,[],[],by decide,rfl,rfl,SqL.of ((Same.new nq _) _ _ ac),SqL.of ac,.inr ⟨fun _=>true,rfl,l7,?_⟩⟩⟩;rw [h_];refine ⟨false,rfl,bH ?_⟩;have kq:=(Same.new n5 (.lst [])).trans (Same.new nq (.lst []));exact ⟨_,_,_,_,_,_,rfl,(fun b o hb e=>by have nb:b≠wl:=ak (S4 _ _ hb e) nw;exact kq _ _ (bI _ _ hb (bE _ _ hb (bC _ _ hb (k9 _ _ nb (k8 _ _ nb (k7 _ _ nb (k6 _ _ nb (g5 _ _ (S4 _ _ hb e)))))))))),hTI.mono kq⟩
  · obtain ⟨_,_,_,_,_,_,rfl,_⟩:=z;exact q _
end
open PySem L2
theorem all_mk {l:PySem.W.OpenLaw} {w:World} {K:aab} {h:Heap} {mg:Str→Option Value} {fa:Addr} (X:K.In h) (G:h.Ns mainGlobals mg) (hfa:mg "law" = some (.ref fa))
    {tM3 tP1 tP2 tP3 tP4 tP5 tP6 tP7:Tok} {cP:Addr} {odP:Option Addr} {nP:Nat} {slP:Array (Option Value)}
    {aP aR aS aW aN aL aF aO aA aH aT aM:Addr}
    {aPN:Addr} {aPnm aPq:Str} {aPbs aPsub:List Value} {aPhd aPab:Bool} {aPsn:List Str} {aPcol:Option Bool} {aPdd aPod:Option Addr} {aPk0 aPk1 aPk2 aPk3 aPk5:Option Value} {aPc:Value} {aPes:Array DictEntry} {aPn:Nat} {aPsl:Array (Option Value)}
    {aRN:Addr} {aRnm aRq:Str} {aRbs aRsub:List Value} {aRhd aRab:Bool} {aRsn:List Str} {aRcol:Option Bool} {aRdd aRod:Option Addr} {aRk0 aRk1 aRk2 aRk3 aRk5:Option Value} {aRc:Value} {aRes:Array DictEntry} {aRn:Nat} {aRsl:Array (Option Value)}
    {aSN:Addr} {aSnm aSq:Str} {aSbs aSsub:List Value} {aShd aSab:Bool} {aSsn:List Str} {aScol:Option Bool} {aSdd aSod:Option Addr} {aSk0 aSk1 aSk2 aSk3 aSk5:Option Value} {aSc:Value} {aSes:Array DictEntry} {aSn:Nat} {aSsl:Array (Option Value)}
    {aRcd:ClassData}
    {aScd:ClassData}
    {aWcd:ClassData}
    {aNcd:ClassData}
    {aLcd:ClassData}
    {aFcd:ClassData}
    {aOcd:ClassData}
    {aAcd:ClassData}
    {aHcd:ClassData}
    {aTcd:ClassData}
    {aMcd:ClassData}
    {tD aE:Addr} {ocD:Value} {odD odE:Option Addr} {nD nE:Nat} {slD slE:Array (Option Value)}
    {T cL:Addr}
{f0:Addr}
{f1:Addr}
{f2:Addr}
{f3:Addr}
{f4:Addr}
{f5:Addr}
{f6:Addr}
{f7:Addr}
{f8:Addr}
{f9:Addr}
{f10:Addr}
{f11:Addr}
{f12:Addr}
{f13:Addr}
{f14:Addr}
{f15:Addr}
{f16:Addr}
{f17:Addr}
{od18 an18:Option Addr} {sl18:Array (Option Value)} {oc18 kV18 dc18 pm18 cd18 ct18:Value} {f18:Addr}
{f19:Addr}
{od20 an20:Option Addr} {sl20:Array (Option Value)} {oc20 kV20 dc20 pm20 ct20:Value} {f20:Addr}
{f21:Addr}
{f22:Addr}
{f23:Addr}
{f24:Addr}
{f25:Addr}
{f26:Addr}
{f27:Addr}
{f28:Addr}
{f29:Addr}
{od30 an30:Option Addr} {sl30:Array (Option Value)} {oc30 kV30 dc30 pm30 cd30 ct30:Value} {f30:Addr}
    (q0:Fq K "is_whole" ff f0)
    (q1:Fq K "is_row" gB f1)
    (q2:Fq K "is_signs" fg f2)
    (q3:Fq K "need_row" fb f3)
    (q4:Fq K "need_signs" dv f4)
    (q5:Fq K "shorter_first" cF f5)
    (q6:Fq K "cuts_of" fQ f6)
    (q7:Fq K "counts_up_to" cV f7)
    (q8:Fq K "ways_by_cut" dg f8)
    (q9:Fq K "way_at" gA f9)
    (q10:Fq K "joints_of" dP f10)
    (q11:Fq K "put_sign" e_ f11)
    (q12:Fq K "greatest_of" dh f12)
    (q13:Fq K "least_of" fc f13)
    (q14:Fq K "first_greatest" cy f14)
    (q15:Fq K "first_least" di f15)
    (q16:Fq K "bounds_of" dQ f16)
    (q17:Fq K "picks_of_row" cU f17)
    (a18:aas K mainGlobals "picks_by_stretch" = some (some (.ref f18))) (l18:K.lookup f18=some ⟨oc18,od18,.func (aaP "picks_by_stretch" "picks_by_stretch" (bi aV) (aQ aV) (ai aV) (.ref tD) kV18 dc18 pm18 an18 cd18 ct18),sl18⟩) (c18:aba K cd18 "picks_by_stretch" = true) (k18:aaO K (.ref f18)=true)
    (q19:Fq K "join_picks" dw f19)
    (a20:aas K mainGlobals "pick_three" = some (some (.ref f20))) (l20:K.lookup f20=some ⟨oc20,od20,.func (aaP "pick_three" "pick_three" (bi a_) (aQ a_) (ai a_) .none kV20 dc20 pm20 an20 (.ref cL) ct20),sl20⟩) (c20:aba K (.ref cL) "pick_three" = true) (k20:aaO K (.ref f20)=true)
    (q21:Fq K "_law_well" dS f21)
    (q22:Fq K "_law_draw" dW f22)
    (q23:Fq K "_law_row" fh f23)
    (q24:Fq K "_law_signs" dy f24)
    (q25:Fq K "_law_word" dR f25)
    (q26:Fq K "_law_no_rows" cW f26)
    (q27:Fq K "_law_no_signs" cG f27)
    (q28:Fq K "_law_asked" dz f28)
    (q29:Fq K "_law_said" dU f29)
    (a30:aas K mainGlobals "law" = some (some (.ref f30))) (l30:K.lookup f30=some ⟨oc30,od30,.func (aaP "law" "law" (bi fu) (aQ fu) (ai fu) .none kV30 dc30 pm30 an30 cd30 ct30),sl30⟩) (c30:aba K cd30 "law" = true) (k30:aaO K (.ref f30)=true)
    (cE:aas K mainGlobals "len" = some none)
    (cD : aas K mainGlobals "isinstance" = some none)
    (cC:aas K mainGlobals "int" = some none)
    (cx:aas K mainGlobals "bool" = some none)
    (cX:aas K mainGlobals "str" = some none)
    (cZ:aas K mainGlobals "tuple" = some none)
    (cJ:aas K mainGlobals "list" = some none)
    (cS:aas K mainGlobals "sorted" = some none)
    (cN:aas K mainGlobals "range" = some none)
    (cO:aas K mainGlobals "repr" = some none)
    (cB:aas K mainGlobals "enumerate" = some none)
    (cY:aas K mainGlobals "sum" = some none)
    (cv:aas K mainGlobals "all" = some none)
    (cM:aas K mainGlobals "min" = some none)
    (cK:aas K mainGlobals "max" = some none)
    (cu:aas K mainGlobals "abs" = some none)
    (cA:aas K mainGlobals "divmod" = some none)
    (cz:aas K mainGlobals "dict" = some none)
    (cR:aas K mainGlobals "set" = some none)
    (cQ:aas K mainGlobals "reversed" = some none)
    (cw:aas K mainGlobals "any" = some none)
    (c0:aas K mainGlobals "zip" = some none)
    (gM3:aas K mainGlobals "MOST_NUMBERS" = some (some (.int 9 tM3)))
    (gP:aas K mainGlobals "SIGNS_TO_PUT" = some (some (.ref cP)))
    (lP:K.lookup cP=some ⟨.type "tuple",odP,.seq #[.str "+" tP1,.str "-" tP2,.str "*" tP3,.str "+-" tP4,.str "+*" tP5,.str "-*" tP6,.str "+-*" tP7] nP,slP⟩)
    (n_PutError:aas K mainGlobals "PutError" = some (some (.ref aP)))
    (n_NoRow:aas K mainGlobals "NoRow" = some (some (.ref aR)))
    (n_NoSigns:aas K mainGlobals "NoSigns" = some (some (.ref aS)))
    (n_NoWay:aas K mainGlobals "NoWay" = some (some (.ref aW)))
    (n_NoNumber:aas K mainGlobals "NoNumber" = some (some (.ref aN)))
    (n_NoPlace:aas K mainGlobals "NoPlace" = some (some (.ref aL)))
    (n_NoFit:aas K mainGlobals "NoFit" = some (some (.ref aF)))
    (n_NoForm:aas K mainGlobals "NoForm" = some (some (.ref aO)))
    (n_NoAsk:aas K mainGlobals "NoAsk" = some (some (.ref aA)))
    (n_NoHolds:aas K mainGlobals "NoHolds" = some (some (.ref aH)))
    (n_NoText:aas K mainGlobals "NoText" = some (some (.ref aT)))
    (n_TooMany:aas K mainGlobals "TooMany" = some (some (.ref aM)))
    (ct:aas K mainGlobals "ValueError" = some none)
    (l_PutError:K.lookup aP=some (excClassObj aPnm aPq aP aPN aPbs jP aPhd aPsn aPsub aPab aPcol aPdd aPk0 aPk1 aPk2 aPk3 aPk5 "ValueError.__new__"))
    (s_PutError:K.lookup aPN=some ⟨aPc,aPod,.dict aPes aPn,aPsl⟩)
    (t_PutError:gR aPes=true)
    (i_PutError:nsFind aPes "__init__" = none)
    (l_NoRow:K.lookup aR=some (excClassObj aRnm aRq aR aRN aRbs (.ref aP :: jP) aRhd aRsn aRsub aRab aRcol aRdd aRk0 aRk1 aRk2 aRk3 aRk5 "ValueError.__new__"))
    (s_NoRow:K.lookup aRN=some ⟨aRc,aRod,.dict aRes aRn,aRsl⟩)
    (t_NoRow:gR aRes=true)
    (i_NoRow:nsFind aRes "__init__" = none)
    (l_NoSigns:K.lookup aS=some (excClassObj aSnm aSq aS aSN aSbs (.ref aP :: jP) aShd aSsn aSsub aSab aScol aSdd aSk0 aSk1 aSk2 aSk3 aSk5 "ValueError.__new__"))
    (s_NoSigns:K.lookup aSN=some ⟨aSc,aSod,.dict aSes aSn,aSsl⟩)
    (t_NoSigns:gR aSes=true)
    (i_NoSigns:nsFind aSes "__init__" = none)
    (f1_NoRow:aaZ K (.ref aR) "__getattribute__" = some (some (.builtin "BaseException.__getattribute__")))
    (f2_NoRow:aaZ K (.ref aR) "__getattr__" = some none)
    (f3_NoRow:aaZ K (.ref aR) "__class__" = some (some (.builtin "object.__class__")))
    (f4_NoRow:aay K (.ref aR) (.type "BaseException")=some true)
    (f5_NoRow:aay K (.ref aR) (.type "object")=some true)
    (f6_NoRow:aay K (.ref aR) (.type "ValueError")=some true)
    (f1_NoSigns:aaZ K (.ref aS) "__getattribute__" = some (some (.builtin "BaseException.__getattribute__")))
    (f2_NoSigns:aaZ K (.ref aS) "__getattr__" = some none)
    (f3_NoSigns:aaZ K (.ref aS) "__class__" = some (some (.builtin "object.__class__")))
    (f4_NoSigns:aay K (.ref aS) (.type "BaseException")=some true)
    (f5_NoSigns:aay K (.ref aS) (.type "object")=some true)
    (f6_NoSigns:aay K (.ref aS) (.type "ValueError")=some true)
    (c_NoRow:aaR K aR=some aRcd)
    (y_NoRow:aa1 K (.ref aR)=some (.type "type"))
    (c_NoSigns:aaR K aS=some aScd)
    (y_NoSigns:aa1 K (.ref aS)=some (.type "type"))
    (c_NoWay:aaR K aW=some aWcd)
    (y_NoWay:aa1 K (.ref aW)=some (.type "type"))
    (c_NoNumber:aaR K aN=some aNcd)
    (y_NoNumber:aa1 K (.ref aN)=some (.type "type"))
    (c_NoPlace:aaR K aL=some aLcd)
    (y_NoPlace:aa1 K (.ref aL)=some (.type "type"))
    (c_NoFit:aaR K aF=some aFcd)
    (y_NoFit:aa1 K (.ref aF)=some (.type "type"))
    (c_NoForm:aaR K aO=some aOcd)
    (y_NoForm:aa1 K (.ref aO)=some (.type "type"))
    (c_NoAsk:aaR K aA=some aAcd)
    (y_NoAsk:aa1 K (.ref aA)=some (.type "type"))
    (c_NoHolds:aaR K aH=some aHcd)
    (y_NoHolds:aa1 K (.ref aH)=some (.type "type"))
    (c_NoText:aaR K aT=some aTcd)
    (y_NoText:aa1 K (.ref aT)=some (.type "type"))
    (c_TooMany:aaR K aM=some aMcd)
    (y_TooMany:aa1 K (.ref aM)=some (.type "type"))
    (u_NoRow_NoSigns:aay K (.ref aR) (.ref aS)=some false)
    (d_NoRow_NoSigns:(Value.ref aR == Value.ref aS)=false)
    (u_NoRow_NoWay:aay K (.ref aR) (.ref aW)=some false)
    (d_NoRow_NoWay:(Value.ref aR == Value.ref aW)=false)
    (u_NoRow_NoNumber:aay K (.ref aR) (.ref aN)=some false)
    (d_NoRow_NoNumber:(Value.ref aR == Value.ref aN)=false)
    (u_NoRow_NoPlace:aay K (.ref aR) (.ref aL)=some false)
    (d_NoRow_NoPlace:(Value.ref aR == Value.ref aL)=false)
    (u_NoRow_NoFit:aay K (.ref aR) (.ref aF)=some false)
    (d_NoRow_NoFit:(Value.ref aR == Value.ref aF)=false)
    (u_NoRow_NoForm:aay K (.ref aR) (.ref aO)=some false)
    (d_NoRow_NoForm:(Value.ref aR == Value.ref aO)=false)
    (u_NoRow_NoAsk:aay K (.ref aR) (.ref aA)=some false)
    (d_NoRow_NoAsk:(Value.ref aR == Value.ref aA)=false)
    (u_NoRow_NoHolds:aay K (.ref aR) (.ref aH)=some false)
    (d_NoRow_NoHolds:(Value.ref aR == Value.ref aH)=false)
    (u_NoRow_NoText:aay K (.ref aR) (.ref aT)=some false)
    (d_NoRow_NoText:(Value.ref aR == Value.ref aT)=false)
    (u_NoRow_TooMany:aay K (.ref aR) (.ref aM)=some false)
    (d_NoRow_TooMany:(Value.ref aR == Value.ref aM)=false)
    (u_NoSigns_NoRow:aay K (.ref aS) (.ref aR)=some false)
    (d_NoSigns_NoRow:(Value.ref aS == Value.ref aR)=false)
    (u_NoSigns_NoWay:aay K (.ref aS) (.ref aW)=some false)
    (d_NoSigns_NoWay:(Value.ref aS == Value.ref aW)=false)
    (u_NoSigns_NoNumber:aay K (.ref aS) (.ref aN)=some false)
    (d_NoSigns_NoNumber:(Value.ref aS == Value.ref aN)=false)
    (u_NoSigns_NoPlace:aay K (.ref aS) (.ref aL)=some false)
    (d_NoSigns_NoPlace:(Value.ref aS == Value.ref aL)=false)
    (u_NoSigns_NoFit:aay K (.ref aS) (.ref aF)=some false)
    (d_NoSigns_NoFit:(Value.ref aS == Value.ref aF)=false)
    (u_NoSigns_NoForm:aay K (.ref aS) (.ref aO)=some false)
    (d_NoSigns_NoForm:(Value.ref aS == Value.ref aO)=false)
    (u_NoSigns_NoAsk:aay K (.ref aS) (.ref aA)=some false)
    (d_NoSigns_NoAsk:(Value.ref aS == Value.ref aA)=false)
    (u_NoSigns_NoHolds:aay K (.ref aS) (.ref aH)=some false)
    (d_NoSigns_NoHolds:(Value.ref aS == Value.ref aH)=false)
    (u_NoSigns_NoText:aay K (.ref aS) (.ref aT)=some false)
    (d_NoSigns_NoText:(Value.ref aS == Value.ref aT)=false)
    (u_NoSigns_TooMany:aay K (.ref aS) (.ref aM)=some false)
    (d_NoSigns_TooMany:(Value.ref aS == Value.ref aM)=false)
    (lD:K.lookup tD=some ⟨ocD,odD,.seq #[.ref aE] nD,slD⟩)
    (lE:K.lookup aE=some ⟨.type "tuple",odE,.seq #[] nE,slE⟩)
    (hC:PySem.W.codeHdIn K cL T=true) :
    ∃ fd:FuncData,(∀ (s:Shared) (v:Value),BindsTo s fd ⟨[v],[]⟩ [("script",v)])∧∀ base:Heap,K.In base→base.Ns mainGlobals mg→base.BuiltinsAt mg T→FnOk l.prog w K mg base CX0 15 fa fd ["script"] (mw K T):=by
  have e:=hfa.symm.trans (aaL X G a30);cases e;obtain ⟨_,be,bM,cg⟩:=q0.use X G (ps:=["thing"]) fun _ _ _ _ _ _ us hl=>match us,hl with|[_],_=>rfl
  obtain ⟨_,bc,bK,ce⟩:=q1.use X G (ps:=["thing"]) fun _ _ _ _ _ _ us hl=>match us,hl with|[_],_=>rfl
  obtain ⟨_,bd,bL,cf⟩:=q2.use X G (ps:=["thing"]) fun _ _ _ _ _ _ us hl=>match us,hl with|[_],_=>rfl
  obtain ⟨_,bk,bQ,ck⟩:=q3.use X G (ps:=["thing"]) fun _ _ _ _ _ _ us hl=>match us,hl with|[_],_=>rfl
  obtain ⟨_,bl,bR,cl⟩:=q4.use X G (ps:=["thing"]) fun _ _ _ _ _ _ us hl=>match us,hl with|[_],_=>rfl
  obtain ⟨_,bq,bW,cq⟩:=q5.use X G (ps:=["many"]) fun _ _ _ _ _ _ us hl=>match us,hl with|[_],_=>rfl
  obtain ⟨_,a8,bG,ca⟩:=q6.use X G (ps:=["stretch"]) fun _ _ _ _ _ _ us hl=>match us,hl with|[_],_=>rfl
  obtain ⟨_,a6,bF,b9⟩:=q7.use X G (ps:=["signs","many"]) fun _ _ _ _ _ _ us hl=>match us,hl with|[_,_],_=>rfl
  obtain ⟨_,bs,bY,cs⟩:=q8.use X G (ps:=["signs","counts","left","right"]) fun _ _ _ _ _ _ us hl=>match us,hl with|[_,_,_,_],_=>rfl
  obtain ⟨_,br,bX,cr⟩:=q9.use X G (ps:=["row","signs","counts","number"]) fun _ _ _ _ _ _ us hl=>match us,hl with|[_,_,_,_],_=>rfl
  obtain ⟨_,bg,bO,ci⟩:=q10.use X G (ps:=["signs","counts","stretch"]) fun _ _ _ _ _ _ us hl=>match us,hl with|[_,_,_],_=>rfl
  obtain ⟨_,bp,bV,cp⟩:=q11.use X G (ps:=["left","sign","right"]) fun _ _ _ _ _ _ us hl=>match us,hl with|[_,_,_],_=>rfl
  obtain ⟨_,bb,bJ,cd⟩:=q12.use X G (ps:=["row","signs"]) fun _ _ _ _ _ _ us hl=>match us,hl with|[_,_],_=>rfl
  obtain ⟨_,bj,bP,cj⟩:=q13.use X G (ps:=["row","signs"]) fun _ _ _ _ _ _ us hl=>match us,hl with|[_,_],_=>rfl
  obtain ⟨_,a9,bH,cb⟩:=q14.use X G (ps:=["row","signs"]) fun _ _ _ _ _ _ us hl=>match us,hl with|[_,_],_=>rfl
  obtain ⟨_,ba,bI,cc⟩:=q15.use X G (ps:=["row","signs"]) fun _ _ _ _ _ _ us hl=>match us,hl with|[_,_],_=>rfl
  obtain ⟨_,a5,bE,b8⟩:=q16.use X G (ps:=["row","signs"]) fun _ _ _ _ _ _ us hl=>match us,hl with|[_,_],_=>rfl
  obtain ⟨_,bo,bU,co⟩:=q17.use X G (ps:=["row","signs"]) fun _ _ _ _ _ _ us hl=>match us,hl with|[_,_],_=>rfl
  have bn:=qQ (st:=aV) l18 c18 k18;have bT:=bn.binds (ps:=["row","signs","left_out"]) (ds:=[]) fun _ _ _ _ _ _ s us KX hl=>match us,hl with|[_,_,_],_=>BindsTo.of_defaults rfl (KX _ _ lD) rfl rfl rfl
  have bt:=bn.binds (ps:=["row","signs","left_out"]) (ds:=[.ref aE]) fun _ _ _ _ _ _ s us KX hl=>by obtain ⟨a,b,rfl⟩:=rG hl;exact BindsTo.of_defaults rfl (KX _ _ lD) rfl rfl rfl
  have cn:=aaL X G a18;obtain ⟨_,bf,bN,ch⟩:=q19.use X G (ps:=["picks","joints"]) fun _ _ _ _ _ _ us hl=>match us,hl with|[_,_],_=>rfl
  have bm:=qR (st:=a_) l20 c20 k20;have bS:Binds K _ ["found"] []:=.all (fun us hl=>match us,hl with|[_],_=>(rfl:bindArgs (aaP "pick_three" "pick_three" (bi a_) (aQ a_) (ai a_) .none kV20 dc20 pm20 an20 (.ref cL) ct20) _=_));have cm:=aaL X G a20;obtain ⟨_,a3,bC,b6⟩:=q21.use X G (ps:=["cell"]) fun _ _ _ _ _ _ us hl=>match us,hl with|[_],_=>rfl
  obtain ⟨_,aX,bv,b0⟩:=q22.use X G (ps:=["well","many"]) fun _ _ _ _ _ _ us hl=>match us,hl with|[_,_],_=>rfl
  obtain ⟨_,a0,bz,b3⟩:=q23.use X G (ps:=["well","many"]) fun _ _ _ _ _ _ us hl=>match us,hl with|[_,_],_=>rfl
  obtain ⟨_,a2,bB,b5⟩:=q24.use X G (ps:=["well"]) fun _ _ _ _ _ _ us hl=>match us,hl with|[_],_=>rfl
  obtain ⟨_,a4,bD,b7⟩:=q25.use X G (ps:=["caught"]) fun _ _ _ _ _ _ us hl=>match us,hl with|[_],_=>rfl
  obtain ⟨_,aY,bw,b1⟩:=q26.use X G (ps:=["well","row"]) fun _ _ _ _ _ _ us hl=>match us,hl with|[_,_],_=>rfl
  obtain ⟨_,aZ,bx,b2⟩:=q27.use X G (ps:=[]) fun _ _ _ _ _ _ us hl=>match us,hl with|[],_=>rfl
  obtain ⟨_,aU,bu,bZ⟩:=q28.use X G (ps:=["way","row","signs"]) fun _ _ _ _ _ _ us hl=>match us,hl with|[_,_,_],_=>rfl
  obtain ⟨_,a1,bA,b4⟩:=q29.use X G (ps:=["way","row","signs"]) fun _ _ _ _ _ _ us hl=>match us,hl with|[_,_,_],_=>rfl
  have bh:=pI (st:=fu) l30 c30 k30;have B:Bu K mg:=⟨aau X G cE,aau X G cD,aau X G cC,aau X G cx,aau X G cX,aau X G cZ,aau X G cJ,aau X G cS,aau X G cN,aau X G cO,aau X G cB,aau X G cY,aau X G cv,aau X G cM,aau X G cK,aau X G cu,aau X G cA,aau X G cz,aau X G cR,aau X G cQ,aau X G cw,aau X G c0⟩
  have B3:Cp K mg tM3 cP:=⟨aaL X G gM3,aaL X G gP,fun H=>.inr ⟨_,_,_,lP,rfl,rfl,by show 7≤sizeLine;decide,.cons ⟨_,rfl⟩ (.cons ⟨_,rfl⟩ (.cons ⟨_,rfl⟩ (.cons ⟨_,rfl⟩ (.cons ⟨_,rfl⟩ (.cons ⟨_,rfl⟩ (.cons ⟨_,rfl⟩ .nil))))))⟩⟩
  have XC:Xc K mg aP aR aS:=⟨aaL X G n_PutError,aaL X G n_NoRow,aaL X G n_NoSigns,pU l_NoRow s_NoRow t_NoRow i_NoRow l_PutError s_PutError t_PutError i_PutError,pU l_NoSigns s_NoSigns t_NoSigns i_NoSigns l_PutError s_PutError t_PutError i_PutError,mo l_NoRow l_PutError,mo l_NoSigns l_PutError⟩
  have XK:Xk mg aR aS aW aN aL aF aO aA aH aT aM:=⟨aaL X G n_NoRow,aaL X G n_NoSigns,aaL X G n_NoWay,aaL X G n_NoNumber,aaL X G n_NoPlace,aaL X G n_NoFit,aaL X G n_NoForm,aaL X G n_NoAsk,aaL X G n_NoHolds,aaL X G n_NoText,aaL X G n_TooMany,aau X G ct⟩
  have E0:Kg K aR aS aW aN aL aF aO aA aH aT aM (.ref aR) 0:=⟨kF,(a7 d_NoRow_NoSigns c_NoSigns y_NoSigns u_NoRow_NoSigns),(a7 d_NoRow_NoWay c_NoWay y_NoWay u_NoRow_NoWay),(a7 d_NoRow_NoNumber c_NoNumber y_NoNumber u_NoRow_NoNumber),(a7 d_NoRow_NoHolds c_NoHolds y_NoHolds u_NoRow_NoHolds),(a7 d_NoRow_TooMany c_TooMany y_TooMany u_NoRow_TooMany),(a7 d_NoRow_NoText c_NoText y_NoText u_NoRow_NoText),kG (a7 d_NoRow_NoAsk c_NoAsk y_NoAsk u_NoRow_NoAsk) (a7 d_NoRow_NoFit c_NoFit y_NoFit u_NoRow_NoFit) (a7 d_NoRow_NoForm c_NoForm y_NoForm u_NoRow_NoForm) (a7 d_NoRow_NoPlace c_NoPlace y_NoPlace u_NoRow_NoPlace)⟩
  have X0:Kx K aR:=⟨pN l_NoRow f1_NoRow f2_NoRow f3_NoRow f4_NoRow f5_NoRow,mH f6_NoRow⟩
  have E1:Kg K aR aS aW aN aL aF aO aA aH aT aM (.ref aS) 1:=⟨(a7 d_NoSigns_NoRow c_NoRow y_NoRow u_NoSigns_NoRow),kF,(a7 d_NoSigns_NoWay c_NoWay y_NoWay u_NoSigns_NoWay),(a7 d_NoSigns_NoNumber c_NoNumber y_NoNumber u_NoSigns_NoNumber),(a7 d_NoSigns_NoHolds c_NoHolds y_NoHolds u_NoSigns_NoHolds),(a7 d_NoSigns_TooMany c_TooMany y_TooMany u_NoSigns_TooMany),(a7 d_NoSigns_NoText c_NoText y_NoText u_NoSigns_NoText),kG (a7 d_NoSigns_NoAsk c_NoAsk y_NoAsk u_NoSigns_NoAsk) (a7 d_NoSigns_NoFit c_NoFit y_NoFit u_NoSigns_NoFit) (a7 d_NoSigns_NoForm c_NoForm y_NoForm u_NoSigns_NoForm) (a7 d_NoSigns_NoPlace c_NoPlace y_NoPlace u_NoSigns_NoPlace)⟩
  have X1:Kx K aS:=⟨pN l_NoSigns f1_NoSigns f2_NoSigns f3_NoSigns f4_NoSigns f5_NoSigns,mH f6_NoSigns⟩
  have hE:∀ H,SqT K H aE []:=fun H=>.inr ⟨_,_,_,lE,rfl,rfl,by show 0≤sizeLine;decide,.nil⟩;refine ⟨aaP "law" "law" (bi fu) (aQ fu) (ai fu) .none kV30 dc30 pm30 an30 cd30 ct30,fun s v=>.of_eq rfl,fun base KB _ HB=>?_⟩;have Cd:=PySem.W.codeHd_of_K KB hC;have av:Cal l.prog w K mg base "is_whole" 1 ["thing"] (i_ K):=⟨_,_,ki be B,bM,be.kp,cg⟩
  have aj:Cal l.prog w K mg base "_law_well" 1 ["cell"] lC:=⟨_,_,qD a3 B,bC,a3.kp,b6⟩
  have ac:Cal l.prog w K mg base "_law_draw" 2 ["well","many"] fM:=⟨_,_,qF aX,bv,aX.kp,b0⟩
  have af:Cal l.prog w K mg base "_law_row" 3 ["well","many"] ou:=⟨_,_,ss a0 B ac,bz,a0.kp,b3⟩
  have ah:Cal l.prog w K mg base "_law_signs" 3 ["well"] eZ:=⟨_,_,jp a2 ac,bB,a2.kp,b5⟩
  have aI:Cal l.prog w K mg base "shorter_first" 1 ["many"] rR:=⟨_,_,fT bq B,bW,bq.kp,cq⟩
  have ar:Cal l.prog w K mg base "is_row" 2 ["thing"] ja:=⟨_,_,nC bc B B3 av,bK,bc.kp,ce⟩
  have au:Cal l.prog w K mg base "is_signs" 1 ["thing"] fL:=⟨_,_,km bd B B3,bL,bd.kp,cf⟩
  have aK:Cal l.prog w K mg base "ways_by_cut" 1 ["signs","counts","left","right"] mt:=⟨_,_,gH bs B,bY,bs.kp,cs⟩
  have am:Cal l.prog w K mg base "counts_up_to" 2 ["signs","many"] jQ:=⟨_,_,gm a6 B aK,bF,a6.kp,b9⟩
  have an:Cal l.prog w K mg base "cuts_of" 1 ["stretch"] lJ:=⟨_,_,lS a8 B,bG,a8.kp,ca⟩
  have aG:Cal l.prog w K mg base "put_sign" 1 ["left","sign","right"] fJ:=⟨_,_,kg bp,bV,bp.kp,cp⟩
  have ax:Cal l.prog w K mg base "joints_of" 2 ["signs","counts","stretch"] gv:=⟨_,_,jq bg B an,bO,bg.kp,ci⟩
  have aw:Cal l.prog w K mg base "join_picks" 2 ["picks","joints"] rS:=⟨_,_,im bf aG,bN,bf.kp,ch⟩
  have aC:Cal l.prog w K mg base "pick_three" 4 ["found"] (lG T):=⟨_,_,il bm Cd HB B.imin,bS,bm.kp,cm⟩
  have aa:qX l.prog w K mg base "picks_by_stretch" 5 ["row","signs","left_out"] (mv (K:=K) T) [.ref aE]:=⟨_,_,_,eF bn B am aI ax aw aC,bt,.cons rfl .nil,bn.kp,cn⟩
  have az:cH l.prog w K mg base "need_row" 3 ["thing"] (du aR):=⟨_,_,jn bk XC ar,bQ,bk.kp,ck⟩
  have aB:cH l.prog w K mg base "need_signs" 2 ["thing"] (cI aS):=⟨_,_,gJ bl XC au,bR,bl.kp,cl⟩
  have al:cH l.prog w K mg base "bounds_of" 6 ["row","signs"] (cT aR aS T):=⟨_,_,io a5 B hE az aB aa,bE,a5.kp,b8⟩
  have aJ:Cal l.prog w K mg base "way_at" 11 ["row","signs","counts","number"] (gu 9):=⟨_,_,nB br bX cr B aK 9,bX,br.kp,cr⟩
  have aD:cH l.prog w K mg base "picks_of_row" 6 ["row","signs"] (fK aR aS T):=⟨_,_,fU bo B hE az aB aa,bU,bo.kp,co⟩
  have aq:cH l.prog w K mg base "greatest_of" 7 ["row","signs"] (cT aR aS T):=⟨_,_,gk bb B aD,bJ,bb.kp,cd⟩
  have ay:cH l.prog w K mg base "least_of" 7 ["row","signs"] (cT aR aS T):=⟨_,_,jo bj B aD,bP,bj.kp,cj⟩
  have ao:cH l.prog w K mg base "first_greatest" 12 ["row","signs"] (cT aR aS T):=⟨_,_,fi a9 B aD aJ am,bH,a9.kp,cb⟩
  have ap:cH l.prog w K mg base "first_least" 12 ["row","signs"] (cT aR aS T):=⟨_,_,gl ba B aD aJ am,bI,ba.kp,cc⟩
  have ab:cH l.prog w K mg base "_law_asked" 13 ["way","row","signs"] (ow aR aS T):=⟨_,_,o1 aU aq ay ao ap al,bu,aU.kp,bZ⟩
  have ak:Cal l.prog w K mg base "_law_word" 1 ["caught"] (oq K aR aS aW aN aL aF aO aA aH aT aM):=⟨_,_,qC a4 B XK,bD,a4.kp,b7⟩
  have ag:Cal l.prog w K mg base "_law_said" 14 ["way","row","signs"] (lF T):=⟨_,_,qE a1 B XC E0 E1 X0 X1 ab ak,bA,a1.kp,b4⟩
  have ae:Cal l.prog w K mg base "_law_no_signs" 1 [] (lH T):=⟨_,_,kh aZ,bx,aZ.kp,b2⟩
  have ad:Cal l.prog w K mg base "_law_no_rows" 3 ["well","row"] (lI T):=⟨_,_,lR aY B ac,bw,aY.kp,b1⟩
  exact sw bh B aj ac af ah ad ae ag
theorem walk {T c:Addr} {l:PySem.W.OpenLaw} {q:Program} {loose:List Str} {XP:(Str→Option Value)→Heap→Prop} {YP:World→Heap→Prop} {d:DefRec} {K:Params→aab} (hn:l.most=some 63) (hdf:d.params.defaults=[]) (hi:PyProof.Rows.importsNone q=true)
    (hY:∀ (w:World) (h:Heap),YP w h→(K w.params).In h∧h.get? T=some (PySem.W.tabObj #[])) (hC:∀ w:World,PySem.W.codeHdIn (K w.params) c T=true) (hKT:∀ w:World,(K w.params).lookup T=none)
    (F:∀ (w:World) (mg:Str→Option Value) (fa:Addr) (h:Heap),(K w.params).In h→h.Ns mainGlobals mg→mg d.name=some (.ref fa) →
      ∃ fd:FuncData,(∀ (s:Shared) (u:Value),BindsTo s fd ⟨[u],[]⟩ [("script",u)])∧∀ base:Heap,(K w.params).In base→base.Ns mainGlobals mg→base.BuiltinsAt mg T→FnOk l.prog w (K w.params) mg base CX0 15 fa fd ["script"] (mw (K w.params) T)) :
    PySem.W.WalkO q loose XP YP l.row.toRowW d [] (fun f vs=>PySem.call f vs) :=
  L2.walk_ofT (T:=T) (c:=c) (qual:=tP) (n:=63) (k:=15) (x:="script") (CX:=fun _=>CX0) (sp:=fun w=>mw (K w.params) T) hn (by decide) hdf ⟨rfl,by decide,by decide,rfl⟩ hi hY hC hKT F (fun _ _ a ns hl hT hS=>⟨a,ns,rfl,hS,hl,⟨_,hT⟩,fun _=>rfl⟩) fun _ _ _ _ _ z=>z
end Put
namespace PySem.W.Fast
def tw2755453187051478696:=0
def tw9136031660171841623:=0
def tw8958844447395748915:=0
def tw16083224870309962500:=0
def tw17577625340573525970:=0
def tw13620684399566509784:=0
def tw3032195302481284777:=0
def tw4954750426242026432:=0
def tw8631683896079387596:=0
def tw11104296158588352455:=0
def tw8656147234200916189:=0
def tw7649366862798092965:=0
def tw17010578825864044580:=0
def tw9110018610806845613:=0
def tw1360495076797045495:=0
def tw729708878396304700:=0
def tw12181332525522047009:=0
def tw8875851541648859664:=0
def tw15765216049829489105:=0
def tw13128794001104397998:=0
def tw4861643135544612877:=0
def tw1780510869751048386:=0
def tw14538264118644076947:=0
def tw791020212504742872:=0
def tw8307085109446655532:=0
def tw11991267120568758016:=0
def tw9314907176112366595:=0
def tw13659917161663980863:=0
def tw2859422487102921439:=0
def tw4817263344464876254:=0
def tw17506356791796383372:=0
def tw10478156711681150301:=0
def tw13025226767664823553:=0
def tw7146087671493535906:=0
def tw13431190154015065098:=0
def tw11757446580983470546:=0
def tw7792445971988078283:=0
def tw5192828140256981574:=0
def tw11599093292979484669:=0
def tw6808783651713768572:=0
def tw17420313525721459821:=0
def tw16828006956292413500:=0
def tw15688535602579538368:=0
def tw79928149690629317:=0
def tw667520667369462607:=0
def tw5250721881025531170:=0
def tw1648279761549642354:=0
def tw18400917209750902166:=0
def tw6831660539396261407:=0
def tw10607534138910202400:=0
def tw17258350675666646090:=0
def tw8509291530554747049:=0
def tw15656899898131690181:=0
def tw8338364126857961619:=0
def tw11543223804369822501:=0
def tw16896247236188680340:=0
def tw7830001006488852786:=0
def tw15676620847905890346:=0
def tw7968731960141253974:=0
def tw5581448252840187338:=0
def tw1043476634663002466:=0
def tw4877317430144989856:=0
def tw3898691233749589078:=0
def tw2361677288430822651:=0
def tw7916656077364093131:=0
def tw18081465001637532256:=0
def tw5917112245498974463:=0
def tw15698741591375255508:=0
def tw1159313251280802714:=0
def tw15125400491347495278:=0
def tw6077209609710072796:=0
def tw2310956975151650157:=0
def tw11518054308064548123:=0
def tw1677988519499049843:=0
def tw8272149269322138529:=0
def tw5751534809495511900:=0
def tw12537395265004430644:=0
def tw5835214072376243748:=0
def tw4198911538674681698:=0
def tw10033777791757238336:=0
def tw4311710038510020907:=0
def tw7115754017219825371:=0
def tw1854668044758238867:=0
def tw13609136079026040278:=0
def tw16644168899303450096:=0
def tw17733925200522174260:=0
def tw13923756863128624403:=0
def tw1705870699733925105:=0
def tw8189116786474560034:=0
def tw14821538228826059137:=0
def tw4385371520925483419:=0
def tw16317570903621584322:=0
def tw15138926428877922679:=0
def tw4876014958684947753:=0
def tw802319161557582680:=0
def tw12536223692083758401:=0
def tw17132144141501232852:=0
def tw5663824209800664697:=0
def tw1437635580622585280:=0
def tw12411403138494719523:=0
def tw11528852210153901761:=0
def tw1556606741132088816:=0
def tw8159052248049364698:=0
def tw13879275156123780556:=0
def tw365674933690086955:=0
def tw3059413686632763120:=0
def tw10792278946033794412:=0
def tw213457655205870401:=0
def tw12094999385523883175:=0
def tw13620383116026325449:=0
def tw18155860295030232687:=0
def tw8059868034535364872:=0
def tw14757378212636824763:=0
def tw10979706229899304170:=0
def tw17903731669492555328:=0
def tw13644872714594349054:=0
def tw2873686215439009517:=0
def tw6838315100937311434:=0
def tw1767146542964850716:=0
def tw1877218851850233283:=0
def tw10092389614823865941:=0
def tw9308620611171344231:=0
def tw14321903066736701626:=0
def tw3687683469541121320:=0
def tw4440229838349855964:=0
def tw9177789807625313085:=0
def tw14465997159280744067:=0
def tw282361313566038285:=0
def tw8574360576208505698:=0
def tw12120966590925780973:=0
def tw14472388335614707820:=0
def tw16442328107358389802:=0
def tw14552436071764719432:=0
def tw13993049441770740188:=0
def tw12236169237691849057:=0
def tw254655412262235886:=0
def tw165925735184779810:=0
def tw7310465530928598366:=0
def tw13351981084650635874:=0
def tw10472391649097091011:=0
def tw6591201237347602764:=0
def tw10432832026257084185:=0
def tw7630389147157354935:=0
def tw14808660656983121266:=0
def tw4445149524589843090:=0
def tw2664554693611345750:=0
def tw6072847515578911698:=0
def tw10419190497709275271:=0
def tw10616720911912176684:=0
def tw8169160356136177862:=0
def tw15890821661771332144:=0
def tw16031040807788558301:=0
def tw5033215658224277063:=0
def tw1620231656226798614:=0
def tw2282124066988237084:=0
def tw12724373890631819458:=0
def tw3453988057573404502:=0
def tw3059909151595003927:=0
def tw11830909531706854805:=0
def tw8155620608686911043:=0
def tw18284335621361705184:=0
def tw13173565878662311028:=0
def tw10374395489194653346:=0
def tw14740670341659185538:=0
def tw10353493113519003407:=0
def tw8912549534976902237:=0
def tw18153880797949333377:=0
def tw7161076059336611944:=0
def tw3749387710401385194:=0
def tw6297089467239149468:=0
def tw14114598707335657788:=0
def tw12320239118959098698:=0
def tw16280736595468869141:=0
def tw11519628266615463298:=0
def tw13474748193174526859:=0
def tw13723767158057872187:=0
def tw13315108505936013935:=0
def tw16334266221863308051:=0
def tw10380073888341670997:=0
def tw15747853439766486108:=0
def tw13481680225404338484:=0
def tw15576393890134486902:=0
def tw16244793026252525880:=0
def tw8123754608745785509:=0
def tw4059337698007442655:=0
def tw8200601465662368254:=0
def tw4576075954978944917:=0
def tw6096657731051097716:=0
def tw3488943968637323043:=0
def tw2765458674875777494:=0
def tw7957574777126326698:=0
def tw13486782975988009344:=0
def tw6704731555952121593:=0
def tw8068136146737686113:=0
def tw12682772894712300928:=0
def tw8855632716053576935:=0
def tw1178684267657249734:=0
def tw5597108669964769338:=0
def tw13188967293730758663:=0
def tw13319708607766674753:=0
def tw3202612517696916556:=0
def tw12198235677867619856:=0
def tw16301639701902657599:=0
def tw6503321099834589667:=0
def tw410553454811919852:=0
def tw12454922673058648565:=0
def tw10801316549787816534:=0
def tw6814340532816383690:=0
def tw3029328629678664964:=0
def tw1869295480971717023:=0
def tw1889905582100233261:=0
def tw8957737861348524027:=0
def tw10755284225169009564:=0
def tw1645714669215923722:=0
def tw12440637352158183248:=0
def tw9007538086343793180:=0
def tw10883717242050462686:=0
def tw922375369156890684:=0
def tw13748626263777755943:=0
def tw11205063991243785907:=0
def tw16389861672653517956:=0
def tw7698262425876471042:=0
def tw7375729636936104436:=0
def tw10162703425250080965:=0
def tw14557430878927088484:=0
def tw9201976848911309295:=0
def tw13386654286776964573:=0
def tw13763328729906785241:=0
def tw4103778056667207818:=0
def tw17540620152083731185:=0
def tw2940736247166543316:=0
def tw17983999728826033943:=0
def tw4903041361697327875:=0
def tw8177376362143926871:=0
def tw950787169676449357:=0
def tw17739087299842891995:=0
def tw133349552023471755:=0
def tw5510603458496625811:=0
def tw7768963174974641346:=0
def tw18111024422978065701:=0
def tw13631353013959080890:=0
def tw10894676241022858187:=0
end PySem.W.Fast
open PySem PySem.W PyProof.Rows
set_option maxRecDepth 100000 in
set_option maxHeartbeats 0 in
theorem PySem.Challenge.cw_putsigns_k15_refused_by_bounds_holds : PySem.Challenge.rw_putsigns_k15_refused_by_bounds.Holds := by
  w_on;o_law;k_head;(case hw=>w_witness2)
  k_fill
  refine Put.walk (T:=292) (c:=296) (l:=PySem.Challenge.rw_putsigns_k15_refused_by_bounds) rfl rfl ?hi (fun w h Y=>⟨PySem.W.km_in_of Y,PySem.W.km_tabs_of Y 292 (by simp)⟩) (fun w=>rfl) (fun w=>rfl) ?F
  case hi=>first|rfl|decide +kernel
  case F =>
    intro w mg fa h KX G hmg;refine' Put.all_mk (T:=292) (cL:=296) KX G hmg ?q0 ?q1 ?q2 ?q3 ?q4 ?q5 ?q6 ?q7 ?q8 ?q9 ?q10 ?q11 ?q12 ?q13 ?q14 ?q15 ?q16 ?q17 ?a18 ?l18 ?c18 ?k18 ?q19 ?a20 ?l20 ?c20 ?k20 ?q21 ?q22 ?q23 ?q24 ?q25 ?q26 ?q27 ?q28 ?q29 ?a30 ?l30 ?c30 ?k30 ?z_len ?z_isinstance ?z_int ?z_bool ?z_str ?z_tuple ?z_list ?z_sorted ?z_range ?z_repr ?z_enumerate ?z_sum ?z_all ?z_min ?z_max ?z_abs ?z_divmod ?z_dict ?z_set ?z_reversed ?z_any ?z_zip ?gM3 ?gP ?lP ?n_PutError ?n_NoRow ?n_NoSigns ?n_NoWay ?n_NoNumber ?n_NoPlace ?n_NoFit ?n_NoForm ?n_NoAsk ?n_NoHolds ?n_NoText ?n_TooMany ?z_ValueError ?l_PutError ?s_PutError ?t_PutError ?i_PutError ?l_NoRow ?s_NoRow ?t_NoRow ?i_NoRow ?l_NoSigns ?s_NoSigns ?t_NoSigns ?i_NoSigns ?f1_NoRow ?f2_NoRow ?f3_NoRow ?f4_NoRow ?f5_NoRow ?f6_NoRow ?f1_NoSigns ?f2_NoSigns ?f3_NoSigns ?f4_NoSigns ?f5_NoSigns ?f6_NoSigns ?c_NoRow ?y_NoRow ?c_NoSigns ?y_NoSigns ?c_NoWay ?y_NoWay ?c_NoNumber ?y_NoNumber ?c_NoPlace ?y_NoPlace ?c_NoFit ?y_NoFit ?c_NoForm ?y_NoForm ?c_NoAsk ?y_NoAsk ?c_NoHolds ?y_NoHolds ?c_NoText ?y_NoText ?c_TooMany ?y_TooMany ?u_NoRow_NoSigns ?d_NoRow_NoSigns ?u_NoRow_NoWay ?d_NoRow_NoWay ?u_NoRow_NoNumber ?d_NoRow_NoNumber ?u_NoRow_NoPlace ?d_NoRow_NoPlace ?u_NoRow_NoFit ?d_NoRow_NoFit ?u_NoRow_NoForm ?d_NoRow_NoForm ?u_NoRow_NoAsk ?d_NoRow_NoAsk ?u_NoRow_NoHolds ?d_NoRow_NoHolds ?u_NoRow_NoText ?d_NoRow_NoText ?u_NoRow_TooMany ?d_NoRow_TooMany ?u_NoSigns_NoRow ?d_NoSigns_NoRow ?u_NoSigns_NoWay ?d_NoSigns_NoWay ?u_NoSigns_NoNumber ?d_NoSigns_NoNumber ?u_NoSigns_NoPlace ?d_NoSigns_NoPlace ?u_NoSigns_NoFit ?d_NoSigns_NoFit ?u_NoSigns_NoForm ?d_NoSigns_NoForm ?u_NoSigns_NoAsk ?d_NoSigns_NoAsk ?u_NoSigns_NoHolds ?d_NoSigns_NoHolds ?u_NoSigns_NoText ?d_NoSigns_NoText ?u_NoSigns_TooMany ?d_NoSigns_TooMany ?lD ?lE ?hC
    (case q0=>exact L2.Fq.mk4 (by k_is) (by k_is) (by k_is) (by k_is))
    (case q1=>exact L2.Fq.mk4 (by k_is) (by k_is) (by k_is) (by k_is))
    (case q2=>exact L2.Fq.mk4 (by k_is) (by k_is) (by k_is) (by k_is))
    (case q3=>exact L2.Fq.mk4 (by k_is) (by k_is) (by k_is) (by k_is))
    (case q4=>exact L2.Fq.mk4 (by k_is) (by k_is) (by k_is) (by k_is))
    (case q5=>exact L2.Fq.mk4 (by k_is) (by k_is) (by k_is) (by k_is))
    (case q6=>exact L2.Fq.mk4 (by k_is) (by k_is) (by k_is) (by k_is))
    (case q7=>exact L2.Fq.mk4 (by k_is) (by k_is) (by k_is) (by k_is))
    (case q8=>exact L2.Fq.mk4 (by k_is) (by k_is) (by k_is) (by k_is))
    (case q9=>exact L2.Fq.mk4 (by k_is) (by k_is) (by k_is) (by k_is))
    (case q10=>exact L2.Fq.mk4 (by k_is) (by k_is) (by k_is) (by k_is))
    (case q11=>exact L2.Fq.mk4 (by k_is) (by k_is) (by k_is) (by k_is))
    (case q12=>exact L2.Fq.mk4 (by k_is) (by k_is) (by k_is) (by k_is))
    (case q13=>exact L2.Fq.mk4 (by k_is) (by k_is) (by k_is) (by k_is))
    (case q14=>exact L2.Fq.mk4 (by k_is) (by k_is) (by k_is) (by k_is))
    (case q15=>exact L2.Fq.mk4 (by k_is) (by k_is) (by k_is) (by k_is))
    (case q16=>exact L2.Fq.mk4 (by k_is) (by k_is) (by k_is) (by k_is))
    (case q17=>exact L2.Fq.mk4 (by k_is) (by k_is) (by k_is) (by k_is))
    (case a18=>k_is)
    (case l18=>k_is)
    (case c18=>k_is)
    (case k18=>k_is)
    (case q19=>exact L2.Fq.mk4 (by k_is) (by k_is) (by k_is) (by k_is))
    (case a20=>k_is)
    (case l20=>k_is)
    (case c20=>k_is)
    (case k20=>k_is)
    (case q21=>exact L2.Fq.mk4 (by k_is) (by k_is) (by k_is) (by k_is))
    (case q22=>exact L2.Fq.mk4 (by k_is) (by k_is) (by k_is) (by k_is))
    (case q23=>exact L2.Fq.mk4 (by k_is) (by k_is) (by k_is) (by k_is))
    (case q24=>exact L2.Fq.mk4 (by k_is) (by k_is) (by k_is) (by k_is))
    (case q25=>exact L2.Fq.mk4 (by k_is) (by k_is) (by k_is) (by k_is))
    (case q26=>exact L2.Fq.mk4 (by k_is) (by k_is) (by k_is) (by k_is))
    (case q27=>exact L2.Fq.mk4 (by k_is) (by k_is) (by k_is) (by k_is))
    (case q28=>exact L2.Fq.mk4 (by k_is) (by k_is) (by k_is) (by k_is))
    (case q29=>exact L2.Fq.mk4 (by k_is) (by k_is) (by k_is) (by k_is))
    (case a30=>k_is)
    (case l30=>k_is)
    (case c30=>k_is)
    (case k30=>k_is)
    (case z_len=>k_is)
    (case z_isinstance=>k_is)
    (case z_int=>k_is)
    (case z_bool=>k_is)
    (case z_str=>k_is)
    (case z_tuple=>k_is)
    (case z_list=>k_is)
    (case z_sorted=>k_is)
    (case z_range=>k_is)
    (case z_repr=>k_is)
    (case z_enumerate=>k_is)
    (case z_sum=>k_is)
    (case z_all=>k_is)
    (case z_min=>k_is)
    (case z_max=>k_is)
    (case z_abs=>k_is)
    (case z_divmod=>k_is)
    (case z_dict=>k_is)
    (case z_set=>k_is)
    (case z_reversed=>k_is)
    (case z_any=>k_is)
    (case z_zip=>k_is)
    (case gM3=>k_is)
    (case gP=>k_is)
    (case lP=>k_is)
    (case n_PutError=>k_is)
    (case n_NoRow=>k_is)
    (case n_NoSigns=>k_is)
    (case n_NoWay=>k_is)
    (case n_NoNumber=>k_is)
    (case n_NoPlace=>k_is)
    (case n_NoFit=>k_is)
    (case n_NoForm=>k_is)
    (case n_NoAsk=>k_is)
    (case n_NoHolds=>k_is)
    (case n_NoText=>k_is)
    (case n_TooMany=>k_is)
    (case z_ValueError=>k_is)
    (case l_PutError=>k_is)
    (case s_PutError=>k_is)
    (case t_PutError=>rfl)
    (case i_PutError=>rfl)
    (case l_NoRow=>k_is)
    (case s_NoRow=>k_is)
    (case t_NoRow=>rfl)
    (case i_NoRow=>rfl)
    (case l_NoSigns=>k_is)
    (case s_NoSigns=>k_is)
    (case t_NoSigns=>rfl)
    (case i_NoSigns=>rfl)
    (case f1_NoRow=>k_is)
    (case f2_NoRow=>k_is)
    (case f3_NoRow=>k_is)
    (case f4_NoRow=>k_is)
    (case f5_NoRow=>k_is)
    (case f6_NoRow=>k_is)
    (case f1_NoSigns=>k_is)
    (case f2_NoSigns=>k_is)
    (case f3_NoSigns=>k_is)
    (case f4_NoSigns=>k_is)
    (case f5_NoSigns=>k_is)
    (case f6_NoSigns=>k_is)
    (case c_NoRow=>k_is)
    (case y_NoRow=>k_is)
    (case c_NoSigns=>k_is)
    (case y_NoSigns=>k_is)
    (case c_NoWay=>k_is)
    (case y_NoWay=>k_is)
    (case c_NoNumber=>k_is)
    (case y_NoNumber=>k_is)
    (case c_NoPlace=>k_is)
    (case y_NoPlace=>k_is)
    (case c_NoFit=>k_is)
    (case y_NoFit=>k_is)
    (case c_NoForm=>k_is)
    (case y_NoForm=>k_is)
    (case c_NoAsk=>k_is)
    (case y_NoAsk=>k_is)
    (case c_NoHolds=>k_is)
    (case y_NoHolds=>k_is)
    (case c_NoText=>k_is)
    (case y_NoText=>k_is)
    (case c_TooMany=>k_is)
    (case y_TooMany=>k_is)
    (case u_NoRow_NoSigns=>k_is)
    (case d_NoRow_NoSigns=>rfl)
    (case u_NoRow_NoWay=>k_is)
    (case d_NoRow_NoWay=>rfl)
    (case u_NoRow_NoNumber=>k_is)
    (case d_NoRow_NoNumber=>rfl)
    (case u_NoRow_NoPlace=>k_is)
    (case d_NoRow_NoPlace=>rfl)
    (case u_NoRow_NoFit=>k_is)
    (case d_NoRow_NoFit=>rfl)
    (case u_NoRow_NoForm=>k_is)
    (case d_NoRow_NoForm=>rfl)
    (case u_NoRow_NoAsk=>k_is)
    (case d_NoRow_NoAsk=>rfl)
    (case u_NoRow_NoHolds=>k_is)
    (case d_NoRow_NoHolds=>rfl)
    (case u_NoRow_NoText=>k_is)
    (case d_NoRow_NoText=>rfl)
    (case u_NoRow_TooMany=>k_is)
    (case d_NoRow_TooMany=>rfl)
    (case u_NoSigns_NoRow=>k_is)
    (case d_NoSigns_NoRow=>rfl)
    (case u_NoSigns_NoWay=>k_is)
    (case d_NoSigns_NoWay=>rfl)
    (case u_NoSigns_NoNumber=>k_is)
    (case d_NoSigns_NoNumber=>rfl)
    (case u_NoSigns_NoPlace=>k_is)
    (case d_NoSigns_NoPlace=>rfl)
    (case u_NoSigns_NoFit=>k_is)
    (case d_NoSigns_NoFit=>rfl)
    (case u_NoSigns_NoForm=>k_is)
    (case d_NoSigns_NoForm=>rfl)
    (case u_NoSigns_NoAsk=>k_is)
    (case d_NoSigns_NoAsk=>rfl)
    (case u_NoSigns_NoHolds=>k_is)
    (case d_NoSigns_NoHolds=>rfl)
    (case u_NoSigns_NoText=>k_is)
    (case d_NoSigns_NoText=>rfl)
    (case u_NoSigns_TooMany=>k_is)
    (case d_NoSigns_TooMany=>rfl)
    (case lD=>k_is)
    (case lE=>k_is)
    (case hC=>exact rfl)

