import PyProof.Rows.All
import Wide.All
import OpenK.AllK
import Wide.FinOn
import Lean
import PyProof.EqAt
import PyProof.EqKinds
import PyProof.TupleCall
import PyProof.Rows.RuleB_bool
import PySem.Challenge.RW_putsigns_k35_papers_of_bounds_looked_at
open PySem.W renaming Frag → aaa, mg_none_of → aau, nsIn → aaE, kia_one → aa3, kia_tup → aa8, keepIn → abk, fnOf → abo, codeIn → abL, kitOne → abM, kitx_dict → ab0, kitx_list → acn, findIn → acr, Looks → acB
open List renaming length_map → aab, getElem?_eq_getElem → aac, map_cons → aad, mem_cons → aai, size_toArray → aaj, mem_cons_of_mem → aak, mem_map → aal, getElem?_map → aap, mem_cons_self → aaq, mem_append_right → aat, length_append → aav, append_assoc → aaw, mem_append → aax, mem_of_getElem? → aay, take_add_one → aaA, map_map → aaD, replicate → aaF, mem_range → aaH, mem_singleton → aaI, length_take → aaJ, getElem?_eq_some_iff → aaK, map_append → aaM, length_cons → aaN, getD_eq_getElem?_getD → aaP, all_eq_true → aaR, mem_append_left → aaT, take_of_length_le → aaY, Nodup → aaZ, find?_cons → aa0, getElem?_range → aa1, nodup_cons → aa2, not_mem_nil → aa5, length_eq_zero_iff → abb, range → abd, getElem_mem → abe, take_length → abf, map_nil → abn, mem_map_of_mem → abu, getElem?_eq_none → aby, replicate_succ → abK, zip_cons_cons → abP, length_filter_le → abQ, length_nil → abR, mem_iff_getElem? → abS, take_range → abT, all_eq_false → abZ, flatMap_append → ab6, length → ab7, nil_append → ace, length_pos_of_mem → acj, flatten_cons → acl, nodup_append → acm, nodup_nil → acp, filter_cons → acu, length_drop → acv, mem_flatMap → acw, any_cons → acy, map_take → acz, length_pos_iff → acC, mem_filter → acD
open Bool renaming false_ne_true → aae, false_eq_true → aaB, and_eq_true → aa4, false_and → ab3, eq_iff_iff → acb, and_false → aco, true_and → acx
open PySem.Heap renaming get?_push_of_some → aaf, lt_size → aan, get?_push_size → aao, SameBut → aaU, get?_update_self → aa9
open PyProof.Rows renaming boot_isinstance → aag, boot_int → aaS, boot_list → aa7, callWith_type1 → abc, boot_dict → abi, boot_tuple → abr, boot_bool → abw, boot_min → abC, boot_str → abD, boot_all → abW, boot_max → abX
open Nat renaming le_refl → aah, lt_of_lt_of_le → aam, ne_of_lt → aaz, le_trans → aaG, zero_le → aaQ, lt_of_le_of_lt → aa6, pow_le_pow_right → abp, le_of_lt → abz, lt_irrefl → abA, ne_of_gt → abB, lt_or_ge → abU, min_eq_left → abV, lt_succ_self → ab5, mul_le_mul → acq, lt_trans → acs, not_lt → acF
open PySem.Paired renaming length → aar
open Option.some renaming inj → aas
open PySem.PassesOwn renaming never → aaC
open PySem renaming boot_len → aaL, mem_of_lookup → abj
open PySem.Heap.SameBut renaming update → aaO
open Array renaming length_toList → aaV, getElem?_toList → abx, getElem?_eq_getElem → ab2
open PySem.PyData renaming depthAll → aaW, depth → aaX, showable → abv, depthKv → ab4, shownAll → acg
open PySem.Builtin.Dict_items renaming ownsTuple → aba
open PySem.Str renaming ofString → abg
open Option renaming map_eq_some_iff → abh, isSome_iff_exists → ab8
open PySem.Builtin.Dict renaming showsAll → abl, updateFrom → abI
open PySem.F renaming slot_dict_valueiterator_next → abm, slot_dict_keyiterator_next → abq, plainAttrs_list → abt, slot_list_extend → ab9, type_list_extend → aca, plainAttrs_dict → ach, args_dict_valueiterator_next_1 → aci, entry_dict_valueiterator_next → ack, slot_dict_getitem → acE
open PySem.Builtin.Tuple renaming tupleHashOf → abE
open Ne renaming symm → abF
open PySem.Builtin.List renaming listTooLong → abG
open Int renaming toNat_natCast → abH
open PySem.Builtin.Range renaming rangeSize → abJ
open PySem.Calls renaming callWith_builtin → abN, spliced_cons → acd
open List.Nodup renaming sublist → abO
open False renaming elim → abY
open PySem.Obj renaming data_mapDictKeys → ab1, data_mapFields → acf, mapFields → acA
open Nat.succ renaming inj → act
set_option Elab.async false
set_option linter.all false
set_option maxRecDepth 100000
namespace L2
open PySem PySem.Spec PyProof.Rows
abbrev Key:=Sum Int Str
def gx:Key→Value→Bool
  | .inl k,v=>Value.isInt k v
  | .inr x,v=>Value.isStrOf x v
def t6 (w:World):Key→Int
  | .inl k=>hashInt k
  | .inr x=>hashStr w x
theorem aV:∀ {k:Key} {v:Value},gx k v=true→(∃ i t,k=Sum.inl i∧v=Value.int i t)∨(∃ x t,k=Sum.inr x∧v=Value.str x t)
  | .inl i,v,h=>by
    obtain ⟨t,e⟩:=Value.isInt_shape (k:=i) (v:=v) h;exact .inl ⟨i,t,rfl,e⟩
  | .inr x,v,h=>by
    obtain ⟨t,e⟩:=Value.isStrOf_shape (x:=x) (v:=v) h;exact .inr ⟨x,t,rfl,e⟩
theorem nE (i:Int) (t:Tok):gx (.inl i) (.int i t)=true:=by simp [gx,Value.isInt]
theorem nC (x:Str) (t:Tok):gx (.inr x) (.str x t)=true:=by simp [gx,Value.isStrOf]
theorem rC (a b:Int):decide ((Sum.inl a:Key)=Sum.inl b)=(a == b):=by
  by_cases e:a=b
  · subst e;simp
  · have h:¬ (Sum.inl a:Key)=Sum.inl b:=fun q=>e (Sum.inl.inj q);rw [decide_eq_false h];exact (beq_eq_false_iff_ne.mpr e).symm
theorem rq (a b:Str):decide ((Sum.inr a:Key)=Sum.inr b)=decide (a=b):=by
  by_cases e:a=b
  · subst e;simp
  · have h:¬ (Sum.inr a:Key)=Sum.inr b:=fun q=>e (Sum.inr.inj q);rw [decide_eq_false h,decide_eq_false e]
theorem rB (a:Int) (b:Str):decide ((Sum.inl a:Key)=Sum.inr b)=false:=decide_eq_false (fun q=>nomatch q)
theorem rA (a:Str) (b:Int):decide ((Sum.inr a:Key)=Sum.inl b)=false:=decide_eq_false (fun q=>nomatch q)
def av (prog:Program) (w:World):PySem.KeyKind prog w Key where
  is:=gx
  hash:=t6 w
  inj:=fun v a b ha hb=>by
    rcases aV ha with ⟨i,t,rfl,rfl⟩|⟨x,t,rfl,rfl⟩
    · rcases aV hb with ⟨j,u,rfl,e⟩|⟨y,u,rfl,e⟩
      · injection e with e1 _;rw [e1]
      · exact nomatch e
    · rcases aV hb with ⟨j,u,rfl,e⟩|⟨y,u,rfl,e⟩
      · exact nomatch e
      · injection e with e1 _;rw [e1]
  byValue:=fun k v h=>by
    rcases aV h with ⟨i,t,rfl,rfl⟩|⟨x,t,rfl,rfl⟩ <;> rfl
  pyHash:=fun hv h=>by
    rcases aV hv with ⟨i,t,rfl,rfl⟩|⟨x,t,rfl,rfl⟩
    · exact wpAny_pyHash_int h
    · exact wpAny_pyHash_str h
  eqBool:=fun hu hv h=>by
    rcases aV hu with ⟨i,t,rfl,rfl⟩|⟨x,t,rfl,rfl⟩
    · rcases aV hv with ⟨j,u,rfl,rfl⟩|⟨y,u,rfl,rfl⟩
      · rw [rC] at h;exact wpAny_eqBool_int h
      · rw [rB] at h;exact SeqAt.EqAt.int_str i t y u _ _ _ _ h
    · rcases aV hv with ⟨j,u,rfl,rfl⟩|⟨y,u,rfl,rfl⟩
      · rw [rA] at h;exact SeqAt.EqAt.str_int x t j u _ _ _ _ h
      · rw [rq] at h;exact wpAny_eqBool_str h
  «strs»:=fun k x t v h=>by
    rcases aV h with ⟨i,u,rfl,e⟩|⟨y,u,rfl,e⟩
    · exact nomatch e
    · injection e with e1 _
      subst e1;cases v <;> rfl
theorem gq (prog:Program) (w:World) (k:Key) (v:Value):(av prog w).is k v=gx k v:=rfl
theorem jS (prog:Program) (w:World) (i:Int) (t:Tok):(av prog w).is (.inl i) (.int i t)=true:=nE i t
theorem jR (prog:Program) (w:World) (x:Str) (t:Tok):(av prog w).is (.inr x) (.str x t)=true:=nC x t
open PySem PySem.Spec PyProof.Rows
inductive V where
  | non|bl (b:Bool)|int (i:Int)|str (x:Str)|byt (b:Array UInt8)|flt (b:UInt64)|ref (a:Addr)|ty (n:String)
  deriving DecidableEq
def RelV:V→Value→Prop
  | .non,u=>u=Value.none
  | .bl b,u=>u=Value.bool b
  | .int i,u=>∃ t,u=Value.int i t
  | .str x,u=>∃ t,u=Value.str x t
  | .byt b,u=>∃ t,u=Value.bytes b t
  | .flt b,u=>∃ t,u=Value.float b t
  | .ref a,u=>u=Value.ref a
  | .ty n,u=>u=Value.type n
abbrev Vals:List V→List Value→Prop:=Paired RelV
theorem Vals.length {xs:List V} {us:List Value} (r:Vals xs us):xs.length=us.length:=aar r
theorem Vals.get:∀ {xs:List V} {us:List Value} {i:Nat} {x:V},Vals xs us→xs[i]?=some x→∃ u,us[i]?=some u∧RelV x u
  | _,_,_,_,.nil,e=>by simp at e
  | _,_,0,_,.cons r _,e=>by simp at e;subst e;exact ⟨_,rfl,r⟩
  | _,_,i+1,x,.cons _ t,e=>by
    obtain ⟨u,h1,h2⟩:=Vals.get (i:=i) (x:=x) t (by simpa using e);exact ⟨u,by simpa using h1,h2⟩
theorem Vals.set {x:V} {u:Value} (r:RelV x u):∀ {xs:List V} {us:List Value} (i:Nat),Vals xs us→Vals (xs.set i x) (us.set i u)
  | _,_,_,.nil=>.nil
  | _,_,0,.cons _ t=>.cons r t
  | _,_,i+1,.cons q t=>.cons q (Vals.set r i t)
theorem Vals.append {xs ys:List V} {us ws:List Value} (h:Vals xs us) (s:Vals ys ws):Vals (xs++ys) (us++ws):=by
  induction h with
  | nil=>exact s
  | cons r t ih=>exact .cons r ih
theorem Vals.take:∀ {xs:List V} {us:List Value} (n:Nat),Vals xs us→Vals (xs.take n) (us.take n)
  | _,_,0,_=>.nil
  | _,_,_+1,.nil=>.nil
  | _,_,n+1,.cons r t=>.cons r (Vals.take n t)
theorem Vals.drop:∀ {xs:List V} {us:List Value} (n:Nat),Vals xs us→Vals (xs.drop n) (us.drop n)
  | _,_,0,r=>r
  | _,_,_+1,.nil=>.nil
  | _,_,n+1,.cons _ t=>Vals.drop n t
def RelO:Option V→Option Value→Prop
  | some v,some u=>RelV v u
  | none,none=>True
  | _,_=>False
def KV {κ:Type}:List (κ × V)→List (κ × Value)→Prop:=Paired fun (p:κ × V) (q:κ × Value)=>p.1=q.1∧RelV p.2 q.2
def kV:Key→V
  | .inl i=>.int i
  | .inr x=>.str x
inductive HO where
  | lst (xs:List V)
  | tup (xs:List V)
  | dK (kvs:List (Key × V))|dT (kvs:List (List Key × V))
  | set (S:Int→Bool) (n:Nat)
  | ins (C dx:Addr) (fs:List (Str × V))
  | own (x:Addr)
  | xd (fs:List (Str × V))
  | met (f x:Addr)
  | rng (lo hi:Int)
  | frz (o:Obj) (u:HO)
  | tbl (ps:Array Value)
  | ext (φ:Heap→Prop)
abbrev Hp:=Addr→Option HO
def upd (H:Hp) (a:Addr) (o:HO):Hp:=fun b=>if b=a then some o else H b
theorem ad {H:Hp} {a:Addr} {o:HO}:upd H a o a=some o:=by unfold upd;rw [if_pos rfl]
theorem ak {H:Hp} {a b:Addr} {o:HO} (h:b≠a):upd H a o b=H b:=by unfold upd;rw [if_neg h]
theorem oI {H:Hp} {a b:Addr} {o u:HO} (h:H a=some o) (h':H b=some u) (d:o≠u):a≠b:=by
  intro e;subst e;rw [h] at h';exact d (aas h')
theorem aj {H:Hp} {a b:Addr} {o:HO} (h:H a=some o) (h':H b=none):a≠b:=by
  intro e;subst e;rw [h] at h';cases h'
section
variable (P:Program) (w:World)
def ObjOk (H:Hp) (h:Heap) (a:Addr):HO→Prop
  | .lst xs=>xs.length≤sizeLine∧∃ (its:List Value) (n:Nat),Vals xs its∧h.get? a=some { cls:=.type "list",data:=.seq its.toArray n }
  | .tup xs=>xs.length≤sizeLine∧∃ its:List Value,Vals xs its∧IsTup h a its.toArray
  | .dK kvs=>kvs.length≤sizeLine∧(a == sysModules)=false∧∃ vs,KV kvs vs∧h.DictOf (av P w) a vs
  | .dT kvs=>kvs.length≤sizeLine∧(a == sysModules)=false∧∃ xs:List (List Key × Addr × Value),
      Paired (fun (p:List Key × V) (q:List Key × Addr × Value)=>p.1=q.1∧H q.2.1=some (.tup (p.1.map kV))∧RelV p.2 q.2.2) kvs xs ∧
      ∃ o es ep,h.get? a=some o∧o.ExactDict∧o.data=.dict es ep∧es.toList=xs.map (entryOfKey (tupleKind (av P w)))∧(xs.map (·.1)).Nodup
  | .set S n=>h.SetOf (intKind P w) a S n
  | .ins C dx fs=>H dx=some (.own a)∧fs.length≤1000∧dx≠a∧h.get? a=some (PySem.W.instObj C dx) ∧
      ∃ mA,h.Ns1 dx mA∧(∀ f,RelO (fs.lookup f) (mA f))∧PySem.Within mA (fs.map (·.1))
  | .own _=>∃ o,h.get? a=some o
  | .xd fs=>∃ mA,h.Ns1 a mA∧∀ f,RelO (fs.lookup f) (mA f)
  | .rng lo hi=>∃ t u v,h.get? a=some { cls:=.type "range",data:=.fields #[.int lo t,.int hi u,.int 1 v] }
  | .frz o u=>h.get? a=some o∧ObjOk H h a u
  | .tbl ps=>h.get? a=some { cls:=.none,data:=.fields ps }
  | .met f x=>h.get? a=some (PySem.W.methodObj (.ref f) (.ref x))
  | .ext φ=>φ h∧(∃ o,h.get? a=some o)∧∀ h1 h2:Heap,φ h1→(∀ o,h1.get? a=some o→h2.get? a=some o)→φ h2
def HOk (H:Hp) (h:Heap):Prop:=∀ a o,H a=some o→ObjOk P w H h a o
end
section
variable {P:Program} {w:World} {H H':Hp} {h h':Heap} {a:Addr} {o:HO}
theorem ObjOk.lt (x:ObjOk P w H h a o):a < h.objs.size:=by
  cases o with
  | lst xs=>obtain ⟨_,_,_,_,e⟩:=x;exact aan e
  | tup xs=>obtain ⟨_,_,_,p⟩:=x;exact p.lt
  | dK kvs=>obtain ⟨_,_,_,_,o,_,_,e,_⟩:=x;exact aan e
  | dT kvs=>obtain ⟨_,_,_,_,o,_,_,e,_⟩:=x;exact aan e
  | set S n=>obtain ⟨o,_,_,_,e,_⟩:=x;exact aan e
  | ins C dx fs=>obtain ⟨_,_,_,e,_⟩:=x;exact aan e
  | own y=>obtain ⟨_,e⟩:=x;exact aan e
  | xd fs=>obtain ⟨_,⟨_,_,_,e,_⟩,_⟩:=x;exact aan e
  | rng lo hi=>obtain ⟨_,_,_,e⟩:=x;exact aan e
  | frz ob u=>obtain ⟨e,_⟩:=x;exact aan e
  | tbl ps=>exact aan (show h.get? a=some _ from x)
  | met f y=>exact aan (show h.get? a=some _ from x)
  | ext φ=>obtain ⟨_,⟨_,e⟩,_⟩:=x;exact aan e
theorem Paired.mapP {α β:Type} {F G:α→β→Prop} {l₁:List α} {l₂:List β} (h:Paired F l₁ l₂) (f:∀ a b,F a b→G a b):Paired G l₁ l₂:=by
  induction h with
  | nil=>exact .nil
  | cons r t ih=>exact .cons (f _ _ r) ih
theorem ObjOk.stay (x:ObjOk P w H h a o) (k:∀ b u,(b=a∨H b=some (.own a))→h.get? b=some u→h'.get? b=some u)
    (ho:∀ b,H b=some (.own a)→H' b=some (.own a)) (ht:∀ b xs,H b=some (.tup xs)→H' b=some (.tup xs)):ObjOk P w H' h' a o:=by
  induction o with
  | lst xs=>obtain ⟨z,its,n,r,e⟩:=x;exact ⟨z,its,n,r,k _ _ (.inl rfl) e⟩
  | tup xs=>obtain ⟨z,its,r,ob,e,c⟩:=x;exact ⟨z,its,r,ob,k _ _ (.inl rfl) e,c⟩
  | dK kvs=>obtain ⟨z,y,vs,r,ob,es,ep,e,c⟩:=x;exact ⟨z,y,vs,r,ob,es,ep,k _ _ (.inl rfl) e,c⟩
  | dT kvs =>
    obtain ⟨z,y,xs,r,ob,es,ep,e,c⟩:=x;exact ⟨z,y,xs,Paired.mapP r fun p q z=>⟨z.1,ht _ _ z.2.1,z.2.2⟩,ob,es,ep,k _ _ (.inl rfl) e,c⟩
  | set S n=>obtain ⟨ob,es,ep,t,e,c⟩:=x;exact ⟨ob,es,ep,t,k _ _ (.inl rfl) e,c⟩
  | ins C dx fs =>
    obtain ⟨d,z,ne,e,mA,⟨od,es,ep,e2,c⟩,r⟩:=x;exact ⟨ho _ d,z,ne,k _ _ (.inl rfl) e,mA,⟨od,es,ep,k _ _ (.inr d) e2,c⟩,r⟩
  | own y=>obtain ⟨ob,e⟩:=x;exact ⟨ob,k _ _ (.inl rfl) e⟩
  | xd fs=>obtain ⟨mA,⟨od,es,ep,e,c⟩,r⟩:=x;exact ⟨mA,⟨od,es,ep,k _ _ (.inl rfl) e,c⟩,r⟩
  | rng lo hi=>obtain ⟨t,u,v,e⟩:=x;exact ⟨t,u,v,k _ _ (.inl rfl) e⟩
  | frz ob u ih=>obtain ⟨e,q⟩:=x;exact ⟨k _ _ (.inl rfl) e,ih q⟩
  | tbl ps =>
    have e:h.get? a=some { cls:=.none,data:=.fields ps }:=x;show h'.get? a=some { cls:=.none,data:=.fields ps };exact k a _ (.inl rfl) e
  | met f y =>
    have e:h.get? a=some (PySem.W.methodObj (.ref f) (.ref y)):=x;show h'.get? a=some (PySem.W.methodObj (.ref f) (.ref y));exact k a _ (.inl rfl) e
  | ext φ=>obtain ⟨p,⟨o,e⟩,st⟩:=x;exact ⟨st _ _ p fun o q=>k _ _ (.inl rfl) q,⟨o,k _ _ (.inl rfl) e⟩,st⟩
theorem HOk.lt (x:HOk P w H h) (e:H a=some o):a < h.objs.size:=(x a o e).lt
theorem HOk.fresh (x:HOk P w H h) (e:h.objs.size≤a):H a=none:=by
  cases q:H a with
  | none=>rfl
  | some u=>exact absurd (aam (x.lt q) e) (abA _)
theorem HOk.kept (x:HOk P w H h) (k:∀ b u,h.get? b=some u→h'.get? b=some u):HOk P w H h':=fun a o e =>
  (x a o e).stay (fun b u _ q=>k b u q) (fun _ q=>q) fun _ _ q=>q
theorem HOk.laid (x:HOk P w H h) (k:∀ b u,h.get? b=some u→h'.get? b=some u) (hp:h.objs.size≤a) (new:ObjOk P w (upd H a o) h' a o):HOk P w (upd H a o) h':=fun b u e=>by
  have hn:=x.fresh hp;by_cases hb:b=a
  · subst hb;rw [ad] at e;cases e;exact new
  · rw [ak hb] at e;exact (x b u e).stay (fun c v _ q=>k c v q) (fun c q=>by rw [ak (aj q hn)];exact q) fun c xs q=>by rw [ak (aj q hn)];exact q
end
def Rd (H:Hp) (a:Addr) (u:HO):Prop:=H a=some u∨∃ o,H a=some (.frz o u)
theorem Rd.ok {P:Program} {w:World} {H:Hp} {h:Heap} {a:Addr} {u:HO} (r:Rd H a u) (x:HOk P w H h):ObjOk P w H h a u:=by
  rcases r with r|⟨o,r⟩
  · exact x a u r
  · obtain ⟨_,q⟩:=x a _ r;exact q
def Mut:Option HO→Prop
  | some (.lst _)=>True
  | some (.dK _)=>True
  | some (.dT _)=>True
  | some (.set _ _)=>True
  | some (.ins _ _ _)=>True
  | some (.ext _)=>True
  | _=>False
section
variable {P:Program} {w:World} {H:Hp} {h h':Heap} {x e:Addr} {o':HO}
theorem HOk.write (ok:HOk P w H h) (mu:Mut (H x)) (he:e=x∨H e=some (.own x)) (k:∀ b u,b≠e→h.get? b=some u→h'.get? b=some u) (heo:∃ u,h'.get? e=some u)
    (new:ObjOk P w (upd H x o') h' x o'):HOk P w (upd H x o') h':=fun b u q=>by
  have nown:∀ c y,H c=some (.own y)→c≠x:=fun c y r z=>by subst z;rw [r] at mu;exact mu
  have ntup:∀ c xs,H c=some (.tup xs)→c≠x:=fun c xs r z=>by subst z;rw [r] at mu;exact mu
  by_cases hb:b=x
  · subst hb;rw [ad] at q;cases q;exact new
  · rw [ak hb] at q;by_cases hbe:b=e
    · have q':H b=some (.own x):=by
        rcases he with z|z
        · exact absurd (hbe.trans z) hb
        · rw [hbe];exact z
      rw [q] at q';cases q';obtain ⟨v,hv⟩:=heo;exact ⟨v,by rw [hbe];exact hv⟩
    · refine (ok b u q).stay (fun c v hc r=>k c v ?_ r) (fun c r=>by rw [ak (nown c b r)];exact r) fun c xs r=>by rw [ak (ntup c xs r)];exact r
      rcases hc with rfl|hc
      · exact hbe
      · rintro rfl;rcases he with z|z
        · exact nown c b hc z
        · rw [hc] at z;cases z;exact hb rfl
end
structure Un (fs ex:List Addr) (H H':Hp) (h h':Heap):Prop where
  keep:∀ b o,h.get? b=some o→H b=none→b∉fs→b∉ex→h'.get? b=some o
  slot:∀ b o,h.get? b=some o→H b=none→b∈fs→b∉ex→∃ sl,h'.get? b=some { o with slots:=sl }
  free:∀ b o,h.get? b=some o→H b=none→b∉ex→H' b=none
  there:∀ b o,h.get? b=some o→b∉ex→∃ o',h'.get? b=some o'
  tups:∀ b xs,H b=some (.tup xs)→H' b=some (.tup xs)
  frzs:∀ b o u,H b=some (.frz o u)→H' b=some (.frz o u)
  tbls:∀ b ps,H b=some (.tbl ps)→∃ more,H' b=some (.tbl (ps++more))
section
variable {fs fs' ex ex':List Addr} {H H1 H2:Hp} {h h1 h2 h':Heap} {a x e:Addr} {o:HO}
theorem Un.any (u:Un fs ex H H1 h h1) {b:Addr} {ob:Obj} (q:h.get? b=some ob) (n:H b=none) (hx:b∉ex):∃ sl,h1.get? b=some { ob with slots:=sl }:=by
  by_cases hb:b∈fs
  · exact u.slot b ob q n hb hx
  · exact ⟨ob.slots,u.keep b ob q n hb hx⟩
theorem Un.kept (k:∀ b u,h.get? b=some u→h'.get? b=some u):Un fs ex H H h h' :=
  ⟨fun b ob q _ _ _=>k b ob q,fun b ob q _ _ _=>⟨ob.slots,k b ob q⟩,fun _ _ _ n _=>n,fun b ob q _=>⟨ob,k b ob q⟩,fun _ _ q=>q,fun _ _ _ q=>q,fun _ ps q=>⟨#[],by rw [q];simp⟩⟩
theorem Un.refl:Un fs ex H H h h:=Un.kept fun _ _ q=>q
theorem Un.laid (k:∀ b u,h.get? b=some u→h'.get? b=some u) (hp:h.objs.size≤a) (hn:H a=none):Un fs ex H (upd H a o) h h' where
  keep:=fun b u q _ _ _=>k b u q
  slot:=fun b u q _ _ _=>⟨u.slots,k b u q⟩
  free:=fun b u q n _=>by rw [ak (aaz (aam (aan q) hp))];exact n
  there:=fun b u q _=>⟨u,k b u q⟩
  tups:=fun b xs q=>by rw [ak (aj q hn)];exact q
  frzs:=fun b u xs q=>by rw [ak (aj q hn)];exact q
  tbls:=fun b ps q=>⟨#[],by rw [ak (aj q hn),q];simp⟩
theorem Un.write (mu:Mut (H x)) (he:e=x∨H e=some (.own x)) (k:∀ b u,b≠e→h.get? b=some u→h'.get? b=some u) (heo:∃ u,h'.get? e=some u):Un fs ex H (upd H x o) h h':=by
  have hx:∀ b,H b=none→b≠x:=fun b n z=>by subst z;rw [n] at mu;exact mu
  have hb:∀ b,H b=none→b≠e:=fun b n z=>by
    subst z;rcases he with r|r
    · exact hx b n r
    · rw [n] at r;cases r
  have hm:∀ b u,H b=some u→¬ Mut (some u)→b≠x:=fun b u q nm z=>by subst z;rw [q] at mu;exact nm mu
  refine ⟨fun b u q n _ _=>k b u (hb b n) q,fun b u q n _ _=>⟨u.slots,k b u (hb b n) q⟩,fun b u q n _=>by rw [ak (hx b n)];exact n,fun b u q _=>?_,
    fun b xs q=>by rw [ak (hm b _ q fun z=>z)];exact q,fun b u xs q=>by rw [ak (hm b _ q fun z=>z)];exact q,fun b ps q=>⟨#[],by rw [ak (hm b _ q fun z=>z),q];simp⟩⟩
  by_cases hbe:b=e
  · subst hbe;exact heo
  · exact ⟨u,k b u hbe q⟩
end
def trk (h:Heap) (H:Hp):List Addr:=(abd h.objs.size).filter fun a=>(H a).isSome
def iV (h:Heap) (H:Hp):Heap:=PySem.W.hideAll h (trk h H)
theorem nH (h:Heap) (H:Hp):(iV h H).objs.size=h.objs.size:=PySem.W.hideAll_size _ _
theorem oV {h:Heap} {H:Hp} {b:Addr} {o:Obj} (e:h.get? b=some o) (n:H b=none):(iV h H).get? b=some o :=
  PySem.W.hideAll_get _ e fun hm=>by
    have q:(H b).isSome=true:=(acD.mp hm).2;rw [n] at q;simp at q
theorem qc {h:Heap} {H:Hp} {b:Addr} {o:Obj} (e:(iV h H).get? b=some o):h.get? b=some o∧H b=none:=by
  have e':h.get? b=some o:=PySem.W.of_hideAll (trk h H) e;refine ⟨e',?_⟩;cases q:H b with
  | none=>rfl
  | some x =>
    have hm:b∈trk h H:=List.mem_filter.mpr ⟨aaH.mpr (aan e'),by simp [q]⟩;have z:(iV h H).get? b=none:=PySem.W.hideAll_none (trk h H) hm;rw [z] at e;cases e
def qt (g h:Heap) (L:Addr):List (Addr × Obj):=(abd h.objs.size).filterMap fun a=>if a=L∨(g.get? a).isSome=true then none else (h.get? a).map fun o=>(a,o)
def rest (g h:Heap) (L d:Addr):List (Addr × Obj):=(qt g h L).filter fun p=>decide (p.1≠d)
open PySem PySem.Spec PyProof.Rows
structure Mod (K:aaa) (mg:Str→Option Value) (base:Heap):Prop where
  kin:K.In base
  glob:base.Ns mainGlobals mg
  blt:∃ mb,base.Ns builtinsNs mb∧∀ x:Str,x ≠ "__name__"→mb x=bootBuiltins x
  nolimit:base.NoLimit
  sysm:∃ mm,base.Ns sysModules mm
structure Cx where
  prog:Program
  w:World
  K:aaa
  mg:Str→Option Value
  base:Heap
  A:Around
  N:List Str
  s₀:Shared
  H₀:Hp
  env:Env
  outer:List Env
  stack:List Env
  ex:List Addr
  fn:Str→Bool
  calm:Bool
  pn:List (Addr × Obj)
  xe:Value→Shared→Prop
def frs (l:List Env):List Addr:=l.filterMap (·.frame)
abbrev Cx.fs (X:Cx):List Addr:=frs X.outer
def Vis (sc:Scope) (x:Str):Prop:=sc.names.lookup x=some .local∨sc.names.lookup x=some .cell∨sc.names.lookup x=some .free
def Loc (sc:Scope) (x:Str):Prop:=sc.names.lookup x=some .local∨sc.names.lookup x=some .cell
def tw (env:Env) (h:Heap) (m:Str→Option Value) (x:Str) (u:Value):Prop :=
  (env.kindOf x=some .local∧m x=some u)∨((env.kindOf x=some .cell∨env.kindOf x=some .free)∧∃ c,env.cells.lookup x=some c∧h.IsCell c (some u))
structure Cx.Ok (X:Cx):Prop where
  mod:Mod X.K X.mg X.base
  kind:X.env.scope.kind=.function
  glob:X.env.globals=mainGlobals
  blt:X.env.builtins=builtinsNs
  above:X.s₀.heap.objs.size≤X.env.locals
  inj:∀ x y c,X.env.cells.lookup x=some c→X.env.cells.lookup y=some c→x=y
  has:∀ x,(X.env.kindOf x=some .cell∨X.env.kindOf x=some .free)→∃ c,X.env.cells.lookup x=some c
  cab:∀ x c,X.fn x=true→X.env.cells.lookup x=some c→X.s₀.heap.objs.size≤c
  hd:X.calm=true→X.A.handled=none
  frames:X.A.frames=some X.stack
  stk:X.stack=X.outer∨(X.stack=X.env :: X.outer∧X.env.frame=some X.env.locals)
  exf:∀ b∈X.ex,b≠X.env.locals∧∀ x c,X.env.cells.lookup x=some c→c≠b
  bs:∀ b o,X.base.get? b=some o→X.s₀.heap.get? b=some o∧X.H₀ b=none
  bsz:X.base.objs.size≤X.s₀.heap.objs.size
  noex:∀ b o,X.base.get? b=some o→b∉X.ex
  exfs:∀ b∈X.ex,b∉X.fs
  funs:X.s₀.heap.FunFrames X.base X.outer
  frf:∀ b∈X.fs,X.H₀ b=none
structure Inv (X:Cx) (pins:List (Addr × Obj)) (σ:List (Option V)) (H:Hp) (s:Shared):Prop where
  ok:X.Ok
  os:s.os=X.s₀.os
  bare:AllBare s.gens
  base:Un X.fs X.ex X.H₀ H X.s₀.heap s.heap
  loc:∃ m,s.heap.Ns X.env.locals m∧∀ (i:Nat) (x:Str) (v:V),X.N[i]?=some x→σ[i]?=some (some v)→Vis X.env.scope x→∃ u,RelV v u∧tw X.env s.heap m x u
  cell:∀ x c,X.env.cells.lookup x=some c→∃ v,s.heap.IsCell c v
  free:H X.env.locals=none
  freeC:∀ x c,X.env.cells.lookup x=some c→H c=none
  pin:∀ p∈X.pn++pins,s.heap.get? p.1=some p.2∧H p.1=none∧p.1≠X.env.locals∧p.1∉X.fs∧∀ v,p.2.data≠.cell v
  hok:HOk X.prog X.w H s.heap
  len:σ.length=X.N.length
section
variable {X:Cx} {pins:List (Addr × Obj)} {σ:List (Option V)} {H H':Hp} {s:Shared} {h':Heap}
theorem Cx.Ok.nofr (ok:X.Ok) {b:Addr} {o:Obj} (e:X.base.get? b=some o):b∉X.fs:=fun hb=>by
  have:=(ok.funs.mem hb).1;rw [e] at this;cases this
theorem Inv.bs (I:Inv X pins σ H s):∀ b o,X.base.get? b=some o→s.heap.get? b=some o∧H b=none:=fun b o e =>
  ⟨I.base.keep b o (I.ok.bs b o e).1 (I.ok.bs b o e).2 (I.ok.nofr e) (I.ok.noex b o e),I.base.free b o (I.ok.bs b o e).1 (I.ok.bs b o e).2 (I.ok.noex b o e)⟩
theorem Inv.bk (I:Inv X pins σ H s):∀ b o,X.base.get? b=some o→s.heap.get? b=some o:=fun b o e=>(I.bs b o e).1
theorem Inv.mod (I:Inv X pins σ H s):Mod X.K X.mg X.base:=I.ok.mod
theorem Inv.kIn (I:Inv X pins σ H s):X.K.In s.heap:=I.ok.mod.kin.keeps I.bk
theorem Inv.lt (I:Inv X pins σ H s):X.env.locals < s.heap.objs.size:=let ⟨_,hn,_⟩:=I.loc;hn.lt
theorem Inv.sz (I:Inv X pins σ H s):X.s₀.heap.objs.size≤s.heap.objs.size:=aaG I.ok.above (abz I.lt)
theorem Inv.nofs (I:Inv X pins σ H s) {a:Addr} (h:s.heap.objs.size≤a):a∉X.fs:=fun hb=>by
  obtain ⟨_,o,ho,_⟩:=I.ok.funs.mem hb;exact absurd (aam (aan ho) (aaG I.sz h)) (abA _)
theorem Inv.cne (I:Inv X pins σ H s):∀ x c,X.env.cells.lookup x=some c→c≠X.env.locals:=fun x c e z=>by
  obtain ⟨v,o,ho,hd⟩:=I.cell x c e;obtain ⟨m,⟨o',es,ep,ho',hd',_⟩,_⟩:=I.loc;rw [z,ho'] at ho;cases ho;rw [hd'] at hd;cases hd
theorem Inv.funs (I:Inv X pins σ H s):s.heap.FunFrames X.base X.outer:=by
  have all:∀ (l:List Env),(∀ b∈frs l,b∈X.fs)→X.s₀.heap.FunFrames X.base l→s.heap.FunFrames X.base l:=by
    intro l
    induction l with
    | nil=>intro _ _;trivial
    | cons env r ih =>
      intro hs hl;obtain ⟨hk,⟨L,o,hf,hn,ho,hd⟩,hr⟩:=hl;have hL:L∈X.fs:=hs L (by unfold frs;rw [List.filterMap_cons,hf];exact aaq);obtain ⟨sl,e⟩:=I.base.slot L o ho (I.ok.frf L hL) hL fun z=>I.ok.exfs L z hL;exact ⟨hk,⟨L,_,hf,hn,e,hd⟩,ih (fun b hb=>hs b (by unfold frs;rw [List.filterMap_cons,hf];exact aak _ hb)) hr⟩
  exact all X.outer (fun _ hb=>hb) I.ok.funs
theorem Inv.stack (I:Inv X pins σ H s):s.heap.FunFrames X.base X.stack:=by
  rcases I.ok.stk with e|⟨e,hf⟩
  · rw [e];exact I.funs
  · rw [e];obtain ⟨m,hn,_⟩:=I.loc;refine .cons (by rw [I.ok.kind];decide) hf hn ?_ I.funs;exact Heap.get?_none_of_le (aaG I.ok.bsz I.ok.above)
theorem Inv.stkSub (I:Inv X pins σ H s):∀ b∈frs X.stack,b∈X.env.locals :: X.fs:=fun b hb=>by
  rcases I.ok.stk with e|⟨e,hf⟩
  · rw [e] at hb;exact aak _ hb
  · rw [e] at hb;unfold frs at hb;rw [List.filterMap_cons,hf] at hb;exact hb
theorem Inv.stkFree (I:Inv X pins σ H s):∀ b∈frs X.stack,H b=none:=fun b hb=>by
  rcases aai.mp (I.stkSub b hb) with e|hb
  · rw [e];exact I.free
  · obtain ⟨_,o,ho,_⟩:=I.ok.funs.mem hb;exact I.base.free b o ho (I.ok.frf b hb) fun z=>I.ok.exfs b z hb
theorem Inv.step {g':Array GenState} {t':Nat} {d':Drawn} {ch:List Addr} (I:Inv X pins σ H s)
    (hch:∀ b∈ch,(b∈X.ex∨X.s₀.heap.objs.size≤b)∧b≠X.env.locals∧(∀ x c,X.env.cells.lookup x=some c→c≠b)∧∀ p∈X.pn++pins,p.1≠b)
    (keep:∀ b o,b≠X.env.locals→b∉X.fs→b∉ch→s.heap.get? b=some o→H b=none→h'.get? b=some o)
    (slot:∀ b o,b≠X.env.locals→b∈X.fs→b∉ch→s.heap.get? b=some o→H b=none→∃ sl,h'.get? b=some { o with slots:=sl }) (free:∀ b o,b∉ch→s.heap.get? b=some o→H b=none→H' b=none)
    (there:∀ b o,b∉ch→s.heap.get? b=some o→∃ o',h'.get? b=some o')
    (tups:∀ b xs,H b=some (.tup xs)→H' b=some (.tup xs)) (frzs:∀ b o u,H b=some (.frz o u)→H' b=some (.frz o u)) (tbls:∀ b ps,H b=some (.tbl ps)→∃ more,H' b=some (.tbl (ps++more)))
    (ns:∀ m,s.heap.Ns X.env.locals m→h'.Ns X.env.locals m) (hok:HOk X.prog X.w H' h') (hg:AllBare g') :
    Inv X pins σ H' { s with heap:=h',gens:=g',drawn:=d',toks:=t' }:=by
  have neL:∀ b o,X.s₀.heap.get? b=some o→b≠X.env.locals:=fun b o e=>aaz (aam (aan e) I.ok.above);have neC:∀ b o,X.s₀.heap.get? b=some o→b∉X.ex→b∉ch:=fun b o e hx hb=>by
    rcases (hch b hb).1 with z|z
    · exact hx z
    · exact absurd (aam (aan e) z) (abA _)
  have cellK:∀ x c,X.env.cells.lookup x=some c→∀ v,s.heap.IsCell c v→h'.IsCell c v:=fun x c e v ⟨o,ho,hd⟩=>by
    have nch:c∉ch:=fun z=>(hch c z).2.2.1 x c e rfl;by_cases hc:c∈X.fs
    · obtain ⟨sl,q⟩:=slot c o (I.cne x c e) hc nch ho (I.freeC x c e);exact ⟨_,q,hd⟩
    · exact ⟨o,keep c o (I.cne x c e) hc nch ho (I.freeC x c e),hd⟩
  refine ⟨I.ok,I.os,hg,⟨fun b o e n hb hx=>?_,fun b o e n hb hx=>?_,fun b o e n hx=>?_,fun b o e hx=>?_,fun b xs e=>tups b xs (I.base.tups b xs e),fun b o xs e=>frzs b o xs (I.base.frzs b o xs e),fun b ps e=>?_⟩,?_,fun x c e=>?_,?_,fun x c e=>?_,fun p hp=>?_,hok,I.len⟩
  · exact keep b o (neL b o e) hb (neC b o e hx) (I.base.keep b o e n hb hx) (I.base.free b o e n hx)
  · obtain ⟨sl,e1⟩:=I.base.slot b o e n hb hx;obtain ⟨sl',e2⟩:=slot b _ (neL b o e) hb (neC b o e hx) e1 (I.base.free b o e n hx);exact ⟨sl',e2⟩
  · obtain ⟨o',e1⟩:=I.base.there b o e hx;exact free b o' (neC b o e hx) e1 (I.base.free b o e n hx)
  · obtain ⟨o',e1⟩:=I.base.there b o e hx;exact there b o' (neC b o e hx) e1
  · obtain ⟨m1,e1⟩:=I.base.tbls b ps e;obtain ⟨m2,e2⟩:=tbls b _ e1;exact ⟨m1++m2,by rw [e2,Array.append_assoc]⟩
  · obtain ⟨m,hn,hl⟩:=I.loc;refine ⟨m,ns m hn,fun i x v e1 e2 e3=>?_⟩;obtain ⟨u,r,l⟩:=hl i x v e1 e2 e3;refine ⟨u,r,?_⟩;rcases l with l|⟨k,c,e,z⟩
    · exact .inl l
    · exact .inr ⟨k,c,e,cellK x c e _ z⟩
  · obtain ⟨v,z⟩:=I.cell x c e;exact ⟨v,cellK x c e v z⟩
  · obtain ⟨m,⟨o,_,_,ho,_⟩,_⟩:=I.loc;exact free _ o (fun z=>(hch _ z).2.1 rfl) ho I.free
  · obtain ⟨v,o,ho,hd⟩:=I.cell x c e;exact free c o (fun z=>(hch c z).2.2.1 x c e rfl) ho (I.freeC x c e)
  · obtain ⟨e,n,ne,nf,d⟩:=I.pin p hp;have nch:p.1∉ch:=fun z=>(hch p.1 z).2.2.2 p hp rfl;exact ⟨keep p.1 p.2 ne nf nch e n,free p.1 p.2 nch e n,ne,nf,d⟩
theorem Inv.un {t':Nat} (I:Inv X pins σ H s) (u:Un X.fs [] H H' s.heap h') (hok:HOk X.prog X.w H' h'):Inv X pins σ H' { s with heap:=h',toks:=t' }:=by
  obtain ⟨m,⟨o,es,ep,ho,r⟩,_⟩:=id I.loc;obtain ⟨sl,hL⟩:=u.any ho I.free (by simp);exact I.step (g':=s.gens) (d':=s.drawn) (ch:=[]) (fun _ z=>nomatch z) (fun b o _ hb _ e n=>u.keep b o e n hb (by simp)) (fun b o _ hb _ e n=>u.slot b o e n hb (by simp)) (fun b o _ e n=>u.free b o e n (by simp)) (fun b o _ e=>u.there b o e (by simp)) u.tups u.frzs u.tbls (fun m' hm=>by
    obtain ⟨o',es',ep',ho',r'⟩:=hm;rw [ho] at ho';cases ho';exact ⟨_,es',ep',hL,r'⟩) hok I.bare
theorem Inv.call {g':Array GenState} {t':Nat} {d':Drawn} {ch:List Addr} (I:Inv X pins σ H s) (u:Un (frs X.stack) ch H H' s.heap h') (hok:HOk X.prog X.w H' h') (hg:AllBare g')
    (hch:∀ b∈ch,(b∈X.ex∨X.s₀.heap.objs.size≤b)∧b≠X.env.locals∧(∀ x c,X.env.cells.lookup x=some c→c≠b)∧∀ p∈X.pn++pins,p.1≠b) :
    Inv X pins σ H' { s with heap:=h',gens:=g',drawn:=d',toks:=t' }:=by
  obtain ⟨m,⟨o,es,ep,ho,r⟩,_⟩:=id I.loc;obtain ⟨sl,hL⟩:=u.any ho I.free fun z=>(hch _ z).2.1 rfl;exact I.step (ch:=ch) hch (fun b o hL hb hc e n=>u.keep b o e n (fun z=>(aai.mp (I.stkSub b z)).elim hL hb) hc) (fun b o _ _ hc e n=>u.any e n hc) (fun b o hc e n=>u.free b o e n hc) (fun b o hc e=>u.there b o e hc) u.tups u.frzs u.tbls (fun m' hm=>by
    obtain ⟨o',es',ep',ho',r'⟩:=hm;rw [ho] at ho';cases ho';exact ⟨_,es',ep',hL,r'⟩) hok hg
theorem Inv.turned {t':Nat} {it:Addr} (I:Inv X pins σ H s) (k:∀ b o,b≠it→s.heap.get? b=some o→h'.get? b=some o) (hn:H it=none) (hL:it≠X.env.locals)
    (h1:it∈X.ex∨X.s₀.heap.objs.size≤it) (h2:∀ x c,X.env.cells.lookup x=some c→c≠it) (h3:∀ p∈X.pn++pins,p.1≠it):Inv X pins σ H { s with heap:=h',toks:=t' }:=by
  have nit:∀ b u,H b=some u→b≠it:=fun b u e z=>by rw [z,hn] at e;cases e
  refine I.step (g':=s.gens) (d':=s.drawn) (ch:=[it]) (fun b hb=>?_) (fun b o _ _ hc e _=>k b o (fun z=>hc (by simp [z])) e) (fun b o _ _ hc e _=>⟨o.slots,k b o (fun z=>hc (by simp [z])) e⟩) (fun _ _ _ _ n=>n)
    (fun b o hc e=>⟨o,k b o (fun z=>hc (by simp [z])) e⟩) (fun _ _ e=>e) (fun _ _ _ e=>e) (fun b ps e=>⟨#[],by rw [e];simp⟩) (fun m hm=>?_) (fun b u e=>?_) I.bare
  · have e:b=it:=by simpa using hb
    subst e;exact ⟨h1,hL,h2,h3⟩
  · obtain ⟨o,es,ep,ho,r⟩:=hm;exact ⟨o,es,ep,k _ o (abF hL) ho,r⟩
  · refine (I.hok b u e).stay (fun c v hc q=>k c v ?_ q) (fun _ q=>q) fun _ _ q=>q;rcases hc with z|z
    · rw [z];exact nit b u e
    · exact nit c _ z
theorem Inv.tok (I:Inv X pins σ H s) (t:Nat):Inv X pins σ H { s with toks:=t }:=I.un (h':=s.heap) (t':=t) Un.refl I.hok
theorem Inv.kept {t':Nat} (I:Inv X pins σ H s) (k:∀ b u,s.heap.get? b=some u→h'.get? b=some u):Inv X pins σ H { s with heap:=h',toks:=t' }:=I.un (Un.kept k) (I.hok.kept k)
theorem Inv.laid {a:Addr} {o:HO} {t':Nat} (I:Inv X pins σ H s) (k:∀ b u,s.heap.get? b=some u→h'.get? b=some u) (hp:s.heap.objs.size≤a) (new:ObjOk X.prog X.w (upd H a o) h' a o) :
    Inv X pins σ (upd H a o) { s with heap:=h',toks:=t' }:=I.un (Un.laid k hp (I.hok.fresh hp)) (I.hok.laid k hp new)
theorem Inv.write {x e:Addr} {o:HO} {t':Nat} (I:Inv X pins σ H s) (mu:Mut (H x)) (he:e=x∨H e=some (.own x)) (k:∀ b u,b≠e→s.heap.get? b=some u→h'.get? b=some u) (heo:∃ u,h'.get? e=some u)
    (new:ObjOk X.prog X.w (upd H x o) h' x o):Inv X pins σ (upd H x o) { s with heap:=h',toks:=t' }:=I.un (Un.write mu he k heo) (I.hok.write mu he k heo new)
theorem Inv.pins_of {pins':List (Addr × Obj)} (I:Inv X pins σ H s) (h:∀ p∈pins',s.heap.get? p.1=some p.2∧H p.1=none∧p.1≠X.env.locals∧p.1∉X.fs∧∀ v,p.2.data≠.cell v):Inv X pins' σ H s :=
  ⟨I.ok,I.os,I.bare,I.base,I.loc,I.cell,I.free,I.freeC,fun p hp=>(aax.mp hp).elim (fun z=>I.pin p (aaT _ z)) (h p),I.hok,I.len⟩
theorem jO {N:List Str} (hN:N.Nodup) {i j:Nat} {x:Str} (a:N[i]?=some x) (b:N[j]?=some x):i=j:=by
  obtain ⟨h1,e1⟩:=aaK.mp a;obtain ⟨h2,e2⟩:=aaK.mp b;exact (List.getElem_inj hN).mp (e1.trans e2.symm)
theorem mT {M:Model} {A:Around} {E:Value→Shared→Prop} {i:Nat} {x:Str} {v:V} {u:Value} {Q:Unit→Shared→Prop} (I:Inv X pins σ H s) (hN:X.N.Nodup) (hi:X.N[i]?=some x) (hx:Loc X.env.scope x) (r:RelV v u)
    (h:∀ s',Inv X pins (σ.set i (some v)) H s'→(∃ a,aaU a s.heap s'.heap∧(a=X.env.locals∨X.env.cells.lookup x=some a))→Q () s') (hf:X.fn x=true∨X.env.scope.names.lookup x=some .local:=by first|exact .inl rfl|exact .inr rfl|assumption):wpAny M A (storeName X.env x u) Q E s:=by
  obtain ⟨m,hn,hl⟩:=id I.loc;have hcls:(X.env.scope.kind == .class || (X.env.scope.kind == .module && X.env.locals != X.env.globals))=false:=by rw [I.ok.kind];rfl
  have hiσ:i < σ.length:=by rw [I.len];exact (aaK.mp hi).1
  have cne:=I.cne;have tracked:∀ {a:Addr} {h':Heap},(∃ o,s.heap.get? a=some o∧H a=none)→aaU a s.heap h'→HOk X.prog X.w H h':=fun {a h'} ha hs b ob e=>by
    obtain ⟨_,_,hfree⟩:=ha;refine (I.hok b ob e).stay (fun c w' hc q=>(hs.2 c ?_).trans q) (fun _ q=>q) fun _ _ q=>q;rintro rfl;rcases hc with rfl|hc
    · rw [hfree] at e;cases e
    · rw [hfree] at hc;cases hc
  rcases hx with hk|hk
  · refine wpAny_storeName_local hk hn (fun h' hn' hs=>?_) hcls;obtain ⟨oL,_,_,hoL,_⟩:=id hn;refine h _ ⟨I.ok,I.os,I.bare,⟨fun b o e n hb hx=>?_,fun b o e n hb hx=>?_,I.base.free,fun b o e hx=>?_,I.base.tups,I.base.frzs,I.base.tbls⟩,⟨_,hn',fun j y v' e1 e2 e3=>?_⟩,fun y c e=>?_,I.free,I.freeC,fun p hp=>?_,tracked ⟨oL,hoL,I.free⟩ hs,by simpa using I.len⟩ ⟨_,hs,.inl rfl⟩
    · exact (hs.2 b (aaz (aam (aan e) I.ok.above))).trans (I.base.keep b o e n hb hx)
    · obtain ⟨sl,e1⟩:=I.base.slot b o e n hb hx;exact ⟨sl,(hs.2 b (aaz (aam (aan e) I.ok.above))).trans e1⟩
    · obtain ⟨o',e1⟩:=I.base.there b o e hx;exact ⟨o',(hs.2 b (aaz (aam (aan e) I.ok.above))).trans e1⟩
    · by_cases hj:j=i
      · subst hj;rw [hi] at e1;cases e1;rw [List.getElem?_set_self hiσ] at e2;cases e2;exact ⟨u,r,.inl ⟨hk,by simp⟩⟩
      · rw [List.getElem?_set_ne (abF hj)] at e2;obtain ⟨u',r',q⟩:=hl j y v' e1 e2 e3;refine ⟨u',r',?_⟩;rcases q with ⟨k,e⟩|⟨k,c,e,z⟩
        · refine .inl ⟨k,?_⟩;have : y≠x:=fun e=>hj (jO hN e1 (e ▸ hi));simp [this,e]
        · exact .inr ⟨k,c,e,z.sameBut hs (cne y c e)⟩
    · obtain ⟨w',z⟩:=I.cell y c e;exact ⟨w',z.sameBut hs (cne y c e)⟩
    · obtain ⟨e,n,ne,nf,d⟩:=I.pin p hp;exact ⟨(hs.2 p.1 ne).trans e,n,ne,nf,d⟩
  · have hfn:X.fn x=true:=by
      rcases hf with z|z
      · exact z
      · rw [z] at hk;cases hk
    obtain ⟨c,hc⟩:=I.ok.has x (.inl hk);obtain ⟨w',z⟩:=I.cell x c hc;refine wpAny_storeName_cell I.ok.kind hk hc z (fun h' hc' hs=>?_);obtain ⟨oc,hoc,hocd⟩:=id z;refine h { s with heap:=h' } ⟨I.ok,I.os,I.bare,⟨fun b o e n hb hx=>?_,fun b o e n hb hx=>?_,I.base.free,fun b o e hx=>?_,I.base.tups,I.base.frzs,I.base.tbls⟩,⟨m,hn.sameBut hs (abF (cne x c hc)),fun j y v' e1 e2 e3=>?_⟩,fun y c' e=>?_,I.free,I.freeC,fun p hp=>?_,tracked ⟨oc,hoc,I.freeC x c hc⟩ hs,by simpa using I.len⟩ ⟨c,hs,.inr hc⟩
    · exact (hs.2 b (aaz (aam (aan e) (I.ok.cab x c hfn hc)))).trans (I.base.keep b o e n hb hx)
    · obtain ⟨sl,e1⟩:=I.base.slot b o e n hb hx;exact ⟨sl,(hs.2 b (aaz (aam (aan e) (I.ok.cab x c hfn hc)))).trans e1⟩
    · obtain ⟨o',e1⟩:=I.base.there b o e hx;exact ⟨o',(hs.2 b (aaz (aam (aan e) (I.ok.cab x c hfn hc)))).trans e1⟩
    · by_cases hj:j=i
      · subst hj;rw [hi] at e1;cases e1;rw [List.getElem?_set_self hiσ] at e2;cases e2;exact ⟨u,r,.inr ⟨.inl hk,c,hc,hc'⟩⟩
      · rw [List.getElem?_set_ne (abF hj)] at e2;obtain ⟨u',r',q⟩:=hl j y v' e1 e2 e3;refine ⟨u',r',?_⟩;rcases q with q|⟨k,c',e,z'⟩
        · exact .inl q
        · refine .inr ⟨k,c',e,z'.sameBut hs ?_⟩;rintro rfl;exact hj (jO hN e1 (I.ok.inj _ _ _ e hc ▸ hi))
    · by_cases hcc:c'=c
      · subst hcc;exact ⟨_,hc'⟩
      · obtain ⟨w2,z2⟩:=I.cell y c' e;exact ⟨w2,z2.sameBut hs hcc⟩
    · obtain ⟨e,n,ne,nf,d⟩:=I.pin p hp;refine ⟨(hs.2 p.1 ?_).trans e,n,ne,nf,d⟩;intro q;rw [q,hoc] at e;have q':oc=p.2:=aas e;exact d w' (by rw [← q'];exact hocd)
theorem jd {M:Model} {A:Around} {E:Value→Shared→Prop} {i:Nat} {x:Str} {v:V} {u:Value} {Q:Unit→Shared→Prop} (I:Inv X pins σ H s) (hN:X.N.Nodup) (hi:X.N[i]?=some x) (hx:Loc X.env.scope x) (r:RelV v u)
    (h:∀ s',Inv X pins (σ.set i (some v)) H s'→Q () s') (hf:X.fn x=true∨X.env.scope.names.lookup x=some .local:=by first|exact .inl rfl|exact .inr rfl|assumption):wpAny M A (storeName X.env x u) Q E s :=
  mT I hN hi hx r (fun s' I' _=>h s' I') hf
theorem Inv.call' {s':Shared} {ch:List Addr} (I:Inv X pins σ H s) (ho:s'.os=s.os) (u:Un (frs X.stack) ch H H' s.heap s'.heap) (hok:HOk X.prog X.w H' s'.heap) (hg:AllBare s'.gens)
    (hch:∀ b∈ch,(b∈X.ex∨X.s₀.heap.objs.size≤b)∧b≠X.env.locals∧(∀ x c,X.env.cells.lookup x=some c→c≠b)∧∀ p∈X.pn++pins,p.1≠b):Inv X pins σ H' s':=by
  obtain ⟨h',g',d',t',o'⟩:=s';have e:o'=s.os:=ho;subst e;exact I.call (g':=g') (t':=t') (d':=d') u hok hg hch
end
abbrev XK:=Value→Option Addr→Hp→Prop
abbrev St:=List (Option V)
abbrev VK:=V→Hp→Prop
abbrev TE:=St→Hp→VK→Prop
abbrev TT:=St→Hp→(Bool→Hp→Prop)→Prop
abbrev TA:=St→Hp→(List V→Hp→Prop)→Prop
structure Ends where
  nx:St→Hp→Prop
  rt:VK
  bk:St→Hp→Prop:=fun _ _=>False
  ct:St→Hp→Prop:=fun _ _=>False
abbrev TS:=Ends→St→Hp→Prop
def EP (X:Cx) (pins:List (Addr × Obj)) (σ:St) (Q:VK) (u:Value) (s':Shared):Prop:=∃ v H',Inv X pins σ H' s'∧RelV v u∧Q v H'
def TP (X:Cx) (pins:List (Addr × Obj)) (σ:St) (Q:Bool→Hp→Prop) (b:Bool) (s':Shared):Prop:=∃ H',Inv X pins σ H' s'∧Q b H'
def AP (X:Cx) (pins:List (Addr × Obj)) (σ:St) (Q:List V→Hp→Prop) (us:List Value) (s':Shared):Prop:=∃ vs H',Inv X pins σ H' s'∧Vals vs us∧Q vs H'
def SP (X:Cx) (pins:List (Addr × Obj)) (D:Ends) (f:Flow) (s':Shared):Prop :=
  match f with
  | .next=>∃ σ' H',Inv X pins σ' H' s'∧D.nx σ' H'
  | .brk=>∃ σ' H',Inv X pins σ' H' s'∧D.bk σ' H'
  | .cont=>∃ σ' H',Inv X pins σ' H' s'∧D.ct σ' H'
  | .ret u=>∃ v σ' H',Inv X pins σ' H' s'∧RelV v u∧D.rt v H'
def PE (X:Cx) (e:Expr) (t:TE):Prop :=
  ∀ (pins:List (Addr × Obj)) (s:Shared) (σ:St) (H:Hp) (Q:VK),Inv X pins σ H s→t σ H Q→wpAny (model X.prog X.w) X.A (eval e X.env) (EP X pins σ Q) X.xe s
def PT (X:Cx) (e:Expr) (t:TT):Prop :=
  ∀ (pins:List (Addr × Obj)) (s:Shared) (σ:St) (H:Hp) (Q:Bool→Hp→Prop),Inv X pins σ H s→t σ H Q→wpAny (model X.prog X.w) X.A (isTrue e X.env (eval e X.env)) (TP X pins σ Q) X.xe s
def PW (X:Cx) (e:Expr) (t:TT):Prop :=
  ∀ (whole:Sem Value) (pins:List (Addr × Obj)) (s:Shared) (σ:St) (H:Hp) (Q:Bool→Hp→Prop),Inv X pins σ H s→t σ H Q→wpAny (model X.prog X.w) X.A (isTrue e X.env whole) (TP X pins σ Q) X.xe s
theorem PW.pt {X:Cx} {e:Expr} {t:TT} (h:PW X e t):PT X e t:=h _
def PA (X:Cx) (es:List Expr) (t:TA):Prop :=
  ∀ (pos:Pos) (pins:List (Addr × Obj)) (s:Shared) (σ:St) (H:Hp) (Q:List V→Hp→Prop),Inv X pins σ H s→t σ H Q→wpAny (model X.prog X.w) X.A (spliced (backTo pos (starEach es X.env))) (AP X pins σ Q) X.xe s
def PS (X:Cx) (st:Stmt) (t:TS):Prop :=
  ∀ (pins:List (Addr × Obj)) (s:Shared) (σ:St) (H:Hp) (D:Ends),Inv X pins σ H s→t D σ H→wpAny (model X.prog X.w) X.A (exec st X.env) (SP X pins D) X.xe s
def PSs (X:Cx) (st:List Stmt) (t:TS):Prop :=
  ∀ (pins:List (Addr × Obj)) (s:Shared) (σ:St) (H:Hp) (D:Ends),Inv X pins σ H s→t D σ H→wpAny (model X.prog X.w) X.A (execs st X.env) (SP X pins D) X.xe s
theorem thn {α:Type} {t:Sem α} {Q Q':α→Shared→Prop} {M:Model} {A:Around} {E:Value→Shared→Prop} {s:Shared} (h:wpAny M A t Q E s) (hQ:∀ a s,Q a s→Q' a s):wpAny M A t Q' E s:=wpAny_mono h hQ fun _ _ x=>x
open PySem PySem.Spec PyProof.Rows
section
variable {X:Cx}
def rS (i:Nat):TE:=fun σ H Q=>∃ v,σ[i]?=some (some v)∧Q v H
def tC (v:V):TE:=fun _ H Q=>Q v H
theorem qU {i:Nat} {x:Str} {pos:Pos} (hN:X.N[i]?=some x) (hv:Vis X.env.scope x) (hd:(x == ("__debug__":Str))=false:=by decide) (hcd:(x == ("__classdict__":Str))=false:=by decide):PE X (.Name x pos) (rS i):=by
  intro pins s σ H Q I h;obtain ⟨v,e,h⟩:=h;obtain ⟨m,hn,hl⟩:=I.loc;obtain ⟨u,r,l⟩:=hl i x v hN e hv;have fin:EP X pins σ Q u s:=⟨v,H,I,r,h⟩
  rcases l with ⟨hk,hm⟩|⟨hk,c,hc,hcell⟩
  · exact wpAny_Name (wpAny_loadName_local I.ok.kind hk hn hm fin) hd
  · rcases hk with hk|hk
    · exact wpAny_Name (wpAny_loadName_cell I.ok.kind hk hc hcell fin) hd
    · exact wpAny_Name (wpAny_loadName_free I.ok.kind hk hc hcell fin hcd) hd
theorem ae {i j pos}:PE X (.Constant (.int i) j pos) (tC (.int i)):=fun _ _ _ H _ I h=>wpAny_Constant_int ⟨.int i,H,I.tok _,⟨_,rfl⟩,h⟩
theorem dg {b j pos}:PE X (.Constant (.bool b) j pos) (tC (.bl b)):=fun _ _ _ H _ I h=>Constant_bool ⟨.bl b,H,I,rfl,h⟩
theorem bN {j pos}:PE X (.Constant .none j pos) (tC .non):=fun _ _ _ H _ I h=>Constant_none ⟨.non,H,I,rfl,h⟩
theorem br {x j pos}:PE X (.Constant (.str x) j pos) (tC (.str x)):=fun _ _ _ H _ I h=>Calls.Constant_str ⟨.str x,H,I.tok _,⟨_,rfl⟩,h⟩
def Gl (X:Cx) (x:Str):Prop:=X.env.kindOf x=some .globalImplicit
theorem mk {E:Value→Shared→Prop} {pins:List (Addr × Obj)} {s:Shared} {σ:St} {H:Hp} {x:Str} {u:Value} {pos:Pos} {Q:Value→Shared→Prop} (I:Inv X pins σ H s) (hg:Gl X x) (hm:X.mg x=some u) (h:Q u s)
    (hd:(x == ("__debug__":Str))=false:=by decide):wpAny (model X.prog X.w) X.A (eval (.Name x pos) X.env) Q E s :=
  Calls.Name_function_global I.ok.kind hg (Calls.loadGlobal_global (by rw [I.ok.glob];exact I.mod.glob.keeps I.bk) hm h) hd
theorem eh {E:Value→Shared→Prop} {pins:List (Addr × Obj)} {s:Shared} {σ:St} {H:Hp} {x:Str} {u:Value} {pos:Pos} {Q:Value→Shared→Prop} (I:Inv X pins σ H s) (hg:Gl X x) (hm:X.mg x=none) (hv:bootBuiltins x=some u) (h:Q u s)
    (hn:x ≠ "__name__":=by decide) (hd:(x == ("__debug__":Str))=false:=by decide):wpAny (model X.prog X.w) X.A (eval (.Name x pos) X.env) Q E s:=by
  obtain ⟨mb,h1,h2⟩:=I.mod.blt;exact Calls.Name_function_global I.ok.kind hg (Calls.loadGlobal_builtin (by rw [I.ok.glob];exact I.mod.glob.keeps I.bk) hm (by rw [I.ok.blt];exact h1.keeps I.bk) ((h2 x hn).trans hv) h) hd
theorem md {x:Str} {v:V} {u:Value} {pos:Pos} (hg:Gl X x) (hm:X.mg x=some u) (r:RelV v u) (hd:(x == ("__debug__":Str))=false:=by decide):PE X (.Name x pos) (tC v) :=
  fun _ _ _ H _ I h=>mk I hg hm ⟨v,H,I,r,h⟩ hd
theorem aH {x:Str} {v:V} {u:Value} {pos:Pos} (hg:Gl X x) (hm:X.mg x=none) (hv:bootBuiltins x=some u) (r:RelV v u) (hn:x ≠ "__name__":=by decide) (hd:(x == ("__debug__":Str))=false:=by decide):PE X (.Name x pos) (tC v) :=
  fun _ _ _ H _ I h=>eh I hg hm hv ⟨v,H,I,r,h⟩ hn hd
variable {a b:Expr} {ta tb:TE} {pos:Pos}
def PC (X:Cx) (op:CmpOp) (a b:Expr) (t:TE):Prop :=
  ∀ (pins:List (Addr × Obj)) (s:Shared) (σ:St) (H:Hp) (Q:VK),Inv X pins σ H s→t σ H Q →
    wpAny (model X.prog X.w) X.A (eval a X.env) (fun v s₁=>wpAny (model X.prog X.w) X.A (eval b X.env) (fun u s₂=>wpAny (model X.prog X.w) X.A (compareOp op v u) (EP X pins σ Q) X.xe s₂) X.xe s₁) X.xe s
def tB (t:TE):TT:=fun σ H Q=>t σ H fun x H1=>∃ c,x=.bl c∧Q c H1
theorem qY {op:CmpOp} {t:TE} (h:PC X op a b t) (h1:behindInMarks op b=false:=by first|exact nobehind _ (by decide) (by decide)|rfl):PE X (.Compare a [op] [b] pos) t:=fun pins s σ H Q I hw=>wpAny_Compare1 (h pins s σ H Q I hw) h1
theorem og {op:CmpOp} {t:TE} (h:PC X op a b t) (h1:behindInMarks op b=false:=by first|exact nobehind _ (by decide) (by decide)|rfl):PT X (.Compare a [op] [b] pos) (tB t):=by
  intro pins s σ H Q I hw;refine wpAny_isTrue_Compare1 (thn (h pins s σ H _ I hw) fun v s1 h1=>thn h1 fun u s2 h2=>thn h2 fun c s3 ⟨x,H1,I1,r1,q1⟩=>?_) h1;obtain ⟨d,rfl,q⟩:=q1;cases r1;exact wpAny_truthy_bool ⟨H1,I1,q⟩
theorem bc {e:Expr} {t:TE} (h:PE X e t) (he:∀ whole,isTrue e X.env whole=(do let v ← whole;standAt e.pos;holding [v] (truthy v)):=by intro _;rfl):PT X e (tB t):=by
  intro pins s σ H Q I hw;refine isTrue_plain (thn (h pins s σ H _ I hw) fun v s1 ⟨x,H1,I1,r1,q1⟩=>?_) (he _);obtain ⟨d,rfl,q⟩:=q1;cases r1;exact wpAny_truthy_bool ⟨H1,I1,q⟩
variable {tA tB':TT} {rest:List Expr}
def tU (t u:TT):TT:=fun σ H Q=>t σ H fun c H1=>if c=true then u σ H1 Q else Q false H1
def tOr (t u:TT):TT:=fun σ H Q=>t σ H fun c H1=>if c=true then Q true H1 else u σ H1 Q
def tJ (t:TT):TT:=fun σ H Q=>t σ H fun c H1=>Q (!c) H1
theorem iz (ha:PT X a tA):PW X (.BoolOp .And [a] pos) tA:=by
  intro wh pins s σ H Q I h;refine isTrue_and (thn (ha pins s σ H Q I h) fun c s1 e=>?_);cases c with
  | true=>exact isTrue_and_nil e
  | false=>exact e
theorem cL (ha:PT X a tA):PW X (.BoolOp .Or [a] pos) tA:=by
  intro wh pins s σ H Q I h;refine isTrue_or (thn (ha pins s σ H Q I h) fun c s1 e=>?_);cases c with
  | false=>exact isTrue_or_nil e
  | true=>exact e
theorem iA (ha:PT X a tA) (hb:PW X (.BoolOp .And (b :: rest) pos) tB'):PW X (.BoolOp .And (a :: b :: rest) pos) (tU tA tB'):=by
  intro wh pins s σ H Q I h;refine isTrue_and (thn (ha pins s σ H _ I h) fun c s1 ⟨H1,I1,q1⟩=>?_);cases c with
  | true=>exact hb wh pins s1 σ H1 Q I1 q1
  | false=>exact ⟨H1,I1,q1⟩
theorem dR (ha:PT X a tA) (hb:PW X (.BoolOp .Or (b :: rest) pos) tB'):PW X (.BoolOp .Or (a :: b :: rest) pos) (tOr tA tB'):=by
  intro wh pins s σ H Q I h;refine isTrue_or (thn (ha pins s σ H _ I h) fun c s1 ⟨H1,I1,q1⟩=>?_);cases c with
  | true=>exact ⟨H1,I1,q1⟩
  | false=>exact hb wh pins s1 σ H1 Q I1 q1
theorem bq (ha:PT X a tA):PT X (.UnaryOp .Not a pos) (tJ tA):=by
  intro pins s σ H Q I h;exact isTrue_not (ha pins s σ H (fun c H1=>Q (!c) H1) I h)
def se (ta tb:TE):TE:=fun σ H Q=>ta σ H fun x H1=>∃ c,x=.bl c∧if c=true then tb σ H1 Q else Q (.bl false) H1
def rW (ta:TE):TE:=fun σ H Q=>ta σ H fun x H1=>∃ c,x=.bl c∧Q (.bl (!c)) H1
theorem c_ {op} {t:TE} (h:PE X a t):PE X (.BoolOp op [a] pos) t:=fun pins s σ H Q I hw=>BoolOp_one (h pins s σ H Q I hw)
theorem bZ (ha:PE X a ta) (hb:PE X (.BoolOp .And (b :: rest) pos) tb):PE X (.BoolOp .And (a :: b :: rest) pos) (se ta tb):=by
  intro pins s σ H Q I h;refine BoolOp_and (thn (ha pins s σ H _ I h) fun v s1 ⟨x,H1,I1,r1,q1⟩=>?_);obtain ⟨c,rfl,q1⟩:=q1;cases r1;refine wpAny_truthy_bool ?_;cases c with
  | true=>exact hb pins s1 σ H1 Q I1 q1
  | false=>exact ⟨.bl false,H1,I1,rfl,q1⟩
theorem ou (ha:PE X a ta):PE X (.UnaryOp .Not a pos) (rW ta):=by
  intro pins s σ H Q I h;refine UnaryOp_ (thn (ha pins s σ H _ I h) fun v s1 ⟨x,H1,I1,r1,q1⟩=>?_);obtain ⟨c,rfl,q1⟩:=q1;cases r1;exact not_of (wpAny_truthy_bool ⟨.bl (!c),H1,I1,rfl,q1⟩)
def tIf (t:TT) (ta tb:TE):TE:=fun σ H Q=>t σ H fun c H1=>if c=true then ta σ H1 Q else tb σ H1 Q
theorem ox {c:Expr} (hc:PT X c tA) (ha:PE X a ta) (hb:PE X b tb):PE X (.IfExp c a b pos) (tIf tA ta tb):=by
  intro pins s σ H Q I h;refine wpAny_IfExp (thn (hc pins s σ H _ I h) fun d s1 ⟨H1,I1,q1⟩=>?_);cases d with
  | true=>exact ha pins s1 σ H1 Q I1 q1
  | false=>exact hb pins s1 σ H1 Q I1 q1
end
open PySem PySem.Spec PyProof.Rows
def SqL (K:aaa) (H:Hp) (a:Addr) (xs:List V):Prop :=
  Rd H a (.lst xs) ∨
    ∃ (o:Obj) (its:Array Value) (n:Nat),K.lookup a=some o∧o.cls=.type "list"∧o.dict=none∧o.data=.seq its n∧its.size≤sizeLine∧Vals xs its.toList
def SqT (K:aaa) (H:Hp) (a:Addr) (xs:List V):Prop :=
  Rd H a (.tup xs) ∨
    ∃ (o:Obj) (its:Array Value) (n:Nat),K.lookup a=some o∧o.cls=.type "tuple"∧o.data=.seq its n∧its.size≤sizeLine∧Vals xs its.toList
def ue:Value→Option V
  | .none=>some .non
  | .bool b=>some (.bl b)
  | .int i _=>some (.int i)
  | .str x _=>some (.str x)
  | .bytes b _=>some (.byt b)
  | .float b _=>some (.flt b)
  | .ref a=>some (.ref a)
  | .type n=>some (.ty n)
  | _=>none
theorem RelV.abs {x:V} {u:Value} (r:RelV x u):ue u=some x:=by
  cases x with
  | non=>cases r;rfl
  | bl _=>cases r;rfl
  | int _=>obtain ⟨t,rfl⟩:=r;rfl
  | str _=>obtain ⟨t,rfl⟩:=r;rfl
  | byt _=>obtain ⟨t,rfl⟩:=r;rfl
  | flt _=>obtain ⟨t,rfl⟩:=r;rfl
  | ref _=>cases r;rfl
  | ty _=>cases r;rfl
theorem RelV.inj {x y:V} {u:Value} (r:RelV x u) (q:RelV y u):x=y:=aas (r.abs.symm.trans q.abs)
theorem Vals.inj {xs ys:List V} {us:List Value} (h:Vals xs us) (h':Vals ys us):xs=ys:=by
  induction h generalizing ys with
  | nil=>cases h';rfl
  | cons r t ih =>
    cases h' with
    | cons r' t'=>rw [r.inj r',ih t']
section
variable {X:Cx} {pins:List (Addr × Obj)} {σ:St} {H:Hp} {s:Shared} {a:Addr} {xs ys:List V}
theorem SqL.of {K:aaa} (h:H a=some (.lst xs)):SqL K H a xs:=.inl (.inl h)
theorem SqT.of {K:aaa} (h:H a=some (.tup xs)):SqT K H a xs:=.inl (.inl h)
theorem Inv.list (I:Inv X pins σ H s) (h:SqL X.K H a xs):∃ its:List Value,Vals xs its∧PlainL s.heap a its.toArray∧xs.length≤sizeLine:=by
  rcases h with h|⟨o,its,n,hk,hc,hd,hs,hz,r⟩
  · obtain ⟨z,its,n,r,e⟩:=h.ok I.hok;exact ⟨its,r,⟨_,n,e,rfl,rfl,rfl⟩,z⟩
  · refine ⟨its.toList,r,⟨o,n,I.kIn a o hk,hc,hd,by simpa using hs⟩,?_⟩;have e:=r.length;simp only [aaV] at e;lia
theorem Inv.tuple (I:Inv X pins σ H s) (h:SqT X.K H a xs):∃ its:List Value,Vals xs its∧IsTup s.heap a its.toArray∧xs.length≤sizeLine:=by
  rcases h with h|⟨o,its,n,hk,hc,hs,hz,r⟩
  · obtain ⟨z,its,r,p⟩:=h.ok I.hok;exact ⟨its,r,p,z⟩
  · refine ⟨its.toList,r,⟨o,I.kIn a o hk,hc,n,by simpa using hs⟩,?_⟩;have e:=r.length;simp only [aaV] at e;lia
theorem Inv.list_inj (I:Inv X pins σ H s) (h:SqL X.K H a xs) (h':SqL X.K H a ys):xs=ys:=by
  obtain ⟨its,r,⟨o,n,e,_,_,d⟩,_⟩:=I.list h;obtain ⟨its',r',⟨o',n',e',_,_,d'⟩,_⟩:=I.list h';rw [e] at e';cases e';rw [d] at d';injection d' with d1 _
  have : its=its':=by simpa using congrArg Array.toList d1
  subst this;exact r.inj r'
theorem Inv.tuple_inj (I:Inv X pins σ H s) (h:SqT X.K H a xs) (h':SqT X.K H a ys):xs=ys:=by
  obtain ⟨its,r,⟨o,e,_,n,d⟩,_⟩:=I.tuple h;obtain ⟨its',r',⟨o',e',_,n',d'⟩,_⟩:=I.tuple h';rw [e] at e';cases e';rw [d] at d';injection d' with d1 _
  have : its=its':=by simpa using congrArg Array.toList d1
  subst this;exact r.inj r'
end
abbrev Cx.wish (X:Cx) (E:Value→Shared→Prop):Cx:={ X with xe:=E }
abbrev Cx.nox (X:Cx):Cx:=X.wish fun _ _=>False
theorem Cx.Ok.wish {X:Cx} (ok:X.Ok) (E:Value→Shared→Prop):(X.wish E).Ok :=
  ⟨ok.mod,ok.kind,ok.glob,ok.blt,ok.above,ok.inj,ok.has,ok.cab,ok.hd,ok.frames,ok.stk,ok.exf,ok.bs,ok.bsz,ok.noex,ok.exfs,ok.funs,ok.frf⟩
theorem Cx.Ok.unwish {X:Cx} {E:Value→Shared→Prop} (ok:(X.wish E).Ok):X.Ok :=
  ⟨ok.mod,ok.kind,ok.glob,ok.blt,ok.above,ok.inj,ok.has,ok.cab,ok.hd,ok.frames,ok.stk,ok.exf,ok.bs,ok.bsz,ok.noex,ok.exfs,ok.funs,ok.frf⟩
section
variable {X:Cx} {pins:List (Addr × Obj)} {σ:St} {H:Hp} {s:Shared} {E:Value→Shared→Prop}
theorem Inv.wish (I:Inv X pins σ H s) (E:Value→Shared→Prop):Inv (X.wish E) pins σ H s:=⟨I.ok.wish E,I.os,I.bare,I.base,I.loc,I.cell,I.free,I.freeC,I.pin,I.hok,I.len⟩
theorem Inv.unwish (I:Inv (X.wish E) pins σ H s):Inv X pins σ H s:=⟨I.ok.unwish,I.os,I.bare,I.base,I.loc,I.cell,I.free,I.freeC,I.pin,I.hok,I.len⟩
theorem SP.unwish {D:Ends} {f:Flow} {s':Shared} (h:SP (X.wish E) pins D f s'):SP X pins D f s':=by
  cases f with
  | next=>obtain ⟨σ',H',I,q⟩:=h;exact ⟨σ',H',I.unwish,q⟩
  | brk=>obtain ⟨σ',H',I,q⟩:=h;exact ⟨σ',H',I.unwish,q⟩
  | cont=>obtain ⟨σ',H',I,q⟩:=h;exact ⟨σ',H',I.unwish,q⟩
  | ret u=>obtain ⟨v,σ',H',I,r,q⟩:=h;exact ⟨v,σ',H',I.unwish,r,q⟩
theorem PSs.nox {st:List Stmt} {t:TS} (h:PSs X.nox st t):PSs X st t:=fun pins s σ H D I hw =>
  wpAny_mono (h pins s σ H D (I.wish _) hw) (fun _ _ q=>q.unwish) fun _ _ z=>abY z
end
section
variable {X:Cx} {st:Stmt} {rest:List Stmt} {t u:TS} {e:Expr} {te:TE} {pos:Pos}
def rX:TS:=fun D σ H=>D.nx σ H
def tH (t u:TS):TS:=fun D σ H=>t { D with nx:=u D } σ H
theorem aF:PSs X [] rX:=fun _ _ σ H _ I h=>wpAny_execs_nil ⟨σ,H,I,h⟩
theorem ag (h1:PS X st t) (h2:PSs X rest u):PSs X (st :: rest) (tH t u):=by
  intro pins s σ H D I h;refine wpAny_execs_cons (thn (h1 pins s σ H { D with nx:=u D } I h) fun f s1 q=>?_);cases f with
  | next =>
    obtain ⟨σ',H',I',q⟩:=q;exact h2 pins s1 σ' H' D I' q
  | ret v=>exact q
  | brk=>exact q
  | cont=>exact q
theorem af (h1:PS X st t):PSs X [st] t:=by
  intro pins s σ H D I h;refine wpAny_execs_cons (thn (h1 pins s σ H D I h) fun f s1 q=>?_);cases f with
  | next=>exact wpAny_execs_nil q
  | ret v=>exact q
  | brk=>exact q
  | cont=>exact q
theorem Inv.quiet {pins:List (Addr × Obj)} {σ:St} {H:Hp} {s:Shared} (I:Inv X pins σ H s):interactive X.env=false:=by simp [interactive,I.ok.kind]
def r8 (te:TE):TS:=fun D σ H=>te σ H fun _ H1=>D.nx σ H1
theorem bQ (he:PE X e te) (hs:swapsWith e none pos.line X.env=pure false:=by rfl):PS X (.Expr e pos) (r8 te):=by
  intro pins s σ H D I h;exact wpAny_Expr_any (thn (he pins s σ H _ I h) fun v s1 ⟨x,H1,I1,r1,q1⟩=>⟨σ,H1,I1,q1⟩) I.quiet hs
def tI (te:TE):TS:=fun D σ H=>te σ H D.rt
theorem ax (he:PE X e te):PS X (.Return (some e) pos) (tI te):=by
  intro pins s σ H D I h;exact wpAny_Return_some (thn (he pins s σ H _ I h) fun v s1 ⟨x,H1,I1,r1,q1⟩=>⟨x,σ,H1,I1,r1,q1⟩)
def tQ (c:TT) (t u:TS):TS:=fun D σ H=>c σ H fun b H1=>if b=true then t D σ H1 else u D σ H1
theorem aW {c:Expr} {a b:List Stmt} {tc:TT} (hc:PT X c tc) (ha:PSs X a t) (hb:PSs X b u):PS X (.If c a b pos) (tQ tc t u):=by
  intro pins s σ H D I h;refine wpAny_If (thn (hc pins s σ H _ I h) fun d s1 ⟨H1,I1,q1⟩=>?_);cases d with
  | true=>exact ha pins s1 σ H1 D I1 q1
  | false=>exact hb pins s1 σ H1 D I1 q1
def qI:TS:=fun _ _ _=>False
theorem ju:PS X st qI:=fun _ _ _ _ _ _ h=>h.elim
end
abbrev TG:=V→St→Hp→(St→Hp→Prop)→Prop
abbrev TGs:=List V→St→Hp→(St→Hp→Prop)→Prop
def PG (X:Cx) (target:Expr) (t:TG):Prop :=
  ∀ (pins:List (Addr × Obj)) (s:Shared) (σ:St) (H:Hp) (v:V) (u:Value) (Q:St→Hp→Prop),Inv X pins σ H s→RelV v u→t v σ H Q →
    wpAny (model X.prog X.w) X.A (assign target X.env u) (fun _ s'=>∃ σ' H',Inv X pins σ' H' s'∧Q σ' H') X.xe s
def PGs (X:Cx) (ts:List Expr) (t:TGs):Prop :=
  ∀ (pins:List (Addr × Obj)) (s:Shared) (σ:St) (H:Hp) (vs:List V) (us:List Value) (Q:St→Hp→Prop),Inv X pins σ H s→Vals vs us→t vs σ H Q →
    wpAny (model X.prog X.w) X.A (assignInOrder ((assignEach ts X.env).map (·.2)) us) (fun _ s'=>∃ σ' H',Inv X pins σ' H' s'∧Q σ' H') X.xe s
abbrev qu:=V→V→V→Hp→(Hp→Prop)→Prop
def rL (X:Cx) (t:qu):Prop :=
  ∀ (pins:List (Addr × Obj)) (s:Shared) (σ:St) (H:Hp) (o i v:V) (ov iv u:Value) (Q:Hp→Prop),Inv X pins σ H s→RelV o ov→RelV i iv→RelV v u→t o i v H Q →
    wpAny (model X.prog X.w) X.A (setItem ov iv u) (fun _ s'=>∃ H',Inv X pins σ H' s'∧Q H') X.xe s
section
variable {X:Cx} {pos:Pos}
def mx (i:Nat):TG:=fun v σ H Q=>Q (σ.set i (some v)) H
theorem am {i:Nat} {x:Str} (hN:X.N.Nodup) (hi:X.N[i]?=some x) (hx:Loc X.env.scope x) (hf:X.fn x=true∨X.env.scope.names.lookup x=some .local:=by first|exact .inl rfl|exact .inr rfl|assumption):PG X (.Name x pos) (mx i):=by
  intro pins s σ H v u Q I r h;exact wpAny_assign_Name (jd I hN hi hx r (fun s' I'=>⟨_,H,I',h⟩) hf)
def t_:TGs:=fun vs σ H Q=>vs=[]∧Q σ H
def sY (t:TG) (u:TGs):TGs:=fun vs σ H Q=>∃ v r,vs=v :: r∧t v σ H fun σ' H'=>u r σ' H' Q
theorem cE:PGs X [] t_:=by
  intro pins s σ H vs us Q I r h;obtain ⟨e,h⟩:=h;subst e;cases r;exact assignInOrder_nil ⟨σ,H,I,h⟩
theorem aZ {e:Expr} {es:List Expr} {t:TG} {u:TGs} (h1:PG X e t) (h2:PGs X es u)
    (hs:(assignEach (e :: es) X.env).map (·.2)=assign e X.env :: (assignEach es X.env).map (·.2):=by rfl):PGs X (e :: es) (sY t u):=by
  intro pins s σ H vs us Q I r h;obtain ⟨v,vr,e1,h⟩:=h;subst e1;cases r with
  | cons r rr =>
    rw [hs];refine assignInOrder_cons (thn (h1 pins s σ H _ _ _ I r h) fun _ s1 ⟨σ1,H1,I1,q1⟩=>?_);exact h2 pins s1 σ1 H1 _ _ Q I1 rr q1
def sX (K:aaa) (n:Nat) (t:TGs):TG:=fun v σ H Q=>∃ a xs,v=.ref a∧SqT K H a xs∧xs.length=n∧t xs σ H Q
theorem dy {es:List Expr} {k:Nat} {t:TGs} {n:Nat} (hc:X.calm=true) (h:PGs X es t)
    (hn:(assignEach es X.env).length=n:=by rfl) (hst:(assignEach es X.env).findIdx? (·.1)=none:=by rfl):PG X (.Tuple es k pos) (sX X.K n t):=by
  intro pins s σ H v u Q I r hw;obtain ⟨a,xs,e1,hq,hl,hw⟩:=hw;subst e1;cases r;obtain ⟨its,rv,ht,hz⟩:=I.tuple hq;refine assign_Tuple_tuple (I.ok.hd hc) ht (by simp [hn,← hl,rv.length]) hst fun h' hx=>?_;have I1:Inv X pins σ H { s with heap:=h' }:=I.kept (t':=s.toks) fun b o e=>hx b o (aaz (aan e)) e;exact h pins _ σ H xs _ Q I1 (by simpa using rv) hw
def t9 (to ti:TE) (t:qu):TG:=fun v σ H Q=>to σ H fun o H1=>ti σ H1 fun i H2=>t o i v H2 fun H3=>Q σ H3
theorem iC {o i:Expr} {to ti:TE} {t:qu} (ho:PE X o to) (hi:PE X i ti) (hs:rL X t)
    (ha:∀ v,assign (.Subscript o i pos) X.env v=(do
      let ov ← holding [v] (eval o X.env)
      let iv ← holding [v,ov] (eval i X.env)
      standAt pos
      holding [v,ov,iv] (setItem ov iv v)
      release [v,ov,iv] []):=by intro _;rfl):PG X (.Subscript o i pos) (t9 to ti t):=by
  intro pins s σ H v u Q I r h;rw [ha];refine wpAny_bind (wpAny_holding (thn (ho pins s σ H _ I h) fun ov s1 ⟨x,H1,I1,r1,q1⟩=>?_));refine wpAny_bind (wpAny_holding (thn (hi pins s1 σ H1 _ I1 q1) fun iv s2 ⟨y,H2,I2,r2,q2⟩=>?_));refine wpAny_bind (wpAny_standAt (wpAny_bind (wpAny_holding (thn (hs pins s2 σ H2 x y v ov iv u _ I2 r1 r2 r q2) fun _ s3 ⟨H3,I3,q3⟩=>?_))));exact wpAny_release ⟨σ,H3,I3,q3⟩
def sd (te:TE) (g:TG):TS:=fun D σ H=>te σ H fun x H1=>g x σ H1 D.nx
theorem du {tg e:Expr} {te:TE} {g:TG} (he:PE X e te) (hg:PG X tg g) (hs:swapsWithSole [tg] e pos.line X.env=pure false:=by rfl) (hw:swappedStores [tg] e X.env=pure none:=by rfl)
    (h1:(assignEach [tg] X.env).map (·.2)=[assign tg X.env]:=by rfl):PS X (.Assign [tg] e pos) (sd te g):=by
  intro pins s σ H D I h;refine wpAny_Assign_stores (thn (he pins s σ H _ I h) fun v s1 ⟨x,H1,I1,r1,q1⟩=>?_) hs hw;rw [h1];exact thn (hg pins s1 σ H1 x v _ I1 r1 q1) fun _ s2 q=>q
theorem aE {i:Nat} {x:Str} {e:Expr} {te:TE} {pos':Pos} (hN:X.N.Nodup) (hi:X.N[i]?=some x) (hx:Loc X.env.scope x) (he:PE X e te) (hs:swapsWith e (some (.Name x pos')) pos.line X.env=pure false:=by rfl) (hf:X.fn x=true∨X.env.scope.names.lookup x=some .local:=by first|exact .inl rfl|exact .inr rfl|assumption) :
    PS X (.Assign [.Name x pos'] e pos) (sd te (mx i)):=by
  intro pins s σ H D I h;refine wpAny_Assign_Name (thn (he pins s σ H _ I h) fun v s1 ⟨y,H1,I1,r1,q1⟩=>?_) hs;exact jd I1 hN hi hx r1 (fun s2 I2=>⟨_,H1,I2,q1⟩) hf
end
section
variable {X:Cx} {pos:Pos}
end
structure It where
  go:Nat→Hp→Prop
  yld:Nat→Hp→V→Hp→Prop
  stop:Nat→Hp→Prop
def df (X:Cx) (pins:List (Addr × Obj)) (H:Hp) (b:Addr):Prop :=
  H b=none∧b≠X.env.locals∧b∉X.fs∧(b∈X.ex∨X.s₀.heap.objs.size≤b)∧(∀ x c,X.env.cells.lookup x=some c→c≠b)∧∀ p∈X.pn++pins,p.1≠b
theorem Inv.fpOk {X:Cx} {pins:List (Addr × Obj)} {σ:St} {H H':Hp} {s:Shared} {b:Addr} (I:Inv X pins σ H s) (hb:s.heap.objs.size≤b) (hn:H' b=none):df X pins H' b:=by
  refine ⟨hn,abB (aam I.lt hb),I.nofs hb,.inr (aaG I.sz hb),fun x c e z=>?_,fun p hp z=>?_⟩
  · obtain ⟨v,q⟩:=I.cell x c e;exact absurd (aam q.lt (by rw [z];exact hb)) (abA _)
  · exact absurd (aam (aan (I.pin p hp).1) (by rw [z];exact hb)) (abA _)
structure Turn (P:Program) (w:World) (K:aaa) (tg:Expr) (J:It) (fp:List Addr) (it:Addr) (tn:Nat→Heap→Prop):Prop where
  mem:it∈fp
  obj:∀ i h,tn i h→∀ b∈fp,∃ o,h.get? b=some o∧∀ v,o.data≠.cell v
  keep:∀ i h h',tn i h→(∀ b∈fp,∀ o,h.get? b=some o→h'.get? b=some o)→tn i h'
  item:∀ (X:Cx),X.prog=P→X.w=w→X.K=K→X.calm=true→∀ (i:Nat) (pins:List (Addr × Obj)) (s:Shared) (σ:St) (H:Hp) (E:Value→Shared→Prop),Inv X pins σ H s→(∀ b∈fp,df X pins H b)→tn i s.heap→J.go i H →
    wpAny (model P w) X.A (pyNext (.ref it)) (fun r s1=>∃ u,r=some u ∧
      wpAny (model P w) X.A (letOwnedTupleGo tg (.ref it) u) (fun _ s2=>∃ x H',Inv X pins σ H' s2∧RelV x u∧J.yld i H x H'∧tn (i+1) s2.heap∧∀ b∈fp,H' b=none) E s1) E s
  done:∀ (X:Cx),X.prog=P→X.w=w→X.K=K→X.calm=true→∀ (i:Nat) (pins:List (Addr × Obj)) (s:Shared) (σ:St) (H:Hp) (E:Value→Shared→Prop),Inv X pins σ H s→(∀ b∈fp,df X pins H b)→tn i s.heap→J.stop i H →
    wpAny (model P w) X.A (pyNext (.ref it)) (fun r s1=>r=none∧Inv X pins σ H s1) E s
  self:∀ (A:Around) (i:Nat) (s:Shared) (Q:Value→Shared→Prop) (E:Value→Shared→Prop),tn i s.heap→Q (.ref it) s→wpAny (model P w) A (pyIter (.ref it)) Q E s
abbrev TI:=St→Hp→(It→Hp→Prop)→Prop
def PIE (X:Cx) (pins:List (Addr × Obj)) (σ:St) (tg:Expr) (R:It→Hp→Prop) (itv:Value) (s2:Shared):Prop :=
  ∃ (it:Addr) (fp:List Addr) (tn:Nat→Heap→Prop) (J:It) (H':Hp),itv=.ref it∧Inv X pins σ H' s2∧Turn X.prog X.w X.K tg J fp it tn∧tn 0 s2.heap∧(∀ b∈fp,df X pins H' b)∧R J H'
def PI (X:Cx) (tg iter:Expr) (wi:TI):Prop :=
  ∀ (pins:List (Addr × Obj)) (s:Shared) (σ:St) (H:Hp) (R:It→Hp→Prop),Inv X pins σ H s→wi σ H R →
    wpAny (model X.prog X.w) X.A (eval iter X.env) (fun v s1=>wpAny (model X.prog X.w) X.A (pyIter v) (PIE X pins σ tg R) X.xe s1) X.xe s
theorem gz {M:Model} {A:Around} {E:Value→Shared→Prop} {s:Shared} {tg:Expr} {it:Addr} {u:Value} {o:Obj} {n:String} {vs:Array Value} {Q:Unit→Shared→Prop} (ho:s.heap.get? it=some o) (hc:o.cls=.type n) (hd:o.data=.fields vs)
    (hn:["enumerate","zip","dict_itemiterator","dict_reverseitemiterator","odict_iterator","itertools.zip_longest","itertools.pairwise"].contains n=false) (hQ:Q () s):wpAny M A (letOwnedTupleGo tg (.ref it) u) Q E s:=by
  unfold letOwnedTupleGo;cases tg <;> first
    | exact wpAny_pure hQ
    | (cases u <;> first
        | exact wpAny_pure hQ
        | (refine wpAny_bind (wpAny_load ho ?_)
           rw [hc,hd];show wpAny M A (if (["enumerate","zip","dict_itemiterator","dict_reverseitemiterator","odict_iterator","itertools.zip_longest","itertools.pairwise"].contains n && vs[0]? == some (rawInt _))=true then _ else _) Q E s;rw [if_neg (by intro h;rw [hn,ab3] at h;cases h)];exact wpAny_pure hQ))
def Itl (K:aaa) (a:Addr):It :=
  ⟨fun i H=>∃ xs x,SqL K H a xs∧xs[i]?=some x,fun i H x H'=>H'=H∧∀ xs,SqL K H a xs→xs[i]?=some x,fun i H=>∃ xs,SqL K H a xs∧xs.length≤i⟩
def Itt (K:aaa) (a:Addr):It :=
  ⟨fun i H=>∃ xs x,SqT K H a xs∧xs[i]?=some x,fun i H x H'=>H'=H∧∀ xs,SqT K H a xs→xs[i]?=some x,fun i H=>∃ xs,SqT K H a xs∧xs.length≤i⟩
def Itr (lo:Int) (n:Nat):It:=⟨fun i _=>i < n,fun i H x H'=>H'=H∧x=.int (lo+i),fun i _=>n≤i⟩
theorem mP {P:Program} {w:World} {K:aaa} {tg:Expr} (a it:Addr):Turn P w K tg (Itl K a) [it] it (fun i h=>h.IsListIter it a i) where
  mem:=by simp
  obj:=fun i h st b hb=>by
    have e:b=it:=by simpa using hb
    subst e;obtain ⟨o,e,c,d⟩:=st;exact ⟨o,e,fun v z=>by rw [d] at z;cases z⟩
  keep:=fun i h h' st k=>st.at fun o e=>k it (by simp) o e
  item:=by
    intro X hP hw hK hc i pins s σ H E I hf st hg;subst hP hw hK;obtain ⟨xs,x,hq,hx⟩:=hg;obtain ⟨its,rv,p,hz⟩:=I.list hq;obtain ⟨u,hu,ru⟩:=rv.get hx;obtain ⟨f0,f1,f2,f3,f4,f5⟩:=hf it (by simp);refine wpAny_pyNext_list_item st p.isList (x:=u) (by simpa using hu) fun h' st' sb=>?_;have I1:Inv X pins σ H { s with heap:=h' }:=I.turned (t':=s.toks) (fun b o hb e=>(sb.2 b hb).trans e) f0 f1 f3 f4 f5;obtain ⟨o,e,c,d⟩:=id st';exact ⟨u,rfl,gz (s:={ s with heap:=h' }) e c d (by decide) ⟨x,H,I1,ru,⟨rfl,fun ys hy=>by rw [I.list_inj hy hq];exact hx⟩,st',fun b hb=>(hf b hb).1⟩⟩
  done:=by
    intro X hP hw hK hc i pins s σ H E I hf st hg;subst hP hw hK;obtain ⟨xs,hq,hx⟩:=hg;obtain ⟨its,rv,p,hz⟩:=I.list hq;obtain ⟨f0,f1,f2,f3,f4,f5⟩:=hf it (by simp);have hl:=rv.length;exact wpAny_pyNext_list_end (I.ok.hd hc) st p.isList (by simp;lia) fun h' eb=>⟨rfl,I.turned (t':=s.toks) (fun b o hb e=>eb b o hb e) f0 f1 f3 f4 f5⟩
  self:=fun _ _ _ _ _ st h=>wpAny_pyIter_listiter st h
theorem km {P:Program} {w:World} {K:aaa} {tg:Expr} (a it:Addr):Turn P w K tg (Itt K a) [it] it (fun i h=>h.IsTupleIter it a i) where
  mem:=by simp
  obj:=fun i h st b hb=>by
    have e:b=it:=by simpa using hb
    subst e;obtain ⟨o,e,c,d⟩:=st;exact ⟨o,e,fun v z=>by rw [d] at z;cases z⟩
  keep:=fun i h h' st k=>st.at fun o e=>k it (by simp) o e
  item:=by
    intro X hP hw hK hc i pins s σ H E I hf st hg;subst hP hw hK;obtain ⟨xs,x,hq,hx⟩:=hg;obtain ⟨its,rv,p,hz⟩:=I.tuple hq;obtain ⟨u,hu,ru⟩:=rv.get hx;obtain ⟨f0,f1,f2,f3,f4,f5⟩:=hf it (by simp);refine wpAny_pyNext_tuple_item st (show s.heap.IsTuple a its.toArray from p) (x:=u) (by simpa using hu) fun h' st' sb=>?_;have I1:Inv X pins σ H { s with heap:=h' }:=I.turned (t':=s.toks) (fun b o hb e=>(sb.2 b hb).trans e) f0 f1 f3 f4 f5;obtain ⟨o,e,c,d⟩:=id st';exact ⟨u,rfl,gz (s:={ s with heap:=h' }) e c d (by decide) ⟨x,H,I1,ru,⟨rfl,fun ys hy=>by rw [I.tuple_inj hy hq];exact hx⟩,st',fun b hb=>(hf b hb).1⟩⟩
  done:=by
    intro X hP hw hK hc i pins s σ H E I hf st hg;subst hP hw hK;obtain ⟨xs,hq,hx⟩:=hg;obtain ⟨its,rv,p,hz⟩:=I.tuple hq;obtain ⟨f0,f1,f2,f3,f4,f5⟩:=hf it (by simp);have hl:=rv.length;exact wpAny_pyNext_tuple_end (I.ok.hd hc) st (show s.heap.IsTuple a its.toArray from p) (by simp;lia) fun h' eb=>⟨rfl,I.turned (t':=s.toks) (fun b o hb e=>eb b o hb e) f0 f1 f3 f4 f5⟩
  self:=fun _ _ _ _ _ st h=>wpAny_pyIter_tupleiter st h
theorem kn {P:Program} {w:World} {K:aaa} {tg:Expr} (it:Addr) (lo:Int) (n:Nat):Turn P w K tg (Itr lo n) [it] it (fun i h=>IsRangeIter h it (lo+(i:Nat) * 1) ((n:Int) - (i:Nat)) 1) where
  mem:=by simp
  obj:=fun i h st b hb=>by
    have e:b=it:=by simpa using hb
    subst e;exact ⟨_,st,fun v z=>by
      have z':Data.fields _=Data.cell v:=z;cases z'⟩
  keep:=fun i h h' st k=>k it (by simp) _ st
  item:=by
    intro X hP hw hK hc i pins s σ H E I hf st hg;subst hP hw hK;obtain ⟨f0,f1,f2,f3,f4,f5⟩:=hf it (by simp);have W:=Walks.range (prog:=X.prog) (w:=X.w) (I.ok.hd hc) it lo 1 n;refine W.item i s _ _ hg st fun v h' tk hv st' kk=>?_;obtain ⟨t,rfl⟩:=hv;have I1:Inv X pins σ H { s with heap:=h',toks:=tk }:=I.turned (fun b o hb e=>kk b o (by simpa using hb) e) f0 f1 f3 f4 f5;refine ⟨_,rfl,gz (s:={ s with heap:=h',toks:=tk }) (n:="range_iterator") st' rfl rfl (by decide) ⟨.int (lo+i),H,I1,⟨t,?_⟩,⟨rfl,rfl⟩,st',fun b hb=>(hf b hb).1⟩⟩;rw [Int.mul_one]
  done:=by
    intro X hP hw hK hc i pins s σ H E I hf st hg;subst hP hw hK;obtain ⟨f0,f1,f2,f3,f4,f5⟩:=hf it (by simp);exact wpAny_pyNext_range_end (I.ok.hd hc) st (by have : n≤i:=hg;lia) fun h' eb=>⟨rfl,I.turned (t':=s.toks) (fun b o hb e=>eb b o hb e) f0 f1 f3 f4 f5⟩
  self:=fun _ _ _ _ _ st h=>wpAny_pyIter_rangeiter st h
open PySem PySem.Spec PyProof.Rows
section
variable {X:Cx} {tg:Expr}
def sS (K:aaa) (tl:TE):TI:=fun σ H R=>tl σ H fun x H1=>∃ a,x=.ref a∧(∃ xs,SqL K H1 a xs)∧R (Itl K a) H1
def sO (K:aaa) (tl:TE):TI:=fun σ H R=>tl σ H fun x H1=>∃ a,x=.ref a∧(∃ xs,SqT K H1 a xs)∧R (Itt K a) H1
theorem eO {l:Expr} {tl:TE} (hl:PE X l tl):PI X tg l (sS X.K tl):=by
  intro pins s σ H R I h;refine thn (hl pins s σ H _ I h) fun v s1 ⟨x,H1,I1,r1,q1⟩=>?_;obtain ⟨a,e,⟨xs,hq⟩,q⟩:=q1;subst e;cases r1;obtain ⟨its,rv,p,hz⟩:=I1.list hq;refine wpAny_pyIter_list p.isList ?_;refine ⟨s1.heap.objs.size,[s1.heap.objs.size],_,_,H1,rfl,I1.kept (t':=s1.toks) fun b o e=>aaf _ e,mP a _,⟨_,aao _ rfl,rfl,rfl⟩,fun b hb=>?_,q⟩;have e:b=s1.heap.objs.size:=by simpa using hb
  subst e;exact I1.fpOk (aah _) (I1.hok.fresh (aah _))
theorem cZ {l:Expr} {tl:TE} (hl:PE X l tl):PI X tg l (sO X.K tl):=by
  intro pins s σ H R I h;refine thn (hl pins s σ H _ I h) fun v s1 ⟨x,H1,I1,r1,q1⟩=>?_;obtain ⟨a,e,⟨xs,hq⟩,q⟩:=q1;subst e;cases r1;obtain ⟨its,rv,p,hz⟩:=I1.tuple hq;refine wpAny_pyIter_tuple (show s1.heap.IsTuple a its.toArray from p) ?_;refine ⟨s1.heap.objs.size,[s1.heap.objs.size],_,_,H1,rfl,I1.kept (t':=s1.toks) fun b o e=>aaf _ e,km a _,⟨_,aao _ rfl,rfl,rfl⟩,fun b hb=>?_,q⟩;have e:b=s1.heap.objs.size:=by simpa using hb
  subst e;exact I1.fpOk (aah _) (I1.hok.fresh (aah _))
theorem jp {pins:List (Addr × Obj)} {σ:St} {H:Hp} {s:Shared} {R:It→Hp→Prop} {E:Value→Shared→Prop} {lo hi:Int} {t u v:Tok} {tk:Nat} (I:Inv X pins σ H s) (h1:-(2 ^ 62)≤lo) (h2:lo < 2 ^ 62) (h3:-(2 ^ 62)≤hi) (h4:hi < 2 ^ 62)
    (q:R (Itr lo (hi - lo).toNat) H):wpAny (model X.prog X.w) X.A (pyIter (.ref s.heap.objs.size)) (PIE X pins σ tg R) E { s with heap:=s.heap.push { cls:=.type "range",data:=.fields #[.int lo t,.int hi u,.int 1 v] },toks:=tk }:=by
  refine wpAny_pyIter_range (IsRange.new ..) (small_one h1 h2 h3 h4) ?_;have I1:Inv X pins σ H { s with heap:=s.heap.push { cls:=.type "range",data:=.fields #[.int lo t,.int hi u,.int 1 v] },toks:=tk }:=I.kept fun b o e=>aaf _ e;refine ⟨(s.heap.push { cls:=.type "range",data:=.fields #[.int lo t,.int hi u,.int 1 v] }).objs.size,[(s.heap.push { cls:=.type "range",data:=.fields #[.int lo t,.int hi u,.int 1 v] }).objs.size],_,_,H,rfl,
    I1.kept (t':=tk) fun b o e=>aaf _ e,kn _ lo (hi - lo).toNat,?_,fun b hb=>?_,q⟩
  · have e1:lo+((0:Nat):Int) * 1=lo:=by simp
    have e2:(((hi - lo).toNat:Nat):Int) - ((0:Nat):Int)=abJ lo hi 1:=by rw [rangeSize_one];split <;> lia
    show IsRangeIter _ _ (lo+((0:Nat):Int) * 1) ((((hi - lo).toNat:Nat):Int) - ((0:Nat):Int)) 1;rw [e1,e2];exact aao _ rfl
  · have e:b=(s.heap.push { cls:=.type "range",data:=.fields #[.int lo t,.int hi u,.int 1 v] }).objs.size:=by simpa using hb
    subst e;exact I1.fpOk (aah _) (I1.hok.fresh (aah _))
def sR (ta:TA):TI:=fun σ H R=>ta σ H fun vs H1=>∃ j:Int,vs=[.int j]∧-(2 ^ 62)≤j∧j < 2 ^ 62∧R (Itr 0 j.toNat) H1
def sQ (ta:TA):TI:=fun σ H R=>ta σ H fun vs H1=>∃ i j:Int,vs=[.int i,.int j]∧(-(2 ^ 62)≤i∧i < 2 ^ 62∧-(2 ^ 62)≤j∧j < 2 ^ 62)∧R (Itr i (j - i).toNat) H1
theorem bp {a:Expr} {ta:TA} {p pos:Pos} (hg:Gl X "range") (hm:X.mg "range" = none) (ha:PA X [a] ta) (hs:starEach [a] X.env=[(false,eval a X.env)]:=by rfl):PI X tg (.Call (.Name "range" p) [a] [] pos) (sR ta):=by
  intro pins s σ H R I h;refine Call_ (eh I hg hm boot_range (abc (thn (ha pos pins s σ H _ I h) fun us s1 ⟨vs,H1,I1,r1,q1⟩=>?_) hs rfl));obtain ⟨j,e,q1,q2,q⟩:=q1;subst e;cases r1 with
  | cons r rr =>
    cases rr;obtain ⟨t,rfl⟩:=r;exact call_range_1 (jp I1 (by lia) (by lia) q1 q2 (by simpa using q))
theorem ci {a b:Expr} {ta:TA} {p pos:Pos} (hg:Gl X "range") (hm:X.mg "range" = none) (ha:PA X [a,b] ta) (hs:starEach [a,b] X.env=[(false,eval a X.env),(false,eval b X.env)]:=by rfl) (hs2:starEach [b] X.env=[(false,eval b X.env)]:=by rfl) :
    PI X tg (.Call (.Name "range" p) [a,b] [] pos) (sQ ta):=by
  intro pins s σ H R I h;refine Call_ (eh I hg hm boot_range (abc (thn (ha pos pins s σ H _ I h) fun us s1 ⟨vs,H1,I1,r1,q1⟩=>?_) (by rw [hs,hs2]) (by rw [hs2];rfl)));obtain ⟨i,j,e,⟨q1,q2,q3,q4⟩,q⟩:=q1;subst e;cases r1 with
  | cons r rr =>
    cases rr with
    | cons r' rr =>
      cases rr;obtain ⟨t,rfl⟩:=r;obtain ⟨t',rfl⟩:=r';exact call_range_2 (jp I1 q1 q2 q3 q4 q)
def tS (wi:TI) (g:TG) (tb:TS):TS:=fun D σ H=>wi σ H fun J H1=>∃ W:Nat→Nat→St→Hp→Prop,(∃ m,W 0 m σ H1)∧∀ i m σ H,W i m σ H →
  (J.stop i H∧D.nx σ H)∨(J.go i H∧∃ N:St→Hp→Prop,(∀ σ' H',N σ' H'→∃ m',m' < m∧W (i+1) m' σ' H')∧∀ x H',J.yld i H x H'→g x σ H' fun σ2 H2=>tb { D with nx:=N,ct:=N,bk:=D.nx } σ2 H2)
def bY (fp:List Addr) (h:Heap):List (Addr × Obj):=fp.filterMap fun b=>(h.get? b).map fun o=>(b,o)
theorem dc {fp:List Addr} {h:Heap} {b:Addr} {o:Obj} (hb:b∈fp) (e:h.get? b=some o):(b,o)∈bY fp h:=List.mem_filterMap.mpr ⟨b,hb,by rw [e];rfl⟩
theorem ft {fp:List Addr} {h:Heap} {p:Addr × Obj} (hp:p∈bY fp h):p.1∈fp∧h.get? p.1=some p.2:=by
  obtain ⟨b,hb,e⟩:=List.mem_filterMap.mp hp;cases q:h.get? b with
  | none=>rw [q] at e;cases e
  | some o =>
    rw [q] at e;have e':(b,o)=p:=aas e;subst e';exact ⟨hb,q⟩
theorem Inv.pinned {pins:List (Addr × Obj)} {σ:St} {H:Hp} {s:Shared} {fp:List Addr} (I:Inv X pins σ H s) (hf:∀ b∈fp,df X pins H b) (ho:∀ b∈fp,∃ o,s.heap.get? b=some o∧∀ v,o.data≠.cell v):Inv X (pins++bY fp s.heap) σ H s :=
  I.pins_of fun p hp=>(aax.mp hp).elim (fun z=>I.pin p (aat _ z)) fun z=>by
    obtain ⟨hb,e⟩:=ft z;obtain ⟨f0,f1,f2,_⟩:=hf p.1 hb;obtain ⟨o,e',d⟩:=ho p.1 hb;rw [e] at e';cases e';exact ⟨e,f0,f1,f2,d⟩
theorem Inv.unpinned {pins pl:List (Addr × Obj)} {σ:St} {H:Hp} {s:Shared} (I:Inv X (pins++pl) σ H s):Inv X pins σ H s:=I.pins_of fun p hp=>I.pin p (aat _ (aaT _ hp))
theorem bd {iter:Expr} {body:List Stmt} {wi:TI} {g:TG} {tb:TS} {pos:Pos} (hp:PassesOwn (model X.prog X.w) X.A X.env X.xe) (hc:X.calm=true) (hi:PI X tg iter wi) (hg:PG X tg g) (hb:PSs X body tb)
    (hs:∀ x,foldedSetIterable iter X.env x=pure x:=by intro _;rfl):PS X (.For tg iter body [] pos) (tS wi g tb):=by
  intro pins s σ H D I h;refine wpAny_For (thn (hi pins s σ H _ I h) fun v s1 h1=>thn h1 fun itv s2 h2=>?_) hs;obtain ⟨it,fp,tn,J,H2,e,I2,T,st2,f2,W,⟨m0,w0⟩,turn⟩:=h2;subst e;have stat:∀ {H':Hp},(∀ b∈fp,H' b=none)→∀ b∈fp,df X pins H' b:=fun hn b hb=>⟨hn b hb,(f2 b hb).2⟩
  refine codeAny_forLoop_any (fun n s'=>∃ i σ' H',Inv X pins σ' H' s'∧tn i s'.heap∧(∀ b∈fp,H' b=none)∧W i n σ' H') ?_ m0 ⟨0,σ,H2,I2,st2,fun b hb=>(f2 b hb).1,w0⟩;rintro n s3 ⟨i,σ3,H3,I3,st3,fr3,w3⟩;rcases turn i n σ3 H3 w3 with ⟨stop,qn⟩|⟨go,N,hN,step⟩
  · refine wpAny_passesOwn hp (thn (T.done X rfl rfl rfl hc i pins s3 σ3 H3 X.xe I3 (stat fr3) st3 stop) fun r s4 ⟨hr,I4⟩=>?_);subst hr;exact wpAny_execs_nil ⟨σ3,H3,I4,qn⟩
  · refine wpAny_passesOwn hp (thn (T.item X rfl rfl rfl hc i pins s3 σ3 H3 X.xe I3 (stat fr3) st3 go) fun r s4 ⟨u,hr,h4⟩=>?_);subst hr;refine wpAny_passesOwn hp (thn h4 fun _ s5 ⟨x,H5,I5,r5,y5,st5,fr5⟩=>?_);have I5':=I5.pinned (stat fr5) (T.obj _ _ st5);refine wpAny_passesOwn hp (thn (hg _ s5 σ3 H5 x u _ I5' r5 (step x H5 y5)) fun _ s6 ⟨σ6,H6,I6,q6⟩=>?_);refine wpAny_passesOwn hp (thn (hb _ s6 σ6 H6 _ I6 q6) fun f s7 q7=>?_);have again:∀ {σ7:St} {H7:Hp},Inv X (pins++bY fp s5.heap) σ7 H7 s7→N σ7 H7→∃ m,m < n∧∃ i σ' H',Inv X pins σ' H' s7∧tn i s7.heap∧(∀ b∈fp,H' b=none)∧W i m σ' H':=fun {σ7 H7} I7 n7=>by
      obtain ⟨m',hm,w7⟩:=hN σ7 H7 n7;refine ⟨m',hm,i+1,σ7,H7,I7.unpinned,T.keep _ _ _ st5 fun b hb o e=>(I7.pin (b,o) (aat _ (aat _ (dc hb e)))).1,fun b hb=>?_,w7⟩;obtain ⟨o,e,d⟩:=T.obj _ _ st5 b hb;exact (I7.pin (b,o) (aat _ (aat _ (dc hb e)))).2.1
    cases f with
    | next=>obtain ⟨σ7,H7,I7,n7⟩:=q7;exact again I7 n7
    | cont=>obtain ⟨σ7,H7,I7,n7⟩:=q7;exact again I7 n7
    | brk=>obtain ⟨σ7,H7,I7,q7⟩:=q7;exact ⟨σ7,H7,I7.unpinned,q7⟩
    | ret v=>obtain ⟨x7,σ7,H7,I7,r7,q7⟩:=q7;exact ⟨x7,σ7,H7,I7.unpinned,r7,q7⟩
end
theorem a9 {lo:Int} {n:Nat} {g:TG} {tb:TS} {D:Ends} {σ:St} {H:Hp} (Pv:Nat→St→Hp→Prop) (h0:Pv 0 σ H)
    (hs:∀ i σ H,i < n→Pv i σ H→g (.int (lo+i)) σ H fun σ2 H2=>tb { D with nx:=Pv (i+1),ct:=Pv (i+1),bk:=D.nx } σ2 H2) (hd:∀ σ H,Pv n σ H→D.nx σ H) :
    ∃ W:Nat→Nat→St→Hp→Prop,(∃ m,W 0 m σ H)∧∀ i m σ H,W i m σ H →
      ((Itr lo n).stop i H∧D.nx σ H)∨((Itr lo n).go i H∧∃ N:St→Hp→Prop,(∀ σ' H',N σ' H'→∃ m',m' < m∧W (i+1) m' σ' H')∧∀ x H',(Itr lo n).yld i H x H'→g x σ H' fun σ2 H2=>tb { D with nx:=N,ct:=N,bk:=D.nx } σ2 H2):=by
  refine ⟨fun i m σ H=>m=n - i∧i≤n∧Pv i σ H,⟨n,by simp,aaQ _,h0⟩,?_⟩;rintro i m σ H ⟨rfl,hi,p⟩;by_cases hlt:i < n
  · refine .inr ⟨hlt,Pv (i+1),fun σ' H' p'=>⟨n - (i+1),by lia,rfl,hlt,p'⟩,fun x H' y=>?_⟩;obtain ⟨e,y⟩:=y;subst e y;exact hs i σ _ hlt p
  · have e:i=n:=by lia
    subst e;exact .inl ⟨aah _,hd σ H p⟩
open PySem PySem.Spec PyProof.Rows
abbrev R2:=V→V→Hp→VK→Prop
def OpR (X:Cx) (f:Value→Value→Sem Value) (r:R2):Prop :=
  ∀ (pins:List (Addr × Obj)) (s:Shared) (σ:St) (H:Hp) (x y:V) (v u:Value) (Q:VK),Inv X pins σ H s→RelV x v→RelV y u→r x y H Q →
    wpAny (model X.prog X.w) X.A (f v u) (EP X pins σ Q) X.xe s
def UnR (X:Cx) (f:Value→Sem Value) (r:V→Hp→VK→Prop):Prop :=
  ∀ (pins:List (Addr × Obj)) (s:Shared) (σ:St) (H:Hp) (x:V) (v:Value) (Q:VK),Inv X pins σ H s→RelV x v→r x H Q →
    wpAny (model X.prog X.w) X.A (f v) (EP X pins σ Q) X.xe s
def bz (X:Cx) (f:Value) (r:List V→Hp→VK→Prop):Prop :=
  ∀ (pins:List (Addr × Obj)) (s:Shared) (σ:St) (H:Hp) (xs:List V) (us:List Value) (Q:VK),Inv X pins σ H s→Vals xs us→r xs H Q →
    wpAny (model X.prog X.w) X.A (call f us) (EP X pins σ Q) X.xe s
def tOp (r:R2) (ta tb:TE):TE:=fun σ H Q=>ta σ H fun x H1=>tb σ H1 fun y H2=>r x y H2 Q
def tUn (r:V→Hp→VK→Prop) (ta:TE):TE:=fun σ H Q=>ta σ H fun x H1=>r x H1 Q
def rI (C:Int→Int→Prop) (g:Int→Int→V):R2:=fun x y H Q=>∃ i j,x=.int i∧y=.int j∧C i j∧Q (g i j) H
def rI0 (g:Int→Int→V):R2:=fun x y H Q=>∃ i j,x=.int i∧y=.int j∧Q (g i j) H
def rU (g:Int→V):V→Hp→VK→Prop:=fun x H Q=>∃ i,x=.int i∧Q (g i) H
section
variable {X:Cx} {a b c:Expr} {ta tb tc:TE} {pos:Pos}
theorem rK (ha:PE X a ta) (hb:PE X b tb) {pins:List (Addr × Obj)} {s:Shared} {σ:St} {H:Hp} {R:V→V→Hp→Prop} (I:Inv X pins σ H s)
    (h:ta σ H fun x H1=>tb σ H1 fun y H2=>R x y H2) {Q:Value→Shared→Prop} {f:Value→Value→Sem Value}
    (hf:∀ v u s2 x y H2,Inv X pins σ H2 s2→RelV x v→RelV y u→R x y H2→wpAny (model X.prog X.w) X.A (f v u) Q X.xe s2) :
    wpAny (model X.prog X.w) X.A (eval a X.env) (fun v s₁=>wpAny (model X.prog X.w) X.A (eval b X.env) (fun u s₂=>wpAny (model X.prog X.w) X.A (f v u) Q X.xe s₂) X.xe s₁) X.xe s:=by
  refine thn (ha pins s σ H _ I h) fun v s1 ⟨x,H1,I1,r1,q1⟩=>?_;refine thn (hb pins s1 σ H1 _ I1 q1) fun u s2 ⟨y,H2,I2,r2,q2⟩=>?_;exact hf v u s2 x y H2 I2 r1 r2 q2
theorem ap {op:Operator} {r:R2} (ho:OpR X (binaryOp op) r) (ha:PE X a ta) (hb:PE X b tb):PE X (.BinOp a op b pos) (tOp r ta tb):=by
  intro pins s σ H Q I h;exact wpAny_BinOp (rK ha hb I h fun v u s2 x y H2 I2 rx ry q=>ho pins s2 σ H2 x y v u Q I2 rx ry q)
theorem gg {op:UnaryOp} {r:V→Hp→VK→Prop} (ho:UnR X (unaryOp op) r) (ha:PE X a ta):PE X (.UnaryOp op a pos) (tUn r ta):=by
  intro pins s σ H Q I h;exact UnaryOp_ (thn (ha pins s σ H _ I h) fun v s1 ⟨x,H1,I1,r1,q1⟩=>ho pins s1 σ H1 x v Q I1 r1 q1)
theorem opI {f:Value→Value→Sem Value} {C:Int→Int→Prop} {g:Int→Int→Int}
    (rule:∀ (i j:Int) (t u:Tok) (s:Shared) (Q:Value→Shared→Prop) (E:Value→Shared→Prop),C i j→Q (.int (g i j) s.toks) { s with toks:=s.toks+1 }→wpAny (model X.prog X.w) X.A (f (.int i t) (.int j u)) Q E s) :
    OpR X f (rI C fun i j=>.int (g i j)):=by
  intro pins s σ H x y v u Q I rx ry h;obtain ⟨i,j,rfl,rfl,hc,q⟩:=h;obtain ⟨t,rfl⟩:=rx;obtain ⟨t',rfl⟩:=ry;exact rule i j t t' s _ _ hc ⟨.int (g i j),H,I.tok _,⟨_,rfl⟩,q⟩
theorem sL {f:Value→Value→Sem Value} {g:Int→Int→Int}
    (rule:∀ (i j:Int) (t u:Tok) (s:Shared) (Q:Value→Shared→Prop) (E:Value→Shared→Prop),Q (.int (g i j) s.toks) { s with toks:=s.toks+1 }→wpAny (model X.prog X.w) X.A (f (.int i t) (.int j u)) Q E s) :
    OpR X f (rI0 fun i j=>.int (g i j)):=by
  intro pins s σ H x y v u Q I rx ry h;obtain ⟨i,j,rfl,rfl,q⟩:=h;obtain ⟨t,rfl⟩:=rx;obtain ⟨t',rfl⟩:=ry;exact rule i j t t' s _ _ ⟨.int (g i j),H,I.tok _,⟨_,rfl⟩,q⟩
theorem p8 {f:Value→Value→Sem Value} {g:Int→Int→Bool}
    (rule:∀ (i j:Int) (t u:Tok) (s:Shared) (Q:Value→Shared→Prop) (E:Value→Shared→Prop),Q (.bool (g i j)) s→wpAny (model X.prog X.w) X.A (f (.int i t) (.int j u)) Q E s) :
    OpR X f (rI0 fun i j=>.bl (g i j)):=by
  intro pins s σ H x y v u Q I rx ry h;obtain ⟨i,j,rfl,rfl,q⟩:=h;obtain ⟨t,rfl⟩:=rx;obtain ⟨t',rfl⟩:=ry;exact rule i j t t' s _ _ ⟨.bl (g i j),H,I,rfl,q⟩
def tF (i j:Int):Prop:=0≤j∧j≤1000000∧i.natAbs < 2 ^ 64
def CMul (i j:Int):Prop:=(-(2 ^ 64) < i∧i < 2 ^ 64)∨(-(2 ^ 64) < j∧j < 2 ^ 64)
theorem CMul.ok {i j:Int} (h:CMul i j):IntMulOk i j:=by
  rcases h with ⟨h1,h2⟩|⟨h1,h2⟩
  · exact .of_left (intBits_le_64 h1 h2)
  · exact .of_right (intBits_le_64 h1 h2)
theorem aX:OpR X (binaryOp .Add) (rI0 fun i j=>.int (i+j)):=sL fun _ _ _ _ _ _ _ q=>add_int q
theorem cB:OpR X (binaryOp .Sub) (rI0 fun i j=>.int (i - j)):=sL fun _ _ _ _ _ _ _ q=>sub_int q
theorem cC:OpR X (binaryOp .Mult) (rI CMul fun i j=>.int (i * j)):=opI fun _ _ _ _ _ _ _ hc q=>mul_int q hc.ok
theorem b5:OpR X (binaryOp .Mod) (rI (fun _ j=>0 < j) fun i j=>.int (i % j)):=opI fun i j _ _ _ _ _ hc q=>by
  have h1:(0:Int) < j:=hc;exact mod_int' (by lia) (by rw [Int.fmod_eq_emod_of_nonneg i (by lia)];exact q)
theorem dA:OpR X (binaryOp .Pow) (rI tF fun i j=>.int (i ^ j.toNat)):=opI fun _ _ _ _ _ _ _ hc q=>pow_int_small hc.1 hc.2.1 hc.2.2 q
theorem unI {f:Value→Sem Value} {g:Int→Int}
    (rule:∀ (i:Int) (t:Tok) (s:Shared) (Q:Value→Shared→Prop) (E:Value→Shared→Prop),Q (.int (g i) s.toks) { s with toks:=s.toks+1 }→wpAny (model X.prog X.w) X.A (f (.int i t)) Q E s) :
    UnR X f (rU fun i=>.int (g i)):=by
  intro pins s σ H x v Q I rx h;obtain ⟨i,rfl,q⟩:=h;obtain ⟨t,rfl⟩:=rx;exact rule i t s _ _ ⟨.int (g i),H,I.tok _,⟨_,rfl⟩,q⟩
theorem dU:UnR X (unaryOp .USub) (rU fun i=>.int (-i)):=unI fun _ _ _ _ _ q=>neg_int q
end
def sh:V→V→Bool
  | .non,.non=>true|.non,.int _=>true|.int _,.non=>true|.non,.bl _=>true|.bl _,.non=>true|.non,.str _=>true|.str _,.non=>true
  | .int _,.int _=>true|.bl _,.bl _=>true|.str _,.str _=>true|.byt _,.byt _=>true
  | .int _,.str _=>true|.str _,.int _=>true|.bl _,.str _=>true|.str _,.bl _=>true
  | _,_=>false
def rEq:R2:=fun x y H Q=>sh x y=true∧Q (.bl (decide (x=y))) H
def rNe:R2:=fun x y H Q=>sh x y=true∧Q (.bl (!decide (x=y))) H
theorem mC {i j:Int}:decide (V.int i=V.int j)=(i == j):=by
  rw [acb];simp
theorem py {i j:Bool}:decide (V.bl i=V.bl j)=(i == j):=by
  rw [acb];simp
theorem mB {i j:Str}:decide (V.str i=V.str j)=(i == j):=by
  rw [acb];simp
theorem mD {i j:Array UInt8}:decide (V.byt i=V.byt j)=(i.toList == j.toList):=by
  rw [acb];cases i;cases j;simp
section
variable {X:Cx} {a b c:Expr} {ta tb tc:TE} {pos:Pos}
theorem aI {pins:List (Addr × Obj)} {σ:St} {H:Hp} {s:Shared} {Q:VK} {k k':Bool} (I:Inv X pins σ H s) (q:Q (.bl k) H) (e:k=k'):EP X pins σ Q (.bool k') s:=by
  subst e;exact ⟨.bl k,H,I,rfl,q⟩
theorem bj:OpR X (compareOp .Eq) rEq:=by
  intro pins s σ H x y v u Q I rx ry h;obtain ⟨hs,q⟩:=h;cases x with
  | non =>
    cases rx;cases y with
    | non=>cases ry;exact PySem.EqNone.eq_none_none (aI I q (by simp))
    | bl j=>cases ry;exact PySem.EqNone.eq_none_bool (aI I q (by simp))
    | int j=>obtain ⟨t',rfl⟩:=ry;exact PySem.EqNone.eq_none_int (aI I q (by simp))
    | str j=>obtain ⟨t',rfl⟩:=ry;exact PySem.EqNone.eq_none_str (aI I q (by simp))
    | _=>exact absurd (show false=true from hs) aae
  | bl i =>
    cases rx;cases y with
    | non=>cases ry;exact PySem.EqNone.eq_bool_none (aI I q (by simp))
    | bl j=>cases ry;exact eq_bool (aI I q py)
    | str j=>obtain ⟨t',rfl⟩:=ry;exact PySem.EqMixed.eq_bool_str (aI I q (by simp))
    | _=>exact absurd (show false=true from hs) aae
  | int i =>
    obtain ⟨t,rfl⟩:=rx;cases y with
    | non=>cases ry;exact PySem.EqNone.eq_int_none (aI I q (by simp))
    | int j=>obtain ⟨t',rfl⟩:=ry;exact eq_int (aI I q mC)
    | str j=>obtain ⟨t',rfl⟩:=ry;exact PySem.EqMixed.eq_int_str (aI I q (by simp))
    | _=>exact absurd (show false=true from hs) aae
  | str i =>
    obtain ⟨t,rfl⟩:=rx;cases y with
    | non=>cases ry;exact PySem.EqNone.eq_str_none (aI I q (by simp))
    | bl j=>cases ry;exact PySem.EqMixed.eq_str_bool (aI I q (by simp))
    | int j=>obtain ⟨t',rfl⟩:=ry;exact PySem.EqMixed.eq_str_int (aI I q (by simp))
    | str j=>obtain ⟨t',rfl⟩:=ry;exact eq_str (aI I q mB)
    | _=>exact absurd (show false=true from hs) aae
  | byt i =>
    obtain ⟨t,rfl⟩:=rx;cases y with
    | byt j=>obtain ⟨t',rfl⟩:=ry;exact PySem.W.eq_bytes (aI I q mD)
    | _=>exact absurd (show false=true from hs) aae
  | _=>cases y <;> exact absurd (show false=true from hs) aae
theorem g0:OpR X (compareOp .NotEq) rNe:=by
  intro pins s σ H x y v u Q I rx ry h;obtain ⟨hs,q⟩:=h;cases x with
  | non =>
    cases rx;cases y with
    | non=>cases ry;exact PySem.EqNone.ne_none_none (aI I q (by simp))
    | bl j=>cases ry;exact PySem.EqNone.ne_none_bool (aI I q (by simp))
    | int j=>obtain ⟨t',rfl⟩:=ry;exact PySem.EqNone.ne_none_int (aI I q (by simp))
    | str j=>obtain ⟨t',rfl⟩:=ry;exact PySem.EqNone.ne_none_str (aI I q (by simp))
    | _=>exact absurd (show false=true from hs) aae
  | bl i =>
    cases rx;cases y with
    | non=>cases ry;exact PySem.EqNone.ne_bool_none (aI I q (by simp))
    | bl j=>cases ry;exact ne_bool (aI I q (congrArg not py))
    | str j=>obtain ⟨t',rfl⟩:=ry;exact PySem.EqMixed.ne_bool_str (aI I q (by simp))
    | _=>exact absurd (show false=true from hs) aae
  | int i =>
    obtain ⟨t,rfl⟩:=rx;cases y with
    | non=>cases ry;exact PySem.EqNone.ne_int_none (aI I q (by simp))
    | int j=>obtain ⟨t',rfl⟩:=ry;exact ne_int (aI I q (congrArg not mC))
    | str j=>obtain ⟨t',rfl⟩:=ry;exact PySem.EqMixed.ne_int_str (aI I q (by simp))
    | _=>exact absurd (show false=true from hs) aae
  | str i =>
    obtain ⟨t,rfl⟩:=rx;cases y with
    | non=>cases ry;exact PySem.EqNone.ne_str_none (aI I q (by simp))
    | bl j=>cases ry;exact PySem.EqMixed.ne_str_bool (aI I q (by simp))
    | int j=>obtain ⟨t',rfl⟩:=ry;exact PySem.EqMixed.ne_str_int (aI I q (by simp))
    | str j=>obtain ⟨t',rfl⟩:=ry;exact ne_str (aI I q (congrArg not mB))
    | _=>exact absurd (show false=true from hs) aae
  | byt i =>
    obtain ⟨t,rfl⟩:=rx;cases y with
    | byt j=>obtain ⟨t',rfl⟩:=ry;exact PySem.W.ne_bytes (aI I q (congrArg not mD))
    | _=>exact absurd (show false=true from hs) aae
  | _=>cases y <;> exact absurd (show false=true from hs) aae
theorem sG:OpR X (compareOp .Lt) (rI0 fun i j=>.bl (decide (i < j))):=p8 fun _ _ _ _ _ _ _ q=>lt_int q
theorem gj:OpR X (compareOp .LtE) (rI0 fun i j=>.bl (decide (i≤j))):=p8 fun _ _ _ _ _ _ _ q=>le_int q
theorem qz:OpR X (compareOp .Gt) (rI0 fun i j=>.bl (decide (j < i))):=p8 fun _ _ _ _ _ _ _ q=>gt_int q
theorem sJ:OpR X (compareOp .GtE) (rI0 fun i j=>.bl (decide (j≤i))):=p8 fun _ _ _ _ _ _ _ q=>ge_int q
theorem oC:OpR X (compareOp .Is) (fun x y H Q=>y=.non∧Q (.bl (decide (x=.non))) H):=by
  intro pins s σ H x y v u Q I rx ry h;obtain ⟨rfl,q⟩:=h;cases ry;refine is_none_gen (aI I q ?_);cases x <;> first
    | (cases rx;rfl)
    | (obtain ⟨t,rfl⟩:=rx;rfl)
theorem ay (b:Expr) {op:CmpOp} (h:op≠.In:=by decide) (h2:op≠.NotIn:=by decide):behindInMarks op b=false:=by
  have e1:(op == CmpOp.In)=false:=by cases op <;> first|rfl|exact absurd rfl h
  have e2:(op == CmpOp.NotIn)=false:=by cases op <;> first|rfl|exact absurd rfl h2
  cases b <;> simp [behindInMarks,e1,e2]
theorem aQ {op:CmpOp} {r:R2} (ho:OpR X (compareOp op) r) (ha:PE X a ta) (hb:PE X b tb) (hm:behindInMarks op b=false):PE X (.Compare a [op] [b] pos) (tOp r ta tb):=by
  intro pins s σ H Q I h;exact wpAny_Compare1 (rK ha hb I h fun v u s2 x y H2 I2 rx ry q=>ho pins s2 σ H2 x y v u Q I2 rx ry q) hm
def nW (t:TE):TT:=fun σ H Q=>t σ H fun x H'=>∃ k,x=.bl k∧Q k H'
theorem aG {op:CmpOp} {r:R2} (ho:OpR X (compareOp op) r) (ha:PE X a ta) (hb:PE X b tb) (hm:behindInMarks op b=false):PT X (.Compare a [op] [b] pos) (nW (tOp r ta tb)):=by
  intro pins s σ H Q I h;refine wpAny_isTrue_Compare1 (thn (ha pins s σ H _ I h) fun v s1 ⟨x,H1,I1,r1,q1⟩=>thn (hb pins s1 σ H1 _ I1 q1) fun u s2 ⟨y,H2,I2,r2,q2⟩ =>
    thn (ho pins s2 σ H2 x y v u _ I2 r1 r2 q2) fun c s3 ⟨z,H3,I3,r3,k,e,q3⟩=>?_) hm
  subst e;cases r3;exact wpAny_truthy_bool ⟨H3,I3,q3⟩
def qO (r r':R2) (ta tb tc:TE):TE:=fun σ H Q=>ta σ H fun x H1=>tb σ H1 fun y H2=>r x y H2 fun z H3=>∃ k,z=.bl k ∧
  (if k=true then tc σ H3 fun w' H4=>r' y w' H4 Q else Q (.bl false) H3)
theorem oh {op op':CmpOp} {r r':R2} (ho:OpR X (compareOp op) r) (ho':OpR X (compareOp op') r') (ha:PE X a ta) (hb:PE X b tb) (hc:PE X c tc)
    (hm:lastMarks [op,op'] [b,c]=false:=by with_unfolding_all rfl):PT X (.Compare a [op,op'] [b,c] pos) (nW (qO r r' ta tb tc)):=by
  intro pins s σ H Q I h;refine isTrue_chain (thn (ha pins s σ H _ I h) fun v s1 ⟨x,H1,I1,r1,q1⟩=>test_link (thn (hb pins s1 σ H1 _ I1 q1) fun u s2 ⟨y,H2,I2,r2,q2⟩ =>
    thn (ho pins s2 σ H2 x y v u _ I2 r1 r2 q2) fun d s3 ⟨z,H3,I3,r3,k,e,q3⟩=>?_)) hm
  subst e;cases r3;refine wpAny_truthy_bool ?_;cases k with
  | false =>
    obtain ⟨k',e',q'⟩:=q3;cases e';exact ite_ff ⟨H3,I3,q'⟩
  | true =>
    refine ite_tt (test_last (thn (hc pins s3 σ H3 _ I3 q3) fun w' s4 ⟨z',H4,I4,r4,q4⟩=>thn (ho' pins s4 σ H4 y z' u w' _ I4 r2 r4 q4) fun d' s5 ⟨z2,H5,I5,r5,k2,e2,q5⟩=>?_));subst e2;cases r5;exact wpAny_truthy_bool ⟨H5,I5,q5⟩
theorem fw:(sizeLine:Nat) < 2 ^ 63:=by rw [sizeLine_eq];decide
theorem cn {x:V} {us:List Value} (r:Vals [x] us):∃ u,us=[u]∧RelV x u:=by
  cases r with
  | cons r1 r2=>cases r2;exact ⟨_,rfl,r1⟩
theorem ja {x y:V} {us:List Value} (r:Vals [x,y] us):∃ u w',us=[u,w']∧RelV x u∧RelV y w':=by
  cases r with
  | cons r1 r2 =>
    cases r2 with
    | cons r3 r4=>cases r4;exact ⟨_,_,rfl,r1,r3⟩
theorem bP:bz X (.type "int") (fun xs H Q=>(∃ i,xs=[.int i]∧Q (.int i) H)∨∃ k,xs=[.bl k]∧Q (.int (if k then 1 else 0)) H):=by
  intro pins s σ H xs us Q I r h;rcases h with ⟨i,rfl,q⟩|⟨k,rfl,q⟩
  · obtain ⟨u,rfl,t,rfl⟩:=cn r;exact call_int_int ⟨.int i,H,I,⟨_,rfl⟩,q⟩
  · obtain ⟨u,rfl,r1⟩:=cn r;cases r1;exact call_int_bool ⟨.int (if k then 1 else 0),H,I.tok _,⟨_,rfl⟩,q⟩
end
open PySem PySem.Spec PyProof.Rows
structure ObjM (h:Heap) (x dx C:Addr) (mA:Str→Option Value):Prop where
  obj:h.get? x=some (PySem.W.instObj C dx)
  ns:h.Ns1 dx mA
  ne:dx≠x
theorem nB {h:Heap} {dx:Addr} {mA:Str→Option Value} (n:h.Ns1 dx mA):∃ od,h.get? dx=some od∧∀ name,PySem.W.lookIn name od=some (mA name):=by
  obtain ⟨o,es,ep,ho,hd,hk,_,hm⟩:=n;refine ⟨o,ho,fun name=>?_⟩;have e:=hm name;unfold nsFind findBy at e;rw [← Array.find?_toList] at e;unfold PySem.W.lookIn;rw [hd];dsimp only;split
  · rename_i y q;rw [q] at e;exact congrArg some e
  · rename_i q;rw [q] at e;have a:es.toList.any (·.refKey)=false:=by
      rw [List.any_eq_false];intro y hy;obtain ⟨z,t,hkey⟩:=hk y (Array.mem_toList_iff.mp hy);simp [DictEntry.refKey,hkey]
    have a':¬ es.toList.any (·.refKey)=true:=by rw [a];exact aae
    rw [if_neg a'];exact congrArg some e
theorem ObjM.look {h:Heap} {x dx C:Addr} {mA:Str→Option Value} (I:ObjM h x dx C mA):∃ od,PySem.W.InstAt h x (PySem.W.instObj C dx) C (some od)∧∀ name,PySem.W.lookIn name od=some (mA name) :=
  let ⟨od,ho,hl⟩:=nB I.ns
  ⟨od,⟨I.obj,rfl,rfl,ho⟩,hl⟩
section
variable {prog:Program} {w:World} {A:Around} {E:Value→Shared→Prop} {s:Shared} {K:aaa} {x dx C f:Addr} {mA:Str→Option Value} {name:Str} {v:Value}
end
theorem RelO.some_of {v:V} {o:Option Value} (r:RelO (some v) o):∃ u,o=some u∧RelV v u:=by
  cases o with
  | none=>exact (show False from r).elim
  | some u=>exact ⟨u,rfl,r⟩
section
variable {P:Program} {w:World} {H H':Hp} {h h':Heap} {a C dx:Addr} {fs fs':List (Str × V)}
theorem mq (hok:HOk P w H h) (e:H a=some (.ins C dx fs)):∃ mA,ObjM h a dx C mA∧(∀ f,RelO (fs.lookup f) (mA f))∧PySem.Within mA (fs.map (·.1))∧fs.length≤1000∧H dx=some (.own a):=by
  obtain ⟨d,z,ne,ob,mA,n,r,q⟩:=(show ObjOk P w H h a (.ins C dx fs) from hok a _ e)
  exact ⟨mA,⟨ob,n,ne⟩,r,q,z,d⟩
end
structure Cls (K:aaa) (C:Addr):Prop where
  pg:PySem.W.plainGet K C Str.empty=true
  hd:PySem.W.hasDictIn K C=true
  po:PySem.W.plainOver K C=true
  sa:acr K (.ref C) "__setattr__" = some (some (.builtin "object.__setattr__"))
theorem Cls.get {K:aaa} {C:Addr} (c:Cls K C) (f:Str):PySem.W.plainGet K C f=true:=c.pg
structure Con (K:aaa) (C:Addr) (f:Str) (v:V) (u:Value):Prop where
  at_:acr K (.ref C) f=some (some u)
  rel:RelV v u
  get:PySem.W.specialIn K u "__get__" = some none
  cp:PySem.W.copiedNames.contains f=false
structure Meth (K:aaa) (C:Addr) (m:Str) (f:Addr):Prop where
  at_:acr K (.ref C) m=some (some (.ref f))
  fn:PySem.W.isFn K (.ref f)=true
  kp:abk K (.ref f)=true
section
variable {X:Cx} {pins:List (Addr × Obj)} {σ:St} {H:Hp} {s:Shared} {a C dx:Addr} {fs:List (Str × V)} {f:Str} {v:V} {A:Around} {E:Value→Shared→Prop}
end
section
variable {X:Cx} {o e value:Expr} {f:Str} {pos pos' tpos:Pos} {ta tv:TE}
end
section
variable {X:Cx} {pins:List (Addr × Obj)} {σ:St} {H:Hp} {s:Shared} {A:Around} {E:Value→Shared→Prop} {Q:Value→Shared→Prop} {c:Value} {b:Bool}
inductive TyOf (K:aaa) (H:Hp):V→Value→Prop where
  | non:TyOf K H .non (.type "NoneType")
  | bl (x:Bool):TyOf K H (.bl x) (.type "bool")
  | int (i:Int):TyOf K H (.int i) (.type "int")
  | str (x:Str):TyOf K H (.str x) (.type "str")
  | flt (x:UInt64):TyOf K H (.flt x) (.type "float")
  | lst {a:Addr} {xs:List V} (e:H a=some (.lst xs)):TyOf K H (.ref a) (.type "list")
  | frz {a:Addr} {o:Obj} {xs:List V} (e:H a=some (.frz o (.lst xs))):TyOf K H (.ref a) (.type "list")
  | tup {a:Addr} {xs:List V} (e:H a=some (.tup xs)):TyOf K H (.ref a) (.type "tuple")
  | dK {a:Addr} {kvs:List (Key × V)} (e:H a=some (.dK kvs)):TyOf K H (.ref a) (.type "dict")
  | dT {a:Addr} {kvs:List (List Key × V)} (e:H a=some (.dT kvs)):TyOf K H (.ref a) (.type "dict")
  | ins {a C dx:Addr} {fs:List (Str × V)} (e:H a=some (.ins C dx fs)) (cl:Cls K C) (ha:acr K (.ref C) "__class__" = some (some (.builtin "object.__class__")))
      (hn:PySem.W.specialIn K (.builtin "object.__class__") "__get__" = some (some (.builtin "getset_descriptor.__get__"))) (htk:PySem.W.takesIn K (.builtin "object.__class__")=some true)
      (hm:PySem.W.mroIn K C (.type "object")=some true):TyOf K H (.ref a) (.ref C)
theorem hW {x:V} {u t:Value} (I:Inv X pins σ H s) (rx:RelV x u) (ty:TyOf X.K H x t) (e:abM X.K t c=some b) (h:∀ tk,Q (.bool b) { s with toks:=tk }) :
    wpAny (model X.prog X.w) A (call (.builtin "isinstance") [u,c]) Q E s:=by
  cases ty with
  | non=>cases (show u=Value.none from rx);exact aa3 PySem.W.kitx_none I.kIn True.intro e (fun z=>nomatch z) h
  | bl y=>cases (show u=Value.bool y from rx);exact aa3 PySem.W.kitx_bool I.kIn True.intro e (fun z=>nomatch z) h
  | int i=>obtain ⟨t,q⟩:=(show ∃ t,u=Value.int i t from rx);cases q;exact aa3 PySem.W.kitx_int I.kIn True.intro e (fun z=>nomatch z) h
  | str y=>obtain ⟨t,q⟩:=(show ∃ t,u=Value.str y t from rx);cases q;exact aa3 PySem.W.kitx_str I.kIn True.intro e (fun z=>nomatch z) h
  | flt y=>obtain ⟨t,q⟩:=(show ∃ t,u=Value.float y t from rx);cases q;exact aa3 PySem.W.kitx_float I.kIn True.intro e (fun z=>nomatch z) h
  | @lst a xs ea =>
    cases (show u=Value.ref a from rx);obtain ⟨_,_,n,_,h1⟩:=(show ObjOk X.prog X.w H s.heap a (.lst xs) from I.hok a _ ea)
    exact aa3 acn I.kIn ⟨_,h1,rfl⟩ e (fun z=>nomatch z) h
  | @frz a ob xs ea =>
    cases (show u=Value.ref a from rx);obtain ⟨_,_,_,n,_,h1⟩:=(show ObjOk X.prog X.w H s.heap a (.frz ob (.lst xs)) from I.hok a _ ea)
    exact aa3 acn I.kIn ⟨_,h1,rfl⟩ e (fun z=>nomatch z) h
  | @tup a xs ea =>
    cases (show u=Value.ref a from rx);obtain ⟨_,_,_,p⟩:=(show ObjOk X.prog X.w H s.heap a (.tup xs) from I.hok a _ ea)
    obtain ⟨o,h1,h2,_⟩:=p;exact aa3 PySem.W.kitx_tuple I.kIn ⟨o,h1,h2⟩ e (fun z=>nomatch z) h
  | @dK a kvs ea =>
    cases (show u=Value.ref a from rx);obtain ⟨_,_,vs,_,p⟩:=(show ObjOk X.prog X.w H s.heap a (.dK kvs) from I.hok a _ ea)
    obtain ⟨o,es,ep,h1,h2,_⟩:=p;exact aa3 ab0 I.kIn ⟨o,h1,h2.1⟩ e (fun z=>nomatch z) h
  | @dT a kvs ea =>
    cases (show u=Value.ref a from rx);obtain ⟨_,_,xs,_,o,es,ep,h1,h2,_⟩:=(show ObjOk X.prog X.w H s.heap a (.dT kvs) from I.hok a _ ea)
    exact aa3 ab0 I.kIn ⟨o,h1,h2.1⟩ e (fun z=>nomatch z) h
  | @ins a C dx fs ea cl ha hn htk hm =>
    cases (show u=Value.ref a from rx);obtain ⟨mA,O,_⟩:=mq I.hok ea;obtain ⟨od,J,_⟩:=O.look;exact aa3 (PySem.W.kitx_own (cl.get _) cl.hd ha hn htk hm) I.kIn J e (fun z=>nomatch z) h
end
open PySem PySem.Spec PyProof.Rows
structure Room (k:Nat) (A:Around):Prop where
  hd:A.handled=none
  dp:A.depth+3 * k+5 < recursionLimit
  un:A.units+16 * k+200 < cLine
  gd:A.guards=some []
theorem Room.mono {j k:Nat} {A:Around} (r:Room k A) (h:j≤k):Room j A:=⟨r.hd,by have:=r.dp;lia,by have:=r.un;lia,r.gd⟩
theorem Room.deeper {k:Nat} {A:Around} (r:Room (k+1) A) (env:Env):Room k (A.deeper env) :=
  ⟨r.hd,by have:=r.dp;show A.depth+1+3 * k+5 < _;lia,by have:=r.un;show A.units+3+16 * k+200 < _;lia,r.gd⟩
theorem Room.depth {k:Nat} {A:Around} (r:Room k A):A.depth < recursionLimit:=by have:=r.dp;lia
theorem Room.units {k:Nat} {A:Around} (r:Room k A):A.units+64 < cLine:=by have:=r.un;lia
def tL:TA:=fun _ H Q=>Q [] H
def r_ (ta:TE) (tr:TA):TA:=fun σ H Q=>ta σ H fun x H1=>tr σ H1 fun xs H2=>Q (x :: xs) H2
section
variable {X:Cx} {e:Expr} {es:List Expr} {te:TE} {t:TA} {pos:Pos}
theorem ac:PA X [] tL:=fun _ _ _ _ H Q I h=>Calls.spliced_nil ⟨[],H,I,.nil,h⟩
theorem aa (ha:PE X e te) (hr:PA X es t) (hs:starEach (e :: es) X.env=(false,eval e X.env) :: starEach es X.env:=by rfl):PA X (e :: es) (r_ te t):=by
  intro pos pins s σ H Q I h;rw [hs];show wpAny _ _ (spliced ((false,eval e X.env) :: backTo pos (starEach es X.env))) _ _ s;refine acd (thn (ha pins s σ H _ I h) fun u s1 ⟨x,H1,I1,r1,q1⟩=>?_);exact thn (hr pos pins s1 σ H1 _ I1 q1) fun us s2 ⟨xs,H2,I2,r2,q2⟩=>⟨x :: xs,H2,I2,.cons r1 r2,q2⟩
def tG (t:TA):TE:=fun σ H Q=>t σ H fun xs H1=>xs.length≤sizeLine∧∀ p,H1 p=none→Q (.ref p) (upd H1 p (.tup xs))
def tM (t:TA):TE:=fun σ H Q=>t σ H fun xs H1=>xs.length≤sizeLine∧∀ p,H1 p=none→Q (.ref p) (upd H1 p (.lst xs))
theorem au {x1} (h:PA X es t):PE X (.Tuple es x1 pos) (tG t):=by
  intro pins s σ H Q I hq;refine wpAny_Tuple_spliced (thn (h pos pins s σ H _ I hq) fun us s1 ⟨xs,H1,I1,r,z,q⟩=>⟨by rw [← r.length];exact z,?_⟩);have hf:H1 s1.heap.objs.size=none:=I1.hok.fresh (aah _);refine ⟨.ref s1.heap.objs.size,upd H1 s1.heap.objs.size (.tup xs),I1.laid (t':=s1.toks) (fun b u e=>aaf _ e) (aah _) ?_,rfl,q _ hf⟩;exact ⟨z,us,r,⟨_,aao _ rfl,rfl,_,rfl⟩⟩
theorem aN (h:PA X es t):PE X (.List es pos) (tM t):=by
  intro pins s σ H Q I hq;refine wpAny_List_spliced (thn (h pos pins s σ H _ I hq) fun us s1 ⟨xs,H1,I1,r,z,q⟩=>⟨by rw [← r.length];exact z,?_⟩);have hf:H1 s1.heap.objs.size=none:=I1.hok.fresh (aah _);refine ⟨.ref s1.heap.objs.size,upd H1 s1.heap.objs.size (.lst xs),I1.laid (t':=s1.toks) (fun b u e=>aaf _ e) (aah _) ?_,rfl,q _ hf⟩;exact ⟨z,us,0,r,aao _ rfl⟩
end
abbrev Sp:=List V→Hp→VK→XK→Prop
abbrev CXT:=List Env→Hp→Shared→XK→Value→Shared→Prop
structure Env0 (P:Program) (w:World) (K:aaa) (mg:Str→Option Value) (base:Heap) (A:Around) (outer:List Env) (s:Shared) (H:Hp):Prop where
  frames:A.frames=some outer
  mod:Mod K mg base
  bs:∀ b o,base.get? b=some o→s.heap.get? b=some o∧H b=none
  bsz:base.objs.size≤s.heap.objs.size
  funs:s.heap.FunFrames base outer
  frf:∀ b∈frs outer,H b=none
  hok:HOk P w H s.heap
  bare:AllBare s.gens
def CE (outer:List Env) (P:Program) (w:World) (H:Hp) (s:Shared) (Q:VK) (u:Value) (s':Shared):Prop :=
  ∃ v H',s'.os=s.os∧AllBare s'.gens∧Un (frs outer) [] H H' s.heap s'.heap∧HOk P w H' s'.heap∧RelV v u∧Q v H'
def CR (CX:CXT) (outer:List Env) (P:Program) (w:World) (H:Hp) (s:Shared) (Q:VK) (E:XK) (r:Result) (s':Shared):Prop :=
  match r with
  | .ok (.ret u)=>CE outer P w H s Q u s'
  | .ok _=>False
  | .error e=>CX outer H s E e s'
structure FnOk (P:Program) (w:World) (K:aaa) (mg:Str→Option Value) (base:Heap) (CX:CXT) (k:Nat) (f:Addr) (fd:FuncData) (ps:List Str) (sp:Sp):Prop where
  len:∀ vs H Q E,sp vs H Q E→vs.length=ps.length
  run:∀ (A:Around) (outer:List Env) (s:Shared) (H:Hp) (args:Args) (us:List Value) (vs:List V) (Q:VK) (E:XK),Room k A→Env0 P w K mg base A outer s H→BindsTo s fd args (ps.zip us)→Vals vs us→sp vs H Q E →
    codeAny (model P w) A (.call (.ref f) args) (CR CX outer P w H s Q E) s
section
variable {X:Cx} {pins:List (Addr × Obj)} {σ:St} {H:Hp} {s s':Shared}
theorem Inv.env0 (I:Inv X pins σ H s):Env0 X.prog X.w X.K X.mg X.base X.A X.stack s H :=
  ⟨I.ok.frames,I.ok.mod,I.bs,aaG I.ok.bsz I.sz,I.stack,I.stkFree,I.hok,I.bare⟩
theorem Inv.after {Q:VK} {u:Value} (I:Inv X pins σ H s) (h:CE X.stack X.prog X.w H s Q u s'):EP X pins σ Q u s':=by
  obtain ⟨v,H',os,bare,un,hok,r,q⟩:=h;obtain ⟨hh,g,d,t,os'⟩:=s';obtain rfl:os'=s.os:=os;exact ⟨v,H',I.call (h':=hh) (g':=g) (d':=d) (t':=t) (ch:=[]) un hok bare (fun b z=>absurd z (by simp)),r,q⟩
end
def qx (sp:Sp) (dvs:List V) (E:XK) (t:TA):TE:=fun σ H Q=>t σ H fun vs H1=>sp (vs++dvs) H1 Q E
def Binds (K:aaa) (fd:FuncData) (ps:List Str) (ds:List Value):Prop :=
  ∀ (s:Shared) (us:List Value),K.In s.heap→(us++ds).length=ps.length→BindsTo s fd ⟨us,[]⟩ (ps.zip (us++ds))
theorem Binds.all {K:aaa} {fd:FuncData} {ps:List Str} (h:∀ us:List Value,us.length=ps.length→bindArgs fd ⟨us,[]⟩=pure (ps.zip us)):Binds K fd ps []:=fun s us _ hl=>by
  rw [List.append_nil] at hl ⊢;exact .of_eq (h us hl)
def lB (CX:CXT) (X:Cx) (E:XK):Prop:=∀ (pins:List (Addr × Obj)) (σ:St) (H:Hp) (s:Shared) (e:Value) (s':Shared),Inv X pins σ H s→CX X.stack H s E e s'→X.xe e s'
section
variable {X:Cx} {CX:CXT} {k:Nat} {f C:Addr} {fd:FuncData} {ps:List Str} {sp:Sp} {dvs:List V} {ds:List Value} {E:XK} {x m:Str} {p pos apos:Pos} {e o:Expr} {es:List Expr} {ta:TE} {t:TA}
theorem qR {pins:List (Addr × Obj)} {σ:St} {H:Hp} {s:Shared} {Q:VK} {us:List Value} {vs:List V} (F:FnOk X.prog X.w X.K X.mg X.base CX k f fd ps sp) (hr:Room k X.A) (hb:Binds X.K fd ps ds) (hd:Vals dvs ds) (hx:lB CX X E)
    (I:Inv X pins σ H s) (r:Vals vs us) (h:sp (vs++dvs) H Q E):wpAny (model X.prog X.w) X.A (call (.ref f) us) (EP X pins σ Q) X.xe s:=by
  have r2:Vals (vs++dvs) (us++ds):=r.append hd;have hl:(us++ds).length=ps.length:=by rw [← r2.length];exact F.len _ _ _ _ h
  refine wpAny_call (codeAny_mono (F.run X.A X.stack s H ⟨us,[]⟩ (us++ds) (vs++dvs) Q E hr I.env0 (hb s us I.kIn hl) r2 h) fun r s' hq=>?_);cases r with
  | error e=>exact hx pins σ H s e s' I hq
  | ok fl =>
    cases fl with
    | ret u=>exact I.after hq
    | next=>exact abY hq
    | brk=>exact abY hq
    | cont=>exact abY hq
theorem pY (F:FnOk X.prog X.w X.K X.mg X.base CX k f fd ps sp) (hr:Room k X.A) (hg:Gl X x) (hm:X.mg x=some (.ref f)) (hk:abk X.K (.ref f)=true) (hb:Binds X.K fd ps ds) (hd:Vals dvs ds) (hx:lB CX X E)
    (ha:PA X (e :: es) t) (hdb:(x == ("__debug__":Str))=false:=by decide) (he:starEach (e :: es) X.env=(false,eval e X.env) :: starEach es X.env:=by rfl) (hpl:(backTo pos (starEach es X.env)).any (·.1)=false:=by rfl) :
    PE X (.Call (.Name x p) (e :: es) [] pos) (qx sp dvs E t):=by
  intro pins s σ H Q I h;refine wpAny_Call_Name_kw (mk I hg hm ?_ hdb);refine PySem.W.callWith_K (h₀:=X.base) I.ok.mod.kin hk (thn (ha pos pins s σ H _ I h) fun us s1 ⟨vs,H1,I1,r,q⟩=>⟨I1.kIn,?_⟩) he hpl;exact qR F hr hb hd hx I1 r q
structure Mk (K:aaa) (C f:Addr):Prop where
  makes:PySem.W.makesIn K C=true
  init:acr K (.ref C) "__init__" = some (some (.ref f))
  fn:PySem.W.isFn K (.ref f)=true
  kp:abk K (.ref C)=true
end
section
variable {X:Cx} {CX:CXT} {k:Nat} {f C:Addr} {fd:FuncData} {ps ks:List Str} {sp:Sp} {E:XK} {x m:Str} {p pos apos kpos:Pos} {e o:Expr} {es:List Expr} {kws:List Keyword} {te ta:TE} {t tk:TA} {nm:Option Str}
structure KBinds (K:aaa) (fd:FuncData) (ps ks:List Str) (g:List Value→List Value→List Value) (gV:List V→List V→List V):Prop where
  to:∀ (s:Shared) (us ws:List Value),K.In s.heap→(g us ws).length=ps.length→BindsTo s fd ⟨us,ks.zip ws⟩ (ps.zip (g us ws))
  rel:∀ {vs:List V} {us:List Value} {zs:List V} {ws:List Value},Vals vs us→Vals zs ws→Vals (gV vs zs) (g us ws)
variable {g:List Value→List Value→List Value} {gV:List V→List V→List V}
end
structure FnScope (N P:List Str) (sc:Scope):Prop where
  kind:sc.kind=.function
  co:sc.isCoroutine=false
  gen:sc.isGenerator=false
  nd:N.Nodup
  pre:N.take P.length=P
  par:∀ x∈P,sc.names.lookup x=some .local∨sc.names.lookup x=some .cell
  nofree:∀ y∈sc.names,y.2≠.free
theorem ia {kindOf:Str→Option NameKind} {x:Str}:∀ {binds:List (Str × Value)} {m:Str→Option Value},(∀ v,(x,v)∉binds)→bindL kindOf binds m x=m x
  | [],_,_=>rfl
  | (n,v) :: r,m,h=>by
    unfold bindL;rw [ia fun w hw=>h w (aak _ hw)];split
    · have : x≠n:=by rintro rfl;exact h v aaq
      simp [this]
    · rfl
theorem ic {kindOf:Str→Option NameKind} {x:Str}:∀ {binds:List (Str × Value)} {m:Str→Option Value},(∀ v,(x,v)∉binds)→bindC kindOf binds m x=m x
  | [],_,_=>rfl
  | (n,v) :: r,m,h=>by
    unfold bindC;rw [ic fun w hw=>h w (aak _ hw)];split
    · rfl
    · have : x≠n:=by rintro rfl;exact h v aaq
      simp [this]
theorem ib {kindOf:Str→Option NameKind} {x:Str} {v:Value}:∀ {P:List Str} {vs:List Value} {i:Nat} {m:Str→Option Value},P.Nodup→P[i]?=some x→vs[i]?=some v→kindOf x=some .local →
    bindL kindOf (P.zip vs) m x=some v
  | [],_,_,_,_,h,_,_=>by simp at h
  | _ :: _,[],_,_,_,_,h,_=>by simp at h
  | p :: P,w :: vs,0,m,nd,h1,h2,hk=>by
    simp at h1 h2;subst h1;subst h2;show bindL kindOf ((p,w) :: P.zip vs) m p=_;unfold bindL;rw [ia fun v hv=>(aa2.mp nd).1 (List.of_mem_zip hv).1,if_pos hk];simp
  | p :: P,w :: vs,i+1,m,nd,h1,h2,hk=>by
    show bindL kindOf ((p,w) :: P.zip vs) m x=_;unfold bindL;exact ib (i:=i) (aa2.mp nd).2 (by simpa using h1) (by simpa using h2) hk
theorem ie {kindOf:Str→Option NameKind} {x:Str} {v:Value}:∀ {P:List Str} {vs:List Value} {i:Nat} {m:Str→Option Value},P.Nodup→P[i]?=some x→vs[i]?=some v→kindOf x≠some .local →
    bindC kindOf (P.zip vs) m x=some v
  | [],_,_,_,_,h,_,_=>by simp at h
  | _ :: _,[],_,_,_,_,h,_=>by simp at h
  | p :: P,w :: vs,0,m,nd,h1,h2,hk=>by
    simp at h1 h2;subst h1;subst h2;show bindC kindOf ((p,w) :: P.zip vs) m p=_;unfold bindC;rw [ic fun v hv=>(aa2.mp nd).1 (List.of_mem_zip hv).1,if_neg hk];simp
  | p :: P,w :: vs,i+1,m,nd,h1,h2,hk=>by
    show bindC kindOf ((p,w) :: P.zip vs) m x=_;unfold bindC;exact ie (i:=i) (aa2.mp nd).2 (by simpa using h1) (by simpa using h2) hk
def fE (N:List Str) (vs:List V):St:=vs.map some++aaF (N.length - vs.length) none
def nM (CX:CXT) (P:Program) (w:World) (K:aaa) (mg:Str→Option Value) (base:Heap) (N:List Str) (qual:Str) (scope:Scope) (f:Addr) (cd:Value) (A:Around) (outer:List Env) (s:Shared) (H:Hp) (E:XK):Cx where
  prog:=P
  w:=w
  K:=K
  mg:=mg
  base:=base
  A:=A.deeper (envOfC qual scope s.heap.objs.size f cd)
  N:=N
  s₀:=s
  H₀:=H
  env:=envOfC qual scope s.heap.objs.size f cd
  outer:=outer
  stack:=envOfC qual scope s.heap.objs.size f cd :: outer
  ex:=[]
  calm:=true
  fn:=fun _=>true
  pn:=[]
  xe:=fun e s'=>wpAny (model P w) (A.deeper (envOfC qual scope s.heap.objs.size f cd)) (leaving (envOfC qual scope s.heap.objs.size f cd) e) (fun _ s''=>CX outer H s E e s'') (fun e' s''=>CX outer H s E e' s'') s'
theorem kf {sc:Scope} {n:Nat} {x:Str} (h:sc.names.lookup x=some .cell):∃ c,(cellsFrom n sc.names []).lookup x=some c:=by
  have q:=PySem.W.cellsFrom_some sc.names n [] (.inl h);exact ab8.mp q
theorem nG {CX:CXT} {P:Program} {w:World} {K:aaa} {mg:Str→Option Value} {base:Heap} {N ps:List Str} {qual:Str} {scope:Scope} {f:Addr} {cd:Value} {A:Around} {outer:List Env} {s s1:Shared} {H:Hp} {E:XK} {us:List Value} {vs:List V}
    (S:FnScope N ps scope) (hd:A.handled=none) (e0:Env0 P w K mg base A outer s H) (hl:vs.length=ps.length) (r:Vals vs us)
    (x:InCallC s s.heap.objs.size (bindL (envOfC qual scope s.heap.objs.size f cd).kindOf (ps.zip us) fun _=>none) (cellsFrom (s.heap.objs.size+1) scope.names []) (bindC (envOfC qual scope s.heap.objs.size f cd).kindOf (ps.zip us) fun _=>none) s1) :
    Inv (nM CX P w K mg base N qual scope f cd A outer s H E) [] (fE N vs) H s1:=by
  have hpl:ps.length≤N.length:=by have:=congrArg ab7 S.pre;rw [aaJ] at this;lia
  obtain ⟨h1,tk,rfl,hk⟩:=x.done;have noA:∀ b:Addr,b∉(nM CX P w K mg base N qual scope f cd A outer s H E).ex:=fun b z=>absurd (show b∈([]:List Addr) from z) (by simp);refine ⟨⟨e0.mod,S.kind,rfl,rfl,aah _,fun y z c h1 h2=>?_,fun y hy=>?_,fun y c _ h=>?_,fun _=>hd,Around.frames_deeper e0.frames,.inr ⟨rfl,rfl⟩,fun b z=>absurd z (noA b),e0.bs,e0.bsz,fun b _ _=>noA b,fun b z=>absurd z (noA b),e0.funs,e0.frf⟩,
    rfl,e0.bare,Un.kept hk,⟨_,x.toInCall.ns,fun i y v h1 h2 h3=>?_⟩,fun y c h=>⟨_,x.cell y c h⟩,e0.hok.fresh (aah _),fun y c h=>?_,fun p hp=>absurd (show p∈([]:List (Addr × Obj)) from hp) (by simp),e0.hok.kept hk,?_⟩
  · exact name_of_addr x.apart (abj h1) (abj h2)
  · have hy:scope.names.lookup y=some .cell∨scope.names.lookup y=some .free:=hy;rcases hy with hy|hy
    · exact kf hy
    · exact absurd rfl (S.nofree _ (abj hy))
  · exact abz (x.above y c (abj h))
  · have hi:i < vs.length:=by
      unfold fE at h2;by_cases hi:i < vs.length
      · exact hi
      · rw [List.getElem?_append_right (by simpa using hi)] at h2;rw [List.getElem?_replicate] at h2;split at h2 <;> cases h2
    have ha:vs[i]?=some v:=by
      unfold fE at h2;rw [List.getElem?_append_left (by simpa using hi),aap] at h2;cases e:vs[i]? with
      | none=>rw [e] at h2;cases h2
      | some a=>rw [e] at h2;cases h2;rfl
    obtain ⟨u,hu,rv⟩:=r.get ha;have hp:ps[i]?=some y:=by
      rw [← S.pre,List.getElem?_take_of_lt (by lia)];exact h1
    have ndP:ps.Nodup:=by rw [← S.pre];exact S.nd.sublist (List.take_sublist _ _)
    refine ⟨u,rv,?_⟩;rcases S.par y (aay hp) with k|k
    · exact .inl ⟨k,ib ndP hp hu k⟩
    · obtain ⟨c,e⟩:=kf (n:=s.heap.objs.size+1) k;refine .inr ⟨.inl k,c,e,?_⟩;have q:=x.cell y c e;rw [ie ndP hp hu (by show scope.names.lookup y≠_;rw [k];decide)] at q;exact q
  · exact e0.hok.fresh (abz (x.above y c (abj h)))
  · unfold fE;show _=N.length;rw [aav,aab,List.length_replicate];lia
theorem tf {CX:CXT} {P:Program} {w:World} {K:aaa} {mg:Str→Option Value} {base:Heap} {k:Nat} {f:Addr} {name qual:Str} {params:Arguments} {body:List Stmt} {scope:Scope} {dV kV doc pm cdv ct oc:Value} {an od:Option Addr}
    {osl:Array (Option Value)} {N ps:List Str} {sp:Sp} (lk:K.lookup f=some ⟨oc,od,.func (abo name qual params body scope dV kV doc pm an cdv ct),osl⟩) (hcd:abL K cdv qual=true) (S:FnScope N ps scope)
    (len:∀ vs H Q E,sp vs H Q E→vs.length=ps.length)
    (hbody:∀ (A:Around) (outer:List Env) (s:Shared) (H:Hp) (vs:List V) (Q:VK) (E:XK),Room k (A.deeper (envOfC qual scope s.heap.objs.size f cdv))→sp vs H Q E →
      ∃ t,PSs (nM CX P w K mg base N qual scope f cdv A outer s H E) body t∧t { nx:=fun _ H'=>Q .non H',rt:=Q } (fE N vs) H) :
    FnOk P w K mg base CX (k+1) f (abo name qual params body scope dV kV doc pm an cdv ct) ps sp:=by
  refine ⟨len,fun A outer s H args us vs Q E hr e0 hb r hsp=>?_⟩;have hl:=len _ _ _ _ hsp;have KX:K.In s.heap:=e0.mod.kin.keeps fun b o e=>(e0.bs b o e).1;have lim:s.heap.NoLimit:=e0.mod.nolimit.keeps fun b o e=>(e0.bs b o e).1;have hkind:∀ y∈ps.zip us,scope.names.lookup y.1=some .local∨(scope.names.lookup y.1=some .cell∧((cellsFrom (s.heap.objs.size+1) scope.names []).lookup y.1).isSome=true):=fun ⟨n,v⟩ hy=>by
    rcases S.par n (List.of_mem_zip hy).1 with q|q
    · exact .inl q
    · exact .inr ⟨q,PySem.W.cellsFrom_some _ _ _ (.inl q)⟩
  refine codeAny_call_function hr.depth (KX _ _ lk) rfl S.co S.gen rfl (PySem.W.codeRec_of KX hcd) (hb _ _ _ _ ?_);refine wpAny_newFunctionEnv_cells S.kind hkind fun env he s1 x=>?_;subst he;refine ⟨lim.keeps x.toInCall.keep,codeAny_func ?_⟩;obtain ⟨t,ht,hq⟩:=hbody A outer s H vs Q E (hr.deeper _) hsp;have I:Inv (nM CX P w K mg base N qual scope f cdv A outer s H E) [] (fE N vs) H s1:=nG S hr.hd e0 hl r x;refine wpAny_mono (ht [] s1 (fE N vs) H _ I hq) (fun fl s' hs=>?_) fun e s' hs=>hs;have fin:∀ {σ':St} {H':Hp} {v:V} {u:Value},Inv (nM CX P w K mg base N qual scope f cdv A outer s H E) [] σ' H' s'→RelV v u→Q v H'→CE outer P w H s Q u s' :=
    fun {σ' H' v u} J rv q=>⟨v,H',J.os,J.bare,J.base,J.hok,rv,q⟩
  cases fl with
  | ret u =>
    obtain ⟨v,σ',H',J,rv,q⟩:=hs;exact fin J rv q
  | next =>
    obtain ⟨σ',H',J,q⟩:=hs;exact fin (v:=V.non) (u:=Value.none) J rfl q
  | brk =>
    obtain ⟨_,_,_,q⟩:=hs;exact abY q
  | cont =>
    obtain ⟨_,_,_,q⟩:=hs;exact abY q
open PySem PySem.Spec PyProof.Rows
section
variable {X:Cx} {x:Str} {p pos:Pos} {e:Expr} {es:List Expr} {t:TA} {id T:String} {r:List V→Hp→VK→Prop}
def tCB (r:List V→Hp→VK→Prop) (t:TA):TE:=fun σ H Q=>t σ H fun vs H1=>r vs H1 Q
theorem ah (hc:bz X (.builtin id) r) (hg:Gl X x) (hm:X.mg x=none) (hv:bootBuiltins x=some (.builtin id)) (ha:PA X (e :: es) t) (hn:x ≠ "__name__":=by decide) (hdb:(x == ("__debug__":Str))=false:=by decide)
    (he:starEach (e :: es) X.env=(false,eval e X.env) :: starEach es X.env:=by rfl) (hpl:(backTo pos (starEach es X.env)).any (·.1)=false:=by rfl):PE X (.Call (.Name x p) (e :: es) [] pos) (tCB r t):=by
  intro pins s σ H Q I h;refine wpAny_Call_Name_kw (eh I hg hm hv ?_ hn hdb);exact PyProof.Rows.callWith_builtin1 (thn (ha pos pins s σ H _ I h) fun us s1 ⟨vs,H1,I1,r1,q1⟩=>hc pins s1 σ H1 vs us Q I1 r1 q1) he hpl
theorem a5 (hc:bz X (.type T) r) (hg:Gl X x) (hm:X.mg x=none) (hv:bootBuiltins x=some (.type T)) (ha:PA X (e :: es) t) (hn:x ≠ "__name__":=by decide) (hdb:(x == ("__debug__":Str))=false:=by decide)
    (he:starEach (e :: es) X.env=(false,eval e X.env) :: starEach es X.env:=by rfl) (hpl:(backTo pos (starEach es X.env)).any (·.1)=false:=by rfl):PE X (.Call (.Name x p) (e :: es) [] pos) (tCB r t):=by
  intro pins s σ H Q I h;refine wpAny_Call_Name_kw (eh I hg hm hv ?_ hn hdb);exact abc (thn (ha pos pins s σ H _ I h) fun us s1 ⟨vs,H1,I1,r1,q1⟩=>hc pins s1 σ H1 vs us Q I1 r1 q1) he hpl
end
end L2
namespace HT
open PySem PyProof.Rows
section
open PySem.SeqAt
open PySem.AutoSeq1 (wpAny_loadPart')
open PySem.MeetsSeq PySem.MeetsSeq2 PySem.MeetsSeq3
end
section
variable {prog:Program} {w:World} {A:Around} {E:Value→Shared→Prop} {s:Shared}
def sIx (n d:Nat):Option Int→Nat
  | none=>d
  | some v=>if v < 0 then (v+(n:Int)).toNat else min v.toNat n
end
end HT
namespace L2
open PySem PySem.Spec PyProof.Rows
abbrev TO:=St→Hp→(Option Int→Hp→Prop)→Prop
def PO (X:Cx) (e:Option Expr) (t:TO):Prop :=
  ∀ (pins:List (Addr × Obj)) (s:Shared) (σ:St) (H:Hp) (Q:Option Int→Hp→Prop),Inv X pins σ H s→t σ H Q →
    wpAny (model X.prog X.w) X.A (evalPart e X.env) (fun u s'=>∃ o H',Inv X pins σ H' s'∧IsPart u o∧Q o H') X.xe s
def pK:TO:=fun _ H Q=>Q none H
def rV (t:TE):TO:=fun σ H Q=>t σ H fun x H1=>∃ i,x=.int i∧Q (some i) H1
section
variable {X:Cx} {e:Expr} {te:TE} {lo hi:Option Expr} {tl th:TO} {pos p2:Pos}
theorem l7:PO X none pK:=by
  intro pins s σ H Q I h;rw [evalPart_none];exact wpAny_pure ⟨none,H,I,.none,h⟩
theorem l5 (h:PE X e te):PO X (some e) (rV te):=by
  intro pins s σ H Q I hw;rw [evalPart_some];refine thn (h pins s σ H _ I hw) fun u s1 ⟨x,H1,I1,r1,q1⟩=>?_;obtain ⟨i,rfl,q⟩:=q1;obtain ⟨t,rfl⟩:=r1;exact ⟨some i,H1,I1,.int i t,q⟩
def SlR (X:Cx) (r:V→Option Int→Option Int→Hp→VK→Prop):Prop :=
  ∀ (pins:List (Addr × Obj)) (s:Shared) (σ:St) (H:Hp) (x:V) (v vl vu:Value) (lo hi:Option Int) (sl:Addr) (Q:VK),Inv X pins σ H s→RelV x v→s.heap.IsSliceOf sl vl vu .none→IsPart vl lo→IsPart vu hi→r x lo hi H Q →
    ∃ T id,typeLookup (.type T) "__getitem__" = pure (some (.builtin id))∧s.TypeIs v T∧wpAny (model X.prog X.w) X.A (getItem v (.ref sl)) (EP X pins σ Q) X.xe s
def tSl (r:V→Option Int→Option Int→Hp→VK→Prop) (te:TE) (tl th:TO):TE:=fun σ H Q=>te σ H fun x H1=>tl σ H1 fun l H2=>th σ H2 fun u H3=>r x l u H3 Q
theorem jy {r:V→Option Int→Option Int→Hp→VK→Prop} (hr:SlR X r) (he:PE X e te) (hl:PO X lo tl) (hu:PO X hi th):PE X (.Subscript e (.Slice lo hi none p2) pos) (tSl r te tl th):=by
  intro pins s σ H Q I h;refine Subscript_ (thn (he pins s σ H _ I h) fun v s1 ⟨x,H1,I1,r1,q1⟩=>?_);refine wpAny_Slice (thn (hl pins s1 σ H1 _ I1 q1) fun vl s2 ⟨l,H2,I2,pl,q2⟩=>thn (hu pins s2 σ H2 _ I2 q2) fun vu s3 ⟨u,H3,I3,pu,q3⟩=>?_);rw [evalPart_none];refine wpAny_pure ?_;have I4:Inv X pins σ H3 { s3 with heap:=s3.heap.push { cls:=.type "slice",data:=.fields #[vl,vu,.none] } }:=I3.kept (t':=s3.toks) fun b ob q=>aaf _ q;obtain ⟨T,id,hT,ht,hg⟩:=hr pins { s3 with heap:=s3.heap.push { cls:=.type "slice",data:=.fields #[vl,vu,.none] } } σ H3 x v vl vu l u s3.heap.objs.size Q I4 r1 (Heap.IsSliceOf.new ..) pl pu q3;show wpAny (model X.prog X.w) X.A (subscriptTail e (.Slice lo hi none p2) v (.ref s3.heap.objs.size)) (EP X pins σ Q) X.xe { s3 with heap:=s3.heap.push { cls:=.type "slice",data:=.fields #[vl,vu,.none] } };exact tail_any (ops:=[.ref s3.heap.objs.size,v]) ht hT hg (by with_unfolding_all rfl)
def iW (xs:List V) (lo hi:Option Int):List V:=(xs.drop (HT.sIx xs.length 0 lo)).take (HT.sIx xs.length xs.length hi - HT.sIx xs.length 0 lo)
theorem ke (xs:List V) (lo hi:Option Int):(iW xs lo hi).length≤xs.length:=by
  unfold iW;rw [aaJ,acv];lia
end
open PySem PySem.Spec PyProof.Rows
def ixN (n:Nat) (i:Int):Option Nat:=if 0≤i then (if i < n then some i.toNat else none) else if -(n:Int)≤i then some (i+n).toNat else none
def atI {α:Type} (xs:List α) (i:Int):Option α:=(ixN xs.length i).bind fun j=>xs[j]?
theorem mo {n:Nat} {i:Int} {j:Nat} (h:ixN n i=some j):seqIndex? i n=some j∧j < n∧-(n:Int)≤i∧i < n:=by
  unfold ixN at h;by_cases h0:0≤i
  · rw [if_pos h0] at h;by_cases h1:i < n
    · rw [if_pos h1] at h;have e:i.toNat=j:=aas h;exact ⟨by rw [seqIndex_of h0 h1,e],by lia,by lia,h1⟩
    · rw [if_neg h1] at h;cases h
  · rw [if_neg h0] at h;by_cases h1:-(n:Int)≤i
    · rw [if_pos h1] at h;have e:(i+n).toNat=j:=aas h;exact ⟨by rw [seqIndex_neg (by lia) h1,e],by lia,h1,by lia⟩
    · rw [if_neg h1] at h;cases h
theorem i8 {α:Type} {xs:List α} {i:Int} {v:α} (h:atI xs i=some v):∃ j,seqIndex? i xs.length=some j∧xs[j]?=some v∧j < xs.length∧-(xs.length:Int)≤i∧i < xs.length:=by
  unfold atI at h;cases e:ixN xs.length i with
  | none=>rw [e] at h;cases h
  | some j =>
    rw [e] at h;obtain ⟨h1,h2,h3,h4⟩:=mo e;exact ⟨j,h1,h,h2,h3,h4⟩
theorem bS {α:Type} {xs:List α} {j:Nat} {v:α} (h:xs[j]?=some v):atI xs (j:Int)=some v:=by
  have hj:j < xs.length:=(aaK.mp h).1;have e:ixN xs.length (j:Int)=some j:=by
    unfold ixN;rw [if_pos (by lia),if_pos (by lia)];simp
  unfold atI;rw [e];exact h
def qv (b:Expr):Prop:=∀ o i,subscripted b false o i=operate [o,i] (getItem o i)
def IxR (X:Cx) (r:R2):Prop :=
  ∀ (value slice:Expr) (pins:List (Addr × Obj)) (s:Shared) (σ:St) (H:Hp) (x y:V) (v u:Value) (Q:VK),Inv X pins σ H s→RelV x v→RelV y u→r x y H Q →
    subscripted slice false v u=operate [v,u] (getItem v u)→wpAny (model X.prog X.w) X.A (subscriptTail value slice v u) (EP X pins σ Q) X.xe s
def MtR (X:Cx) (id:String) (r:V→List V→Hp→VK→Prop):Prop :=
  ∀ (pins:List (Addr × Obj)) (s:Shared) (σ:St) (H:Hp) (x:V) (xs:List V) (v:Value) (us:List Value) (Q:VK),Inv X pins σ H s→RelV x v→Vals xs us→r x xs H Q →
    wpAny (model X.prog X.w) X.A (call (.builtin id) (v :: us)) (EP X pins σ Q) X.xe s
section
variable {X:Cx} {a b:Expr} {ta tb:TE} {pos:Pos}
theorem IxR.or {r r':R2} (h:IxR X r) (h':IxR X r'):IxR X (fun x y H Q=>r x y H Q∨r' x y H Q):=by
  intro value slice pins s σ H x y v u Q I rx ry q hs;rcases q with q|q
  · exact h value slice pins s σ H x y v u Q I rx ry q hs
  · exact h' value slice pins s σ H x y v u Q I rx ry q hs
theorem bi {r:R2} (hr:IxR X r) (ha:PE X a ta) (hb:PE X b tb) (hs:qv b):PE X (.Subscript a b pos) (tOp r ta tb):=by
  intro pins s σ H Q I h;exact Subscript_ (rK ha hb I h fun v u s2 x y H2 I2 rx ry q=>hr a b pins s2 σ H2 x y v u Q I2 rx ry q (hs _ _))
def sw (K:aaa):R2:=fun x y H Q=>∃ p xs i v,x=.ref p∧y=.int i∧SqL K H p xs∧atI xs i=some v∧Q v H
def sr (K:aaa):R2:=fun x y H Q=>∃ p xs i v,x=.ref p∧y=.int i∧SqT K H p xs∧atI xs i=some v∧Q v H
def ss:R2:=fun x y H Q=>∃ z i c,x=.str z∧y=.int i∧z.length≤sizeLine∧atI z.cps.toList i=some c∧Q (.str ⟨#[c]⟩) H
theorem ix_list:IxR X (sw X.K):=by
  intro value slice pins s σ H x y v u Q I rx ry h hs;obtain ⟨p,xs,i,z,rfl,rfl,hq,he,q⟩:=h;cases rx;obtain ⟨t,rfl⟩:=ry;obtain ⟨its,r,pl,hz⟩:=I.list hq;obtain ⟨j,h1,h2,h3,h4,h5⟩:=i8 he;obtain ⟨w,ew,rw'⟩:=r.get h2;have hl:=r.length;have hn:=fw;have fin:EP X pins σ Q w s:=⟨z,H,I,rw',q⟩
  by_cases h0:0≤i
  · have hj:i.toNat=j:=by
      rw [seqIndex_of h0 h5] at h1;exact aas h1
    exact item_listR pl.isList h0 (by lia) (by rw [hj];simpa using ew) fin hs
  · have hj:(i+(its.toArray.size:Int)).toNat=j:=by
      rw [seqIndex_neg (by lia) h4] at h1;rw [aaj,← hl];exact aas h1
    exact subscriptTail_builtinR (x:=w) pl.isList.typeIs slot_list_getitem.lookup
      (wpAny_getItem_list_neg (Q:=fun r s'=>r=w∧EP X pins σ Q r s') pl.isList (by lia) (by rw [aaj] <;> lia) (by lia) (by rw [hj];simpa using ew) ⟨rfl,fin⟩) hs
theorem ix_tup:IxR X (sr X.K):=by
  intro value slice pins s σ H x y v u Q I rx ry h hs;obtain ⟨p,xs,i,z,rfl,rfl,hq,he,q⟩:=h;cases rx;obtain ⟨t,rfl⟩:=ry;obtain ⟨its,r,pl,hz⟩:=I.tuple hq;obtain ⟨j,h1,h2,h3,h4,h5⟩:=i8 he;obtain ⟨w,ew,rw'⟩:=r.get h2;have hl:=r.length;have hn:=fw;have fin:EP X pins σ Q w s:=⟨z,H,I,rw',q⟩
  exact subscriptTail_builtinR (x:=w) pl.typeIs slot_tuple_getitem.lookup
    (getItem_tuple (j:=j) (Q:=fun r s'=>r=w∧EP X pins σ Q r s') pl (by lia) (by lia) (by rw [aaj,← hl];exact h1) (by simpa using ew) ⟨rfl,fin⟩) hs
theorem rD:IxR X ss:=by
  intro value slice pins s σ H x y v u Q I rx ry h hs;obtain ⟨z,i,c,rfl,rfl,hz,he,q⟩:=h;obtain ⟨t,rfl⟩:=rx;obtain ⟨t',rfl⟩:=ry;obtain ⟨j,h1,h2,h3,h4,h5⟩:=i8 he;have hl:z.cps.toList.length=z.length:=by simp [Str.length]
  rw [hl] at h1 h4 h5;have hn:=fw;exact tail_any (typeIs_str s z t) slot_str_getitem.lookup (getItem_str (c:=c) (by
    have e1:decide (i < -(2 ^ 63:Int))=false:=decide_eq_false (by lia);have e2:decide (i ≥ 2 ^ 63)=false:=decide_eq_false (by lia);rw [e1,e2,Bool.or_false]) (by rw [h1];simpa using h2) ⟨.str ⟨#[c]⟩,H,I.tok _,⟨_,rfl⟩,q⟩) hs
def rIx (K:aaa):R2:=fun x y H Q=>sw K x y H Q∨sr K x y H Q∨ss x y H Q
theorem rE:IxR X (rIx X.K):=ix_list.or (ix_tup.or rD)
theorem kU (its:List Value) (n j:Nat) (u:Value):Obj.mapSeq (·.setIfInBounds j u) { cls:=.type "list",data:=.seq its.toArray n }={ cls:=.type "list",data:=.seq (its.set j u).toArray n }:=by
  simp [Obj.mapSeq]
theorem Inv.lst {pins:List (Addr × Obj)} {σ:St} {H:Hp} {s:Shared} {p:Addr} {xs:List V} (I:Inv X pins σ H s) (h:H p=some (.lst xs)) :
    ∃ (its:List Value) (n:Nat),Vals xs its∧s.heap.get? p=some { cls:=.type "list",data:=.seq its.toArray n }∧xs.length≤sizeLine:=by
  obtain ⟨z,its,n,r,e⟩:=I.hok p _ h;exact ⟨its,n,r,e,z⟩
theorem Inv.lstUpd {pins:List (Addr × Obj)} {σ:St} {H:Hp} {s:Shared} {p:Addr} {xs ys:List V} {its its':List Value} {n n':Nat} {f:Obj→Obj} (I:Inv X pins σ H s) (h:H p=some (.lst xs))
    (ho:s.heap.get? p=some { cls:=.type "list",data:=.seq its.toArray n }) (hf:f { cls:=.type "list",data:=.seq its.toArray n }={ cls:=.type "list",data:=.seq its'.toArray n' }) (r:Vals ys its') (hz:ys.length≤sizeLine) (t:Nat) :
    Inv X pins σ (upd H p (.lst ys)) { s with heap:=s.heap.update p f,toks:=t }:=by
  have e:(s.heap.update p f).get? p=some { cls:=.type "list",data:=.seq its'.toArray n' }:=by
    rw [aa9 f ho (by rw [hf] <;> rfl),hf]
  refine I.write (x:=p) (e:=p) (by rw [h];trivial) (.inl rfl) (fun b u hb q=>(Heap.get?_update_other _ _ (abF hb)).trans q) ⟨_,e⟩ ?_;exact ⟨hz,its',n',r,e⟩
def sq:V→V→V→Hp→(Hp→Prop)→Prop:=fun o i v H Q=>∃ p xs k j,o=.ref p∧i=.int k∧H p=some (.lst xs)∧ixN xs.length k=some j∧Q (upd H p (.lst (xs.set j v)))
theorem jg:rL X sq:=by
  intro pins s σ H o i v ov iv u Q I ro ri rv h;obtain ⟨p,xs,k,j,rfl,rfl,hp,hj,q⟩:=h;cases ro;obtain ⟨t,rfl⟩:=ri;obtain ⟨its,n,r,ho,hz⟩:=I.lst hp;obtain ⟨h1,h2,h3,h4⟩:=mo hj;have hl:=r.length;have hn:=fw;have I':Inv X pins σ (upd H p (.lst (xs.set j v))) { s with heap:=s.heap.update p (Obj.mapSeq (·.setIfInBounds j u)) } :=
    I.lstUpd hp ho (kU its n j u) (r.set rv j) (by rw [List.length_set];exact hz) s.toks
  by_cases h0:0≤k
  · have hk:k.toNat=j:=by
      rw [seqIndex_of h0 h4] at h1;exact aas h1
    exact PySem.W.ki_setAt ho h0 (by lia) (by rw [aaj,← hl];exact h4) (by rw [hk];exact ⟨_,I',q⟩)
  · have hk:(k+(its.toArray.size:Int)).toNat=j:=by
      rw [seqIndex_neg (by lia) h3] at h1;rw [aaj,← hl];exact aas h1
    exact PySem.W.ki_setBack ho (by lia) (by rw [aaj,← hl];exact h3) (by lia) (by rw [hk];exact ⟨_,I',q⟩)
theorem iu (lo hi:Option Int) (n:Nat):(sliceBounds lo hi none n).1=((HT.sIx n 0 lo:Nat):Int)∧(sliceBounds lo hi none n).2.1=((HT.sIx n n hi:Nat):Int)∧(sliceBounds lo hi none n).2.2=1:=by
  refine ⟨?_,?_,rfl⟩
  · cases lo with
    | none=>simp [sliceBounds,HT.sIx]
    | some i =>
      simp only [sliceBounds,HT.sIx,Option.getD_none,show (1:Int) > 0 by decide,if_true];by_cases h:i < 0
      · simp only [h,if_true] <;> lia
      · simp only [h,if_false] <;> lia
  · cases hi with
    | none=>simp [sliceBounds,HT.sIx]
    | some i =>
      simp only [sliceBounds,HT.sIx,Option.getD_none,show (1:Int) > 0 by decide,if_true];by_cases h:i < 0
      · simp only [h,if_true] <;> lia
      · simp only [h,if_false] <;> lia
theorem gI (its:List Value) (lo hi:Option Int):slicePick its.toArray lo hi none=((its.drop (HT.sIx its.length 0 lo)).take (HT.sIx its.length its.length hi - HT.sIx its.length 0 lo)).toArray:=by
  obtain ⟨h1,h2,h3⟩:=iu lo hi its.toArray.size;unfold slicePick;rw [h1,h2,h3];simp only [sliceRange_one,pick_run,aaj] <;> rfl
def tV (K:aaa):V→Option Int→Option Int→Hp→VK→Prop:=fun x lo hi H Q=>∃ a xs,x=.ref a∧SqL K H a xs∧∀ p,H p=none→Q (.ref p) (upd H p (.lst (iW xs lo hi)))
theorem lR:SlR X (tV X.K):=by
  intro pins s σ H x v vl vu lo hi sl Q I rx hs pl pu h;obtain ⟨a,xs,rfl,hx,q⟩:=h;cases rx;obtain ⟨its,r,ht,hz⟩:=I.list hx;have hlen:=r.length;refine ⟨"list",_,slot_list_getitem.lookup,ht.isList.typeIs,?_⟩;refine wpAny_getItem_list_slice ht.isList hs pl pu .none (by simp) ?_ (by rw [aaj] <;> lia);rw [gI,← hlen];refine ⟨.ref s.heap.objs.size,_,I.laid (t':=s.toks) (o:=.lst (iW xs lo hi)) (fun b ob q=>aaf _ q) (aah _) ?_,rfl,q _ (I.hok.fresh (aah _))⟩;exact ⟨aaG (ke xs lo hi) hz,_,0,(r.drop (HT.sIx xs.length 0 lo)).take (HT.sIx xs.length xs.length hi - HT.sIx xs.length 0 lo),aao _ rfl⟩
def dE:V→Bool
  | .non=>true
  | .bl _=>true
  | .int _=>true
  | .str _=>true
  | _=>false
def eqV:V→V→Bool
  | .non,.non=>true
  | .bl a,.bl b=>a == b
  | .bl a,.int b=>(if a then 1 else 0) == b
  | .int a,.bl b=>a == (if b then 1 else 0)
  | .int a,.int b=>a == b
  | .str a,.str b=>a == b
  | _,_=>false
theorem o_ {A:Around} {s:Shared} {y x:V} {u v:Value} (ry:RelV y u) (rx:RelV x v) (fy:dE y=true) (fx:dE x=true):SeqAt.EqAt A s u v (eqV y x):=by
  cases y with
  | non =>
    cases ry;cases x with
    | non=>cases rx;exact SeqAt.EqAt.same _
    | bl b=>cases rx;exact SeqAt.EqAt.none_bool b
    | int b=>obtain ⟨t,rfl⟩:=rx;exact SeqAt.EqAt.none_int b t
    | str b=>obtain ⟨t,rfl⟩:=rx;exact SeqAt.EqAt.none_str b t
    | _=>exact absurd (show false=true from fx) aae
  | bl a =>
    cases ry;cases x with
    | non=>cases rx;exact SeqAt.EqAt.bool_none a
    | bl b=>cases rx;exact SeqAt.EqAt.bool_bool a b
    | int b=>obtain ⟨t,rfl⟩:=rx;exact SeqAt.EqAt.bool_int a b t
    | str b=>obtain ⟨t,rfl⟩:=rx;exact SeqAt.EqAt.bool_str a b t
    | _=>exact absurd (show false=true from fx) aae
  | int a =>
    obtain ⟨t',rfl⟩:=ry;cases x with
    | non=>cases rx;exact SeqAt.EqAt.int_none a t'
    | bl b=>cases rx;exact SeqAt.EqAt.int_bool a t' b
    | int b=>obtain ⟨t,rfl⟩:=rx;exact SeqAt.EqAt.int_int a t' b t
    | str b=>obtain ⟨t,rfl⟩:=rx;exact SeqAt.EqAt.int_str a t' b t
    | _=>exact absurd (show false=true from fx) aae
  | str a =>
    obtain ⟨t',rfl⟩:=ry;cases x with
    | non=>cases rx;exact SeqAt.EqAt.str_none a t'
    | bl b=>cases rx;exact SeqAt.EqAt.str_bool a t' b
    | int b=>obtain ⟨t,rfl⟩:=rx;exact SeqAt.EqAt.str_int a t' b t
    | str b=>obtain ⟨t,rfl⟩:=rx;exact SeqAt.EqAt.str_str a t' b t
    | _=>exact absurd (show false=true from fx) aae
  | _=>exact absurd (show false=true from fy) aae
def eqU (x:V) (u:Value):Bool:=match u with
  | .none=>eqV .non x
  | .bool b=>eqV (.bl b) x
  | .int i _=>eqV (.int i) x
  | .str z _=>eqV (.str z) x
  | _=>false
theorem o9 {x y:V} {u:Value} (r:RelV y u) (f:dE y=true):eqU x u=eqV y x:=by
  cases y with
  | non=>cases r;rfl
  | bl b=>cases r;rfl
  | int i=>obtain ⟨t,rfl⟩:=r;rfl
  | str z=>obtain ⟨t,rfl⟩:=r;rfl
  | _=>exact absurd (show false=true from f) aae
theorem i_ {x:V}:∀ {xs:List V} {us:List Value},Vals xs us→xs.all dE=true→us.any (eqU x)=xs.any fun y=>eqV y x
  | _,_,.nil,_=>rfl
  | y :: xs,u :: us,.cons r t,f=>by
    rw [List.all_cons,aa4] at f;rw [acy,acy,o9 r f.1,i_ t f.2]
theorem gt {A:Around} {s:Shared} {x:V} {v:Value} (rx:RelV x v) (fx:dE x=true):∀ {xs:List V} {us:List Value},Vals xs us→xs.all dE=true→∀ u∈us,SeqAt.EqAt A s u v (eqU x u)
  | _,_,.nil,_=>fun u hu=>by cases hu
  | y :: xs,u :: us,.cons r t,f=>fun u' hu=>by
    rw [List.all_cons,aa4] at f;rcases aai.mp hu with rfl|hu
    · rw [o9 r f.1];exact o_ r rx f.1 fx
    · exact gt rx fx t f.2 u' hu
def inV (x:V) (xs:List V):Bool:=xs.any fun y=>eqV y x
def rIn (K:aaa) (neg:Bool):R2:=fun x y H Q=>∃ p xs,y=.ref p∧(SqL K H p xs∨SqT K H p xs)∧dE x=true∧xs.all dE=true∧Q (.bl (if neg then !inV x xs else inV x xs)) H
theorem nq:OpR X (compareOp .In) (rIn X.K false):=by
  intro pins s σ H x y v u Q I rx ry h;obtain ⟨p,xs,rfl,hq,fx,fs,q⟩:=h;cases ry;rcases hq with hq|hq
  · obtain ⟨its,r,pl,hz⟩:=I.list hq;refine SeqAt.in_listAt (eqU x) pl.isList (fun w hw=>gt rx fx r fs w (by simpa using hw)) ⟨.bl _,H,I,rfl,?_⟩;rw [show its.toArray.any (eqU x)=its.any (eqU x) by simp,i_ r fs];exact q
  · obtain ⟨its,r,pl,hz⟩:=I.tuple hq;refine SeqAt.in_tupleAt (eqU x) pl (fun w hw=>gt rx fx r fs w (by simpa using hw)) ⟨.bl _,H,I,rfl,?_⟩;rw [show its.toArray.any (eqU x)=its.any (eqU x) by simp,i_ r fs];exact q
theorem aD:bz X (.builtin "len") (fun xs H Q=>∃ p ys,xs=[.ref p]∧(SqL X.K H p ys∨SqT X.K H p ys)∧Q (.int ys.length) H):=by
  intro pins s σ H xs us Q I r h;obtain ⟨p,ys,rfl,hq,q⟩:=h;obtain ⟨u,rfl,rx⟩:=cn r;cases rx;have hn:=fw;rcases hq with hq|hq
  · obtain ⟨its,r',pl,hz⟩:=I.list hq;have hlen:=r'.length;exact Calls.call_len_list pl.isList (by simp only [aaj] <;> lia) ⟨.int ys.length,H,I.tok _,⟨s.toks+1,by rw [aaj,hlen]⟩,q⟩
  · obtain ⟨its,r',pl,hz⟩:=I.tuple hq;have hlen:=r'.length;exact len_tuple pl (by simp only [aaj] <;> lia) ⟨.int ys.length,H,I.tok _,⟨s.toks+1,by rw [aaj,hlen]⟩,q⟩
theorem gW:bz X (.type "tuple") (fun xs H Q=>∃ p ys,xs=[.ref p]∧((SqL X.K H p ys∧∀ l,H l=none→Q (.ref l) (upd H l (.tup ys)))∨(SqT X.K H p ys∧Q (.ref p) H))):=by
  intro pins s σ H xs us Q I r h;obtain ⟨p,ys,rfl,h⟩:=h;obtain ⟨u,rfl,rx⟩:=cn r;cases rx;rcases h with ⟨hq,q⟩|⟨hq,q⟩
  · obtain ⟨its,r',pl,hz⟩:=I.list hq;have hlen:=r'.length;refine call_tuple_list pl.isList (fun h' kp=>?_) (by simp only [aaj] <;> lia);have I1:Inv X pins σ H { s with heap:=h' }:=I.kept (t':=s.toks) kp;have I2:Inv X pins σ (upd H h'.objs.size (.tup ys)) { s with heap:=h'.push { cls:=.type "tuple",data:=.seq its.toArray } } :=
      I1.laid (t':=s.toks) (fun b o e=>aaf _ e) (aah _) (show ObjOk X.prog X.w _ _ _ (.tup ys) from ⟨hz,its,r',IsTup.new _ _⟩)
    exact ⟨.ref h'.objs.size,_,I2,rfl,q _ (I1.hok.fresh (aah _))⟩
  · obtain ⟨its,r',pl,hz⟩:=I.tuple hq;exact call_tuple_same pl ⟨.ref p,H,I,rfl,q⟩
def tyV (K:aaa) (T:String) (x:V) (H:Hp):Prop:=match x with
  | .str _=>T = "str"
  | .int _=>T = "int"
  | .ref p=>(T = "list"∧∃ xs,SqL K H p xs)∨(T = "tuple"∧∃ o,K.lookup p=some o∧o.cls=.type "tuple"∧o.dict=none) ∨
      (T = "dict"∧((∃ kvs,H p=some (.dK kvs))∨∃ kvs,H p=some (.dT kvs)))∨(T = "set"∧∃ S n,H p=some (.set S n))
  | _=>False
theorem qG {pins:List (Addr × Obj)} {σ:St} {H:Hp} {s:Shared} {T:String} {x:V} {v:Value} (I:Inv X pins σ H s) (r:RelV x v) (ty:tyV X.K T x H) :
    s.TypeIs v T∧∀ a,v=.ref a→∃ ob,s.heap.get? a=some ob∧ob.dict=none:=by
  cases x with
  | str z =>
    obtain ⟨t,rfl⟩:=r;cases (show T = "str" from ty);exact ⟨typeIs_str s z t,fun _ e=>nomatch e⟩
  | int i =>
    obtain ⟨t,rfl⟩:=r;cases (show T = "int" from ty);exact ⟨typeIs_int s i t,fun _ e=>nomatch e⟩
  | ref p =>
    cases r;rcases ty with ⟨rfl,xs,hq⟩|⟨rfl,o,hk,hc,hd⟩|⟨rfl,hk⟩|⟨rfl,S,n,hk⟩
    · obtain ⟨its,_,pl,_⟩:=I.list hq;refine ⟨pl.isList.typeIs,fun a e=>?_⟩;cases e;obtain ⟨o,n,e,c,hd,_⟩:=pl;exact ⟨o,e,hd⟩
    · refine ⟨⟨o,I.kIn p o hk,hc⟩,fun a e=>?_⟩;cases e;exact ⟨o,I.kIn _ o hk,hd⟩
    · have z:∃ o,s.heap.get? p=some o∧o.ExactDict:=by
        rcases hk with ⟨kvs,hk⟩|⟨kvs,hk⟩
        · obtain ⟨_,_,_,_,o,_,_,e,ex,_⟩:=I.hok p _ hk;exact ⟨o,e,ex⟩
        · obtain ⟨_,_,_,_,o,_,_,e,ex,_⟩:=I.hok p _ hk;exact ⟨o,e,ex⟩
      obtain ⟨o,e,ex⟩:=z;refine ⟨⟨o,e,ex.1⟩,fun a e2=>?_⟩;cases e2;exact ⟨o,e,ex.2.1⟩
    · obtain ⟨o,_,_,_,e,ex,_⟩:=I.hok p _ hk;refine ⟨⟨o,e,ex.1⟩,fun a e2=>?_⟩;cases e2;exact ⟨o,e,ex.2.1⟩
  | _=>exact abY ty
def tBM (K:aaa) (T:String) (r:V→List V→Hp→VK→Prop) (to:TE) (t:TA):TE:=fun σ H Q=>to σ H fun x H1=>tyV K T x H1∧t σ H1 fun xs H2=>r x xs H2 Q
variable {o e:Expr} {es:List Expr} {to:TE} {t:TA} {name:Str} {apos cpos:Pos} {T id:String} {r:V→List V→Hp→VK→Prop}
theorem jC (pa:PlainAttrs T) (slot:Slot T name id) (hty:typeOf (.builtin id)=pure (.type "method_descriptor")) (hm:MtR X id r) (ho:PE X o to) (ha:PA X (e :: es) t)
    (hbase:attributeBase o name X.env (eval o X.env)=eval o X.env:=by rfl)
    (hfew:((backTo cpos (starEach (e :: es) X.env)).all (fun x=>!x.1) && (backToKw cpos (keywordEach [] X.env)).all (fun x=>x.1.isSome)
      && decide ((e :: es).length+([]:List Keyword).length+(if ([]:List Keyword).isEmpty then 0 else 1) < 30))=true:=by rfl)
    (hline:(apos.endLine == cpos.line)=true:=by rfl) (hs:starEach (e :: es) X.env=(false,eval e X.env) :: starEach es X.env:=by rfl) (hplain:(backTo cpos (starEach es X.env)).any (·.1)=false:=by rfl) :
    PE X (.Call (.Attribute o name apos) (e :: es) [] cpos) (tBM X.K T r to t):=by
  intro pins s σ H Q I h;refine wpAny_Call_method_late hbase hfew hline rfl (thn (ho pins s σ H _ I h) fun v s1 ⟨x,H1,I1,r1,ty,q1⟩=>?_);obtain ⟨h1,h2⟩:=qG I1 r1 ty;refine ⟨T,id,pa,slot,hty,h1,h2,?_⟩;have hA:=ha cpos pins s1 σ H1 _ I1 q1;rw [hs] at hA ⊢;refine abN (by show (false || (backTo cpos (starEach es X.env)).any (·.1))=false;rw [hplain] <;> rfl) (Calls.evalArgs_plain ?_);exact thn hA fun us s2 ⟨vs,H2,I2,r2,q2⟩=>hm pins s2 σ H2 x vs v us Q I2 r1 r2 q2
end
open PySem PySem.Spec PyProof.Rows
def MtM (X:Cx) (id:String) (r:V→List V→Hp→VK→Prop):Prop :=
  ∀ (pins:List (Addr × Obj)) (s:Shared) (σ:St) (H:Hp) (x:V) (xs:List V) (v:Value) (us:List Value) (Q:VK),Inv X pins σ H s→RelV x v→Vals xs us→r x xs H Q →
    wpAny (model X.prog X.w) X.A (call (.builtin id) (v :: us)) (EP X pins σ Q) X.xe s
theorem Vals.one {x:V} {us:List Value} (h:Vals [x] us):∃ u,us=[u]∧RelV x u:=by
  cases h with
  | cons r t=>cases t;exact ⟨_,rfl,r⟩
theorem Vals.rep {xs:List V} {us:List Value} (h:Vals xs us):∀ k:Nat,Vals (aaF k xs).flatten (aaF k us).flatten
  | 0=>.nil
  | k+1=>by
    rw [abK,abK,acl,acl];exact Vals.append h (Vals.rep h k)
theorem hZ (its:List Value):∀ (k:Nat) (acc:List Value),
    List.foldl (fun x1 x2=>x1++x2) acc.toArray (aaF k its.toArray)=(acc++(aaF k its).flatten).toArray
  | 0,acc=>by simp
  | k+1,acc=>by
    have e:acc.toArray++its.toArray=(acc++its).toArray:=by simp
    have e2:(acc++its)++(aaF k its).flatten=acc++(aaF (k+1) its).flatten:=by
      rw [abK,acl,aaw]
    rw [← e2,← hZ its k (acc++its),← e,abK,List.foldl_cons]
section
variable {X:Cx} {pins:List (Addr × Obj)} {σ:St} {H:Hp} {s:Shared} {l b:Addr} {xs ys zs:List V}
theorem Inv.lset {its its':List Value} {n:Nat} {f:Array Value→Array Value} {t':Nat} (I:Inv X pins σ H s) (hH:H l=some (.lst xs))
    (e:s.heap.get? l=some { cls:=.type "list",data:=.seq its.toArray n }) (hf:f its.toArray=its'.toArray) (hv:Vals ys its') (hz:ys.length≤sizeLine) :
    Inv X pins σ (upd H l (.lst ys)) { s with heap:=s.heap.update l (Obj.mapSeq f),toks:=t' }:=by
  have q:=PySem.IsL.update e f;rw [hf] at q;refine I.write (x:=l) (e:=l) (by rw [hH];exact trivial) (.inl rfl) (fun b' u hb hu=>(Heap.get?_update_other s.heap (Obj.mapSeq f) (abF hb)).trans hu) ⟨_,q⟩ ?_;exact ⟨hz,its',_,hv,q⟩
theorem Inv.lnew {its:List Value} {t':Nat} (I:Inv X pins σ H s) (hv:Vals ys its) (hz:ys.length≤sizeLine) :
    Inv X pins σ (upd H s.heap.objs.size (.lst ys)) { s with heap:=s.heap.push { cls:=.type "list",data:=.seq its.toArray },toks:=t' } :=
  I.laid (fun _ _ q=>aaf _ q) (aah _) ⟨hz,its,0,hv,aao _ rfl⟩
theorem Inv.fresh (I:Inv X pins σ H s):H s.heap.objs.size=none:=I.hok.fresh (aah _)
theorem Inv.lstM (I:Inv X pins σ H s) (hH:H l=some (.lst xs)):xs.length≤sizeLine∧∃ (its:List Value) (n:Nat),Vals xs its∧xs.length=its.length∧s.heap.get? l=some { cls:=.type "list",data:=.seq its.toArray n }:=by
  obtain ⟨z,its,n,r,e⟩:=I.hok l _ hH;exact ⟨z,its,n,r,r.length,e⟩
theorem jN {n:Nat} (h:n≤sizeLine):abG n=false:=by
  unfold abG;exact decide_eq_false (by lia)
end
section
variable {X:Cx}
def pQ:V→List V→Hp→VK→Prop:=fun x vs H Q=>∃ l xs y,x=.ref l∧vs=[y]∧H l=some (.lst xs)∧xs.length < sizeLine∧Q .non (upd H l (.lst (xs++[y])))
theorem g6:MtM X "list.append" pQ:=by
  intro pins s σ H x vs v us Q I rx rv h;obtain ⟨l,xs,y,rfl,rfl,hH,hz,q⟩:=h;cases rx;obtain ⟨u,rfl,ru⟩:=rv.one;obtain ⟨z,its,n,r,hl,e⟩:=I.lstM hH;refine call_meets F.slot_list_append ⟨_,e,rfl⟩ F.entry_list_append (F.args_list_append_2 _ _) (PySem.list_append l its.toArray n u (by rw [aaj];lia)) ⟨e,?_⟩;refine ⟨.non,_,I.lset (its':=its++[u]) hH e (by simp) (r.append (.cons ru .nil)) ?_,rfl,q⟩;rw [aav,List.length_singleton];lia
def pP:V→List V→Hp→VK→Prop:=fun x vs H Q=>∃ l b xs zs,x=.ref l∧vs=[.ref b]∧H l=some (.lst xs)∧H b=some (.lst zs)∧xs.length+zs.length≤sizeLine∧Q .non (upd H l (.lst (xs++zs)))
theorem fu:MtM X "list.extend" pP:=by
  intro pins s σ H x vs v us Q I rx rv h;obtain ⟨l,b,xs,zs,rfl,rfl,hH,hB,hz,q⟩:=h;cases rx;obtain ⟨u,rfl,ru⟩:=rv.one;cases ru;obtain ⟨z,its,n,r,hl,e⟩:=I.lstM hH;obtain ⟨z2,its2,n2,r2,hl2,e2⟩:=I.lstM hB;have hsz:its.toArray.size+its2.toArray.size≤sizeLine:=by rw [aaj,aaj];lia
  have hlong:¬ (!its.toArray.isEmpty && abG (its.toArray.size+its2.toArray.size))=true:=by
    rw [jN hsz,aco];exact aae
  refine call_meets F.slot_list_extend ⟨_,e,rfl⟩ F.entry_list_extend (F.args_list_extend_2 _ _)
    (AutoSeq1.list_extend_list_list_0 l its.toArray n b its2.toArray n2 hlong (by rw [aaj];lia) (by lia)) ⟨e,e2,?_⟩
  refine ⟨.non,_,I.lset (its':=its++its2) hH e (by simp) (r.append r2) ?_,rfl,q⟩;rw [aav];lia
def t0:R2:=fun x y H Q=>∃ l b xs zs,x=.ref l∧y=.ref b∧H l=some (.lst xs)∧H b=some (.lst zs)∧xs.length+zs.length≤sizeLine∧∀ p,H p=none→Q (.ref p) (upd H p (.lst (xs++zs)))
theorem oD:OpR X (binaryOp .Add) t0:=by
  intro pins s σ H x y v u Q I rx ry h;obtain ⟨l,b,xs,zs,rfl,rfl,hH,hB,hz,q⟩:=h;cases rx;cases ry;obtain ⟨z,its,n,r,hl,e⟩:=I.lstM hH;obtain ⟨z2,its2,n2,r2,hl2,e2⟩:=I.lstM hB;refine PySem.P.add_list e e2 ?_ (by rw [aaj,aaj];lia);have ea:its.toArray++its2.toArray=(its++its2).toArray:=by simp
  rw [ea];exact ⟨.ref _,_,I.lnew (t':=s.toks) (r.append r2) (by rw [aav];lia),rfl,q _ I.fresh⟩
def tW:R2:=fun x y H Q=>∃ l k xs,x=.ref l∧y=.int k∧H l=some (.lst xs)∧-(2 ^ 63)≤k∧k < 2 ^ 63∧xs.length * k.toNat≤sizeLine ∧
  ∀ p,H p=none→Q (.ref p) (upd H p (.lst (aaF k.toNat xs).flatten))
theorem qf {α:Type} (xs:List α) (k:Nat):(aaF k xs).flatten.length=k * xs.length:=by
  induction k with
  | zero=>simp
  | succ k ih=>rw [abK,acl,aav,ih,Nat.succ_mul,Nat.add_comm]
theorem iF:OpR X (binaryOp .Mult) tW:=by
  intro pins s σ H x y v u Q I rx ry h;obtain ⟨l,k,xs,rfl,rfl,hH,h1,h2,hz,q⟩:=h;cases rx;obtain ⟨t,rfl⟩:=ry;obtain ⟨z,its,n,r,hl,e⟩:=I.lstM hH;have hlen:its.toArray.size * k.toNat≤sizeLine:=by rw [aaj,← hl];exact hz
  have hcap:¬ its.toArray.size * k.toNat > (2 ^ 63 - 1) / 8:=by
    have : (sizeLine:Nat)≤(2 ^ 63 - 1) / 8:=by decide
    lia
  have hfit:¬ (!Builtin.List.listFitsIndex k)=true:=by
    rw [fitsIndex_both h1 h2];exact aae
  have hlong:¬ abG (its.toArray.size * k.toNat)=true:=by
    rw [jN hlen];exact aae
  have hnew:List.foldl (fun x1 x2=>x1++x2) #[] (aaF (if its.toArray.isEmpty=true then 0 else k.toNat) its.toArray)=(aaF k.toNat its).flatten.toArray:=by
    have f0:∀ m:Nat,List.foldl (fun x1 x2=>x1++x2) #[] (aaF m its.toArray)=(aaF m its).flatten.toArray:=fun m=>by
      have:=hZ its m [];rw [ace] at this;exact this
    rw [f0];cases its with
    | nil=>simp
    | cons a r'=>rw [if_neg (by simp)]
  refine wpAny_binaryOp_repeat_ref (T:="list") (U:="int") (by decide) ⟨_,e,rfl⟩ (fun s'=>typeIs_int s' k t) noFill_list_mul F.fills_int_mul F.slot_int_rmul repeat_list F.slot_int_index.lookup
    (call_meets F.slot_int_rmul (typeIs_int s k t) F.entry_int_rmul (F.args_int_rmul_2 _ _) (int___rmul___int_list k t l its.toArray n)
      ⟨e,rfl,⟨_,e,rfl⟩,call_meets F.slot_list_mul ⟨_,e,rfl⟩ F.entry_list_mul (F.args_list_mul_2 _ _) (AutoListH.list___mul___list_int_3 l its.toArray n k t hfit hcap hlong) ⟨e,?_⟩⟩)
  rw [hnew];exact ⟨.ref _,_,I.lnew (t':=s.toks) (r.rep k.toNat) (by rw [qf,Nat.mul_comm];exact hz),rfl,q _ I.fresh⟩
end
section
variable {prog:Program} {w:World} {A:Around} {E:Value→Shared→Prop} {s:Shared}
end
section
variable {X:Cx}
end
end L2
namespace Att
open PySem PySem.W PySem.Calls PyProof.Rows
theorem fK {P:Params} {h:Heap}:∀ (ns:List Int) (vs:List Value),WellAll P h vs (ns.map WData.int)→IntsAre vs ns:=by
  intro ns
  induction ns with
  | nil =>
    intro vs w;rw [abn] at w;cases w;exact .nil
  | cons n ns ih =>
    intro vs w;rw [aad] at w;cases w with
    | cons a b =>
      cases a;exact .cons _ _ (ih _ b)
theorem mW {l:OpenLaw} {n:Nat} (hn:l.most=some n) {P:Params} {h:Heap} {args:List WData} {vals:List Value}
    (hpre:l.row.toRowW.claim.pre args=true) (hwl:WellAll P h vals args) :
    ∃ a vs ns,vals=[Value.ref a]∧args=[WData.list (ns.map WData.int)]∧h.get? a=some { cls:=.type "list",data:=.seq vs.toArray }∧IntsAre vs ns∧ns.length≤n:=by
  have hsh:WShape.hasAll [] args [.list .int]=true:=(pre_splitW hpre).1;have hc:l.pre.holds [] { args:=args }=true:=(pre_splitW hpre).2;obtain ⟨d,r,rfl,h1,h2⟩:=hasAllW_cons hsh;obtain rfl:=hasAllW_nil h2;obtain ⟨xs,rfl,h3⟩:=hasW_list h1;obtain ⟨ns,rfl⟩:=items_int h3;have hlen:ns.length≤n:=by
    unfold OpenLaw.pre at hc;have h4:(WTm.not (.lt (.lit (.int (n:Int))) (.len (.arg 0)))).holds [] { args:=[.list (ns.map .int)] }=true:=by
      have h4:=(holds_andW hc).1;rw [hn] at h4;exact h4
    have h5:=condW_of h4 (w_not (w_lt w_lit (w_len_list (w_arg rfl))));rw [aab] at h5;refine Nat.le_of_not_lt fun q=>?_;have q':(n:Int) < ((ns.length:Nat):Int):=by lia
    first
      | (rw [decide_eq_true q'] at h5;exact absurd h5 (by decide))
      | (simp at h5;lia)
  cases hwl with
  | cons w1 w2 =>
    cases w2;cases w1 with
    | list ho hall=>exact ⟨_,_,ns,rfl,rfl,ho,fK ns _ hall,hlen⟩
theorem nh (l:OpenLaw) (args:List WData):l.row.toRowW.claim.post args (.bool true) args=true :=
  postW_of (r:=l.row.toRowW) (X:=(true == true))
    (show WShape.has [] (.bool true) .bool=true by first|rfl|decide|simp [WShape.has,WShape.arms,WShape.armsAll])
    (show (WTm.eq .res (.lit (.bool true))).value [] { args:=args,res:=some (.bool true),after:=args }=some (.bool (true == true)) from w_eq_bool (w_res rfl) w_lit) rfl
theorem attach_call {l:OpenLaw} {n:Nat} {q:Program} {loose:List Str} {XP:(Str→Option Value)→Heap→Prop} {YP:World→Heap→Prop} {d:DefRec}
    (hn:l.most=some n) (hdf:d.params.defaults=[])
    (call:∀ (w:World) (s₀ s₁:Shared) (mg mb:Str→Option Value) (fa:Addr) (o:Obj) (pm cd doc:Value) (a:Addr) (vs:List Value) (ns:List Int),
      Ground q loose [] XP w s₀ mg mb s₁.heap→YP w s₁.heap →
      s₁.heap.get? fa=some o→o.data=.func (docDef d.name d.params d.body d.scope pm cd doc)→s₁.heap.CodeRec cd d.name→mg d.name=some (.ref fa) →
      s₁.heap.get? a=some { cls:=.type "list",data:=.seq vs.toArray }→IntsAre vs ns→ns.length≤n→s₁.gens=#[] →
      codeAny (model l.prog w) callerA (.call (.ref fa) ⟨[.ref a],[]⟩) (fun r s'=>r=.ok (.ret (.bool true))∧OldK s₁.heap s'.heap∧s'.os=s₁.os∧AllBare s'.gens) s₁) :
    WalkO q loose XP YP l.row.toRowW d [] (fun f vs=>PySem.call f vs):=by
  intro w s₀ s₁ mg mb G Y fa o pm cd doc dV kV ho hd hcd hD hmg hg args vals as hpre hlay hrd hwl hlo;obtain rfl:dV=.none:=Dflts.none hD hdf;obtain rfl:kV=.none:=Dflts.noKw hD;obtain ⟨a,vs,ns,rfl,rfl,hobj,hints,hlen⟩:=mW hn hpre hwl;refine enter_call (codeAny_mono (call w s₀ s₁ mg mb fa o pm cd doc a vs ns G Y ho (fd_plain hd) hcd hmg hobj hints hlen hg) fun r s' hq=>?_);obtain ⟨rfl,h2,h3,h4⟩:=hq;exact ⟨.inl ⟨.bool true,.bool true,[],rfl,fun _=>rfl,.bool true,nh l _,fun _=>⟨List.Pairwise.nil,fun _ hm=>(nomatch hm)⟩⟩,h2,h3,h4⟩
section
variable {prog:Program} {w:World} {A:Around} {E:Value→Shared→Prop} {s:Shared} {K:Frag}
end
end Att
namespace L2
open PySem PySem.Spec PyProof.Rows
theorem gX:∀ {vs:List Value} {ns:List Int},IntsAre vs ns→Vals (ns.map V.int) vs
  | _,_,.nil=>.nil
  | _,_,.cons n t h=>.cons ⟨t,rfl⟩ (gX h)
def rM (H:Hp):Prop:=∀ b,H b=none∨∃ o xs,H b=some (.frz o (.lst xs))
theorem oK {P:Program} {w:World} {K:aaa} {mg mb:Str→Option Value} {CX:CXT} {k:Nat} {fa a:Addr} {fd:FuncData} {x:Str} {sp:Sp} {s₁:Shared} {vs:List Value} {ns:List Int}
    (KX:K.In s₁.heap) (hns:s₁.heap.Ns mainGlobals mg) (hb:s₁.heap.Ns builtinsNs mb) (hbb:∀ x:Str,x ≠ "__name__"→mb x=bootBuiltins x) (hlim:s₁.heap.NoLimit) (hsm:∃ mm,s₁.heap.Ns sysModules mm) (hg:s₁.gens=#[])
    (ha:s₁.heap.get? a=some { cls:=.type "list",data:=.seq vs.toArray }) (hi:IntsAre vs ns) (hl:ns.length≤sizeLine) (hr:Room k callerA)
    (F:∀ base:Heap,K.In base→base.Ns mainGlobals mg→FnOk P w K mg base CX k fa fd [x] sp) (hbind:∀ (s:Shared) (u:Value),BindsTo s fd ⟨[u],[]⟩ [(x,u)])
    (hsp:∀ H:Hp,rM H→SqL K H a (ns.map V.int)→sp [.ref a] H (fun v _=>v=.bl true) fun _ _ _=>False)
    (hCX:∀ H e s',CX [] H s₁ (fun _ _ _=>False) e s'→False) :
    codeAny (model P w) callerA (.call (.ref fa) ⟨[.ref a],[]⟩) (fun r s'=>r=.ok (.ret (.bool true))∧OldK s₁.heap s'.heap∧s'.os=s₁.os∧AllBare s'.gens) s₁:=by
  have rv:=gX hi;have lenV:=hi.length;have core:∀ H:Hp,rM H→SqL K H a (ns.map V.int)→HOk P w H s₁.heap→(∀ b,H b≠none→b=a)→(H a≠none→K.lookup a=none) →
      codeAny (model P w) callerA (.call (.ref fa) ⟨[.ref a],[]⟩) (fun r s'=>r=.ok (.ret (.bool true))∧OldK s₁.heap s'.heap∧s'.os=s₁.os∧AllBare s'.gens) s₁:=by
    intro H hO hS hok hA hK;have base_of:∀ {b:Addr} {o:Obj},s₁.heap.get? b=some o→H b=none→(iV s₁.heap H).get? b=some o:=fun e n=>oV e n;have noA:∀ {b:Addr} {o:Obj} {es:Array DictEntry} {ep:Nat},s₁.heap.get? b=some o→o.data=.dict es ep→H b=none:=fun {b o es ep} e d=>by
      cases q:H b with
      | none=>rfl
      | some u =>
        have e':b=a:=hA b (by rw [q];simp);subst e';rw [ha] at e;cases e;have d':Data.seq vs.toArray _=Data.dict es ep:=d;cases d'
    have nsK:∀ {b:Addr} {m:Str→Option Value},s₁.heap.Ns b m→(iV s₁.heap H).Ns b m:=fun {b m} ⟨o,es,ep,e,d,r⟩=>⟨o,es,ep,base_of e (noA e d),d,r⟩
    have hKb:K.In (iV s₁.heap H):=fun b o e=>base_of (KX b o e) (by
      cases q:H b with
      | none=>rfl
      | some u =>
        have e':b=a:=hA b (by rw [q];simp);subst e';rw [hK (by rw [q];simp)] at e;cases e)
    have hM:Mod K mg (iV s₁.heap H):=⟨hKb,nsK hns,⟨mb,nsK hb,hbb⟩,let ⟨mc,h1,h2⟩:=hlim;⟨mc,nsK h1,h2⟩,let ⟨mm,h1⟩:=hsm;⟨mm,nsK h1⟩⟩
    have e0:Env0 P w K mg (iV s₁.heap H) callerA [] s₁ H:=⟨rfl,hM,fun b o e=>qc e,Nat.le_of_eq (nH _ _),trivial,fun b hb=>absurd (show b∈([]:List Addr) from hb) (by simp),hok,.of_eq hg⟩
    refine codeAny_mono ((F _ hKb (nsK hns)).run callerA [] s₁ H ⟨[.ref a],[]⟩ [.ref a] [.ref a] _ _ hr e0 (hbind s₁ (.ref a)) (.cons rfl .nil) (hsp H hO hS)) fun r s' h=>?_;cases r with
    | error e=>exact (hCX H e s' h).elim
    | ok fl =>
      cases fl with
      | next=>exact abY h
      | brk=>exact abY h
      | cont=>exact abY h
      | ret u =>
        obtain ⟨v,H',os,bare,un,hok',r',q⟩:=h;have q':v=.bl true:=q;subst q';obtain rfl:u=Value.bool true:=r';refine ⟨rfl,OldK.of_keep fun b o e=>?_,os,bare⟩;cases q:H b with
        | none=>exact un.keep b o e q (by intro z;exact absurd (show b∈([]:List Addr) from z) (by simp)) (by simp)
        | some u =>
          rcases hO b with z|⟨ob,xs,z⟩
          · rw [q] at z;cases z
          · have z2:=un.frzs b ob _ z;obtain ⟨e1,_⟩:=hok b _ z;obtain ⟨e2,_⟩:=hok' b _ z2;rw [e] at e1;cases e1;exact e2
  cases hk:K.lookup a with
  | some o =>
    have e:=KX a o hk;rw [ha] at e;cases e;refine core (fun _=>none) (fun _=>.inl rfl) (.inr ⟨_,vs.toArray,_,hk,rfl,rfl,rfl,by rw [aaj,lenV];exact hl,by simpa using rv⟩) (fun b u z=>by have z':(none:Option HO)=some u:=z;cases z') (fun b z=>absurd rfl z) fun z=>absurd rfl z
  | none =>
    refine core (fun b=>if b=a then some (.frz { cls:=.type "list",data:=.seq vs.toArray } (.lst (ns.map V.int))) else none) (fun b=>?_) (.inl (.inr ⟨{ cls:=.type "list",data:=.seq vs.toArray },if_pos rfl⟩)) (fun b u z=>?_) (fun b z=>?_) fun _=>hk
    · by_cases hb:b=a
      · exact .inr ⟨_,_,if_pos hb⟩
      · exact .inl (if_neg hb)
    · by_cases hb:b=a
      · have z':=(if_pos hb).symm.trans z;cases z';subst hb;exact ⟨ha,by rw [aab];exact hl,vs,_,rv,ha⟩
      · have z':=(if_neg hb).symm.trans z;cases z'
    · by_cases hb:b=a
      · exact hb
      · exact absurd (if_neg hb) z
open PySem PySem.Spec PyProof.Rows
theorem walk_of {l:PySem.W.OpenLaw} {n k:Nat} {q:Program} {loose:List Str} {XP:(Str→Option Value)→Heap→Prop} {YP:World→Heap→Prop} {d:DefRec} {K:Params→aaa} {CX:World→CXT} {sp:World→Sp} {x:Str}
    (hn:l.most=some n) (hn2:n≤sizeLine) (hdf:d.params.defaults=[]) (hr:Room k callerA) (hi:PyProof.Rows.importsNone q=true)
    (hY:∀ (w:World) (h:Heap),YP w h→(K w.params).In h)
    (F:∀ (w:World) (mg:Str→Option Value) (fa:Addr) (h:Heap),(K w.params).In h→h.Ns mainGlobals mg→mg d.name=some (.ref fa) →
      ∃ fd:FuncData,(∀ (s:Shared) (u:Value),BindsTo s fd ⟨[u],[]⟩ [(x,u)]) ∧
        ∀ base:Heap,(K w.params).In base→base.Ns mainGlobals mg→FnOk l.prog w (K w.params) mg base (CX w) k fa fd [x] (sp w))
    (hsp:∀ (w:World) (H:Hp) (a:Addr) (ns:List Int),ns.length≤n→rM H→SqL (K w.params) H a (ns.map V.int)→sp w [.ref a] H (fun v _=>v=.bl true) fun _ _ _=>False)
    (hCX:∀ (w:World) (H:Hp) (s:Shared) (e:Value) (s':Shared),CX w [] H s (fun _ _ _=>False) e s'→False) :
    PySem.W.WalkO q loose XP YP l.row.toRowW d [] (fun f vs=>PySem.call f vs):=by
  refine Att.attach_call hn hdf fun w s₀ s₁ mg mb fa o pm cd doc a vs ns G Y ho hd hcd hmg hobj hints hlen hg=>?_;have KX:=hY w _ Y;obtain ⟨fd,hb,hF⟩:=F w mg fa _ KX G.T.g hmg;exact oK KX G.T.g G.T.b G.T.builtins G.T.nolimit (let ⟨mm,h1,_⟩:=(G.T.seer hi).mods;⟨mm,h1⟩) hg hobj hints (aaG hlen hn2) hr hF hb (fun H hO hS=>hsp w H a ns hlen hO hS) fun H e s'=>hCX w H s₁ e s'
open PySem PySem.Spec PyProof.Rows
def bR (s:Stmt):Arguments:=match s with
  | .FunctionDef _ a _ _ _ _ _ _ _ _=>a
  | _=>{ posonlyargs:=[],args:=[],vararg:=none,kwonlyargs:=[],kw_defaults:=[],kwarg:=none,defaults:=[] }
def bH (s:Stmt):List Stmt:=match s with
  | .FunctionDef _ _ b _ _ _ _ _ _ _=>b
  | _=>[]
def ao (s:Stmt):Scope:=match s with
  | .FunctionDef _ _ _ _ _ _ sc _ _ _=>sc
  | _=>{ kind:=.function,names:=[],isGenerator:=false,isCoroutine:=false }
abbrev CX0:CXT:=fun _ _ _ _ _ _=>False
abbrev E0:XK:=fun _ _ _=>False
theorem sC {X:Cx}:lB CX0 X E0:=fun _ _ _ _ _ _ _ h=>h.elim
structure Fun (K:aaa) (x qual:Str) (st:Stmt) (f:Addr) (fd:FuncData):Prop where
  ex:∃ (oc:Value) (od:Option Addr) (kV doc pm:Value) (an:Option Addr) (cdv ct:Value) (osl:Array (Option Value)),
    fd=abo x qual (bR st) (bH st) (ao st) .none kV doc pm an cdv ct∧K.lookup f=some ⟨oc,od,.func fd,osl⟩∧abL K cdv qual=true
  kp:abk K (.ref f)=true
section
variable {P:Program} {w:World} {K:aaa} {mg:Str→Option Value} {base:Heap}
theorem Fun.ok {x qual:Str} {st:Stmt} {f:Addr} {fd:FuncData} {N ps:List Str} {k:Nat} {sp:Sp} (F:Fun K x qual st f fd) (S:FnScope N ps (ao st)) (len:∀ vs H Q E,sp vs H Q E→vs.length=ps.length)
    (hbody:∀ (cdv:Value) (A:Around) (outer:List Env) (s:Shared) (H:Hp) (vs:List V) (Q:VK) (E:XK),Room k (A.deeper (envOfC qual (ao st) s.heap.objs.size f cdv))→sp vs H Q E →
      ∃ t,PSs (nM CX0 P w K mg base N qual (ao st) f cdv A outer s H E).nox (bH st) t∧t { nx:=fun _ H'=>Q .non H',rt:=Q } (fE N vs) H):FnOk P w K mg base CX0 (k+1) f fd ps sp:=by
  obtain ⟨oc,od,kV,doc,pm,an,cdv,ct,osl,rfl,lk,hcd⟩:=F.ex;refine tf lk hcd S len fun A outer s H vs Q E hr hsp=>?_;obtain ⟨t,h,q⟩:=hbody cdv A outer s H vs Q E hr hsp;exact ⟨t,h.nox,q⟩
theorem Fun.binds {x qual:Str} {st:Stmt} {f:Addr} {fd:FuncData} {ps:List Str} (F:Fun K x qual st f fd)
    (h:∀ (kV doc pm:Value) (an:Option Addr) (cdv ct:Value) (us:List Value),us.length=ps.length→bindArgs (abo x qual (bR st) (bH st) (ao st) .none kV doc pm an cdv ct) ⟨us,[]⟩=pure (ps.zip us)):Binds K fd ps []:=by
  obtain ⟨oc,od,kV,doc,pm,an,cdv,ct,osl,rfl,lk,hcd⟩:=F.ex;exact .all (h kV doc pm an cdv ct)
theorem o4 {x qual:Str} {st:Stmt} {f:Addr} {oc:Value} {od an:Option Addr} {osl:Array (Option Value)} {kV doc pm cdv ct:Value} (l:K.lookup f=some ⟨oc,od,.func (abo x qual (bR st) (bH st) (ao st) .none kV doc pm an cdv ct),osl⟩)
    (c:abL K cdv qual=true) (k:abk K (.ref f)=true):Fun K x qual st f (abo x qual (bR st) (bH st) (ao st) .none kV doc pm an cdv ct):=⟨⟨oc,od,kV,doc,pm,an,cdv,ct,osl,rfl,l,c⟩,k⟩
end
theorem aB {n:Nat} (h:n≤1000):n < sizeLine:=aa6 h (by decide)
section
variable {X:Cx}
theorem pv (i:Nat) {x:Str} {pos:Pos} (hN:X.N[i]?=some x:=by rfl) (hv:Vis X.env.scope x:=by first|exact Or.inl rfl|exact Or.inr (Or.inl rfl)|exact Or.inr (Or.inr rfl)) (hd:(x == ("__debug__":Str))=false:=by decide)
    (hcd:(x == ("__classdict__":Str))=false:=by decide):PE X (.Name x pos) (rS i):=qU hN hv hd hcd
end
theorem aR {A B:Prop} (h:B):if false=true then A else B:=by
  rw [if_neg aae];exact h
theorem a4 {A B:Prop} (h:A):if true=true then A else B:=by
  rw [if_pos rfl];exact h
theorem fJ {c A B:Prop} [Decidable c] (h1:c→A) (h2:¬ c→B):if c then A else B:=by
  by_cases h:c
  · rw [if_pos h];exact h1 h
  · rw [if_neg h];exact h2 h
theorem oR {c A B:Prop} [Decidable c] (hc:c) (h:B):if (!decide c)=true then A else B:=by
  rw [decide_eq_true hc];exact aR h
def Same (H H':Hp):Prop:=∀ b o,H b=some o→H' b=some o
theorem Same.refl (H:Hp):Same H H:=fun _ _ h=>h
theorem Same.trans {H H1 H2:Hp} (a:Same H H1) (b:Same H1 H2):Same H H2:=fun c o h=>b c o (a c o h)
theorem Same.free {H H':Hp} (e:Same H H') {l:Addr} (h:H' l=Option.none):H l=Option.none:=by
  cases q:H l with
  | none=>rfl
  | some o =>
    rw [e l o q] at h;cases h
theorem Same.seq {K:aaa} {H H':Hp} {a:Addr} {xs:List V} (e:Same H H') (h:SqL K H a xs):SqL K H' a xs:=by
  rcases h with (h|⟨o,h⟩)|h
  · exact .inl (.inl (e _ _ h))
  · exact .inl (.inr ⟨o,e _ _ h⟩)
  · exact .inr h
open PySem PySem.Spec PyProof.Rows
section
variable {κ:Type} [DecidableEq κ]
def bn (kvs:List (κ × V)) (k:κ):Option V:=(kvs.find? fun kv=>decide (kv.1=k)).map (·.2)
def bX (kvs:List (κ × V)) (k:κ) (v:V):List (κ × V) :=
  if (kvs.any fun kv=>decide (kv.1=k))=true then kvs.map (fun kv=>if kv.1=k then (kv.1,v) else kv) else kvs++[(k,v)]
theorem cq {p:κ × V} {r:List (κ × V)} {k:κ} (e:p.1=k):bn (p :: r) k=some p.2:=by simp [bn,aa0,e]
theorem cr {p:κ × V} {r:List (κ × V)} {k:κ} (e:¬ p.1=k):bn (p :: r) k=bn r k:=by simp [bn,aa0,e]
theorem cM (k:κ):∀ kvs:List (κ × V),(kvs.any fun kv=>decide (kv.1=k))=(bn kvs k).isSome
  | []=>rfl
  | p :: r=>by
    rw [acy];by_cases e:p.1=k
    · simp only [cq e,decide_eq_true e,Bool.true_or,Option.isSome_some]
    · rw [cr e,decide_eq_false e,Bool.false_or];exact cM k r
theorem dC (kvs:List (κ × V)) (k:κ) (v:V):(bX kvs k v).length≤kvs.length+1:=by
  unfold bX;split
  · rw [aab];lia
  · rw [aav,aaN,abR];lia
theorem n_ {kvs:List (κ × V)} {k:κ} (v:V) (h:bn kvs k=none):bX kvs k v=kvs++[(k,v)]:=by
  unfold bX;rw [cM,h];exact if_neg (by decide)
theorem RelO.isSome_eq {o:Option V} {u:Option Value} (r:RelO o u):o.isSome=u.isSome:=by
  cases o with
  | none=>cases u with
    | none=>rfl
    | some _=>exact (show False from r).elim
  | some _=>cases u with
    | none=>exact (show False from r).elim
    | some _=>rfl
theorem RelO.getD {o:Option V} {u:Option Value} {d:V} {d':Value} (r:RelO o u) (rd:RelV d d'):RelV (o.getD d) (u.getD d'):=by
  cases o with
  | none=>cases u with
    | none=>exact rd
    | some _=>exact (show False from r).elim
  | some _=>cases u with
    | none=>exact (show False from r).elim
    | some _=>exact r
theorem KV.val {kvs:List (κ × V)} {vs:List (κ × Value)} (r:KV kvs vs) (k:κ):RelO (bn kvs k) (valueAt vs k):=by
  unfold KV at r
  induction r with
  | nil=>exact True.intro
  | @cons p q ps qs h t ih =>
    obtain ⟨h1,h2⟩:=h;by_cases e:p.1=k
    · have e':q.1=k:=h1.symm.trans e;have b:valueAt (q :: qs) k=some q.2:=by simp [valueAt,aa0,e']
      rw [cq e,b];exact h2
    · have e':¬ q.1=k:=fun z=>e (h1.trans z);have b:valueAt (q :: qs) k=valueAt qs k:=by simp [valueAt,aa0,e']
      rw [cr e,b];exact ih
theorem KV.any {kvs:List (κ × V)} {vs:List (κ × Value)} (r:KV kvs vs) (k:κ):(kvs.any fun kv=>decide (kv.1=k))=vs.any fun kv=>decide (kv.1=k):=by
  unfold KV at r
  induction r with
  | nil=>rfl
  | cons h t ih=>rw [acy,acy,ih,h.1]
theorem KV.repl {kvs:List (κ × V)} {vs:List (κ × Value)} (r:KV kvs vs) (k:κ) {y:V} {u:Value} (ry:RelV y u) :
    KV (kvs.map fun kv=>if kv.1=k then (kv.1,y) else kv) (vs.map fun kv=>if kv.1=k then (kv.1,u) else kv):=by
  unfold KV at r ⊢
  induction r with
  | nil=>exact .nil
  | @cons p q ps qs h t ih =>
    rw [aad,aad];refine .cons ?_ ih;obtain ⟨h1,h2⟩:=h;by_cases e:p.1=k
    · rw [if_pos e,if_pos (h1.symm.trans e)];exact ⟨h1,ry⟩
    · rw [if_neg e,if_neg (fun z=>e (h1.trans z))];exact ⟨h1,h2⟩
theorem KV.put {kvs:List (κ × V)} {vs:List (κ × Value)} (r:KV kvs vs) (k:κ) {y:V} {u:Value} (ry:RelV y u):KV (bX kvs k y) (stored vs k u):=by
  unfold bX stored;rw [r.any k];by_cases e:(vs.any fun kv=>decide (kv.1=k))=true
  · rw [if_pos e,if_pos e];exact r.repl k ry
  · rw [if_neg e,if_neg e];exact Paired.snoc r ⟨rfl,ry⟩
theorem KV.length {kvs:List (κ × V)} {vs:List (κ × Value)} (r:KV kvs vs):kvs.length=vs.length:=aar r
end
theorem jU {P:Program} {w:World} {k:Key} {u:Value} (r:RelV (kV k) u):(av P w).is k u=true:=by
  cases k with
  | inl i=>obtain ⟨t,e⟩:=(show ∃ t,u=Value.int i t from r);subst e;exact jS P w i t
  | inr x=>obtain ⟨t,e⟩:=(show ∃ t,u=Value.str x t from r);subst e;exact jR P w x t
theorem g_ {P:Program} {w:World}:∀ {ks:List Key} {us:List Value},Vals (ks.map kV) us→ItemsAre (av P w) ks us
  | [],_,r=>by rw [abn] at r;cases r;exact .nil
  | k :: ks,_,r=>by
    rw [aad] at r;cases r with
    | cons h t=>exact .cons (jU h) (g_ t)
abbrev KT (H:Hp):List (List Key × V)→List (List Key × Addr × Value)→Prop:=Paired fun p q=>p.1=q.1∧H q.2.1=some (.tup (p.1.map kV))∧RelV p.2 q.2.2
theorem KT.val {H:Hp} {kvs:List (List Key × V)} {xs:List (List Key × Addr × Value)} (r:KT H kvs xs) (k:List Key):RelO (bn kvs k) ((atKey xs k).map (·.2)):=by
  induction r with
  | nil=>exact True.intro
  | @cons p q ps qs h t ih =>
    obtain ⟨h1,_,h2⟩:=h;by_cases e:p.1=k
    · have e':q.1=k:=h1.symm.trans e;have b:atKey (q :: qs) k=some q.2:=by simp [atKey,aa0,e']
      rw [cq e,b];exact h2
    · have e':¬ q.1=k:=fun z=>e (h1.trans z);have b:atKey (q :: qs) k=atKey qs k:=by simp [atKey,aa0,e']
      rw [cr e,b];exact ih
theorem KT.repl {H:Hp} {kvs:List (List Key × V)} {xs:List (List Key × Addr × Value)} (r:KT H kvs xs) (k:List Key) {y:V} {u:Value} (ry:RelV y u) :
    KT H (kvs.map fun kv=>if kv.1=k then (kv.1,y) else kv) (xs.map (putAt k u)):=by
  induction r with
  | nil=>exact .nil
  | @cons p q ps qs h t ih =>
    rw [aad,aad];refine .cons ?_ ih;obtain ⟨h1,h2,h3⟩:=h;unfold putAt;by_cases e:p.1=k
    · rw [if_pos e,if_pos (h1.symm.trans e)];exact ⟨h1,h2,ry⟩
    · rw [if_neg e,if_neg (fun z=>e (h1.trans z))];exact ⟨h1,h2,h3⟩
theorem KT.put {H:Hp} {kvs:List (List Key × V)} {xs:List (List Key × Addr × Value)} (r:KT H kvs xs) (k:List Key) {b:Addr} {y:V} {u:Value} (hb:H b=some (.tup (k.map kV))) (ry:RelV y u) :
    KT H (bX kvs k y) (storedH xs k b u):=by
  have e:(kvs.any fun kv=>decide (kv.1=k))=(atKey xs k).isSome:=by
    rw [cM,(r.val k).isSome_eq,Option.isSome_map]
  unfold bX storedH;rw [e];by_cases q:(atKey xs k).isSome=true
  · rw [if_pos q,if_pos q];exact r.repl k ry
  · rw [if_neg q,if_neg q];exact Paired.snoc r ⟨rfl,hb,ry⟩
theorem KT.keeps {H H':Hp} {kvs:List (List Key × V)} {xs:List (List Key × Addr × Value)} (r:KT H kvs xs) (ht:∀ b ys,H b=some (.tup ys)→H' b=some (.tup ys)):KT H' kvs xs :=
  Paired.mapP r fun _ _ z=>⟨z.1,ht _ _ z.2.1,z.2.2⟩
section
variable {P:Program} {w:World} {H:Hp} {h:Heap} {a:Addr}
theorem qy {u:HO} (ok:HOk P w H h) (e:Rd H a u):ObjOk P w H h a u:=e.ok ok
theorem my {kvs:List (Key × V)} (ok:HOk P w H h) (e:Rd H a (.dK kvs)):kvs.length≤sizeLine∧(a == sysModules)=false∧∃ vs,KV kvs vs∧h.DictOf (av P w) a vs :=
  show ObjOk P w H h a (.dK kvs) from qy ok e
theorem mz {kvs:List (Key × V)} (ok:HOk P w H h) (e:H a=some (.dK kvs)):kvs.length≤sizeLine∧(a == sysModules)=false∧∃ vs,KV kvs vs∧h.DictOf (av P w) a vs:=my ok (.inl e)
theorem fz {ks:List Key} (ok:HOk P w H h) (e:H a=some (.tup (ks.map kV))):(tupleKind (av P w)).is h ks a:=by
  obtain ⟨_,its,r,o,h1,h2,n,h3⟩:=(show ObjOk P w H h a (.tup (ks.map kV)) from ok a _ e)
  exact ⟨o,its.toArray,n,h1,h2,h3,by simpa using g_ r⟩
theorem j9 {kvs:List (List Key × V)} (ok:HOk P w H h) (e:Rd H a (.dT kvs)):kvs.length≤sizeLine∧(a == sysModules)=false ∧
    ∃ xs,KT H kvs xs∧h.DictOfH (tupleKind (av P w)) a xs:=by
  obtain ⟨z,y,xs,r,o,es,ep,h1,h2,h3,h4,h5⟩:=(show ObjOk P w H h a (.dT kvs) from qy ok e)
  refine ⟨z,y,xs,r,o,es,ep,h1,h2,h3,h4,fun x hx=>?_,h5⟩;have all:∀ {l:List (List Key × V)} {m:List (List Key × Addr × Value)},KT H l m→∀ x∈m,(tupleKind (av P w)).is h x.1 x.2.1:=by
    intro l m q
    induction q with
    | nil=>intro x hx;exact nomatch hx
    | @cons p q ps qs hq t ih =>
      intro x hx;rcases aai.mp hx with e|hx
      · subst e;exact fz ok (by rw [← hq.1];exact hq.2.1)
      · exact ih x hx
  exact all r x hx
theorem h7 {kvs:List (List Key × V)} (ok:HOk P w H h) (e:H a=some (.dT kvs)):kvs.length≤sizeLine∧(a == sysModules)=false ∧
    ∃ xs,KT H kvs xs∧h.DictOfH (tupleKind (av P w)) a xs:=j9 ok (.inl e)
end
def DGet (H:Hp) (a:Addr) (y:V) (r:Option V):Prop :=
  (∃ kvs k,Rd H a (.dK kvs)∧y=kV k∧r=bn kvs k)∨∃ kvs k b,Rd H a (.dT kvs)∧y=.ref b∧H b=some (.tup (k.map kV))∧r=bn kvs k
def DPut (H:Hp) (a:Addr) (y v:V) (H':Hp):Prop :=
  (∃ kvs k,H a=some (.dK kvs)∧y=kV k∧kvs.length < sizeLine∧H'=upd H a (.dK (bX kvs k v))) ∨
  ∃ kvs k b,H a=some (.dT kvs)∧y=.ref b∧H b=some (.tup (k.map kV))∧kvs.length < sizeLine∧H'=upd H a (.dT (bX kvs k v))
theorem DGet.t {H:Hp} {a b:Addr} {kvs:List (List Key × V)} {k:List Key} (e:H a=some (.dT kvs)) (eb:H b=some (.tup (k.map kV))):DGet H a (.ref b) (bn kvs k):=.inr ⟨kvs,k,b,.inl e,rfl,eb,rfl⟩
theorem DPut.t {H:Hp} {a b:Addr} {kvs:List (List Key × V)} {k:List Key} {v:V} (e:H a=some (.dT kvs)) (eb:H b=some (.tup (k.map kV))) (hl:kvs.length < sizeLine) :
    DPut H a (.ref b) v (upd H a (.dT (bX kvs k v))):=.inr ⟨kvs,k,b,e,rfl,eb,hl,rfl⟩
section
variable {X:Cx} {pins:List (Addr × Obj)} {σ:St} {H:Hp} {s:Shared} {a:Addr} {y v:V} {u r:Value} {o:Option V} {A:Around} {E:Value→Shared→Prop}
theorem Inv.big (I:Inv X pins σ H s):sysModules < s.heap.objs.size:=by
  have h:mainGlobals < s.heap.objs.size:=(I.mod.glob.keeps I.bk).lt;exact acs (by decide) h
theorem nK {Q:Value→Shared→Prop} (hu:A.units+1 < cLine) (I:Inv X pins σ H s) (g:DGet H a y (some v)) (ry:RelV y u) (h:∀ w' s',Inv X pins σ H s'→RelV v w'→Q w' s') :
    wpAny (model X.prog X.w) A (getItem (.ref a) u) Q E s:=by
  rcases g with ⟨kvs,k,e,ey,l⟩|⟨kvs,k,b,e,ey,eb,l⟩
  · subst ey;obtain ⟨z,hd,vs,rel,dd⟩:=my I.hok e;obtain ⟨w',hw,rw'⟩:=RelO.some_of (v:=v) (o:=valueAt vs k) (by rw [l];exact rel.val k);exact wpAny_getItem_of (jU ry) dd.mapOf hw (h w' _ (I.tok _) rw')
  · subst ey;cases (show u=Value.ref b from ry);obtain ⟨z,hd,xs,rel,dd⟩:=j9 I.hok e;obtain ⟨w',hw,rw'⟩:=RelO.some_of (v:=v) (o:=(atKey xs k).map (·.2)) (by rw [l];exact rel.val k);obtain ⟨p,hp,hp2⟩:=abh.mp hw;refine wpAny_getItem_heap (tupleKind_room_in1 hu) (fz I.hok eb) dd hp ?_;rw [hp2];exact h w' _ (I.tok _) rw'
theorem qo {Q:Value→Shared→Prop} (hu:A.units+1 < cLine) (I:Inv X pins σ H s) (g:DGet H a y o) (ry:RelV y u) (h:∀ s',Inv X pins σ H s'→Q (.bool (!o.isSome)) s') :
    wpAny (model X.prog X.w) A (compareOp .NotIn u (.ref a)) Q E s:=by
  rcases g with ⟨kvs,k,e,ey,l⟩|⟨kvs,k,b,e,ey,eb,l⟩
  · subst ey;obtain ⟨z,hd,vs,rel,dd⟩:=my I.hok e;refine wpAny_notIn_of (jU ry) hd dd.mapOf ?_;rw [← (rel.val k).isSome_eq,← l];exact h _ (I.tok _)
  · subst ey;cases (show u=Value.ref b from ry);obtain ⟨z,hd,xs,rel,dd⟩:=j9 I.hok e;refine wpAny_notIn_heap (tupleKind_room_in1 hu) (fz I.hok eb) hd dd ?_;have q:=(rel.val k).isSome_eq;rw [Option.isSome_map] at q;rw [← q,← l];exact h _ (I.tok _)
theorem eU {h':Heap} {t':Nat} {ob:HO} (I:Inv X pins σ H s) (mu:Mut (H a)) (hs:aaU a s.heap h') (he:∃ q,h'.get? a=some q) (new:ObjOk X.prog X.w (upd H a ob) h' a ob) :
    Inv X pins σ (upd H a ob) { s with heap:=h',toks:=t' } :=
  I.write (x:=a) (e:=a) mu (.inl rfl) (fun b q hb z=>(hs.2 b hb).trans z) he new
theorem rH {P:Program} {w:World} {H':Hp} {h':Heap} {kvs:List (Key × V)} {vs:List (Key × Value)} (z:kvs.length≤sizeLine) (hd:(a == sysModules)=false) (rel:KV kvs vs) (dd:h'.DictOf (av P w) a vs) :
    ObjOk P w H' h' a (.dK kvs):=⟨z,hd,vs,rel,dd⟩
theorem nJ {H':Hp} {Q:Unit→Shared→Prop} (hu:A.units+1 < cLine) (I:Inv X pins σ H s) (g:DPut H a y v H') (ry:RelV y u) (rv:RelV v r) (h:∀ s',Inv X pins σ H' s'→Q () s') :
    wpAny (model X.prog X.w) A (setItem (.ref a) u r) Q E s:=by
  rcases g with ⟨kvs,k,e,ey,l,eH⟩|⟨kvs,k,b,e,ey,eb,l,eH⟩
  · subst ey eH;obtain ⟨z,hd,vs,rel,dd⟩:=mz I.hok e;have hz:vs.length≤sizeLine:=by rw [← rel.length];exact z
    have hl:(bX kvs k v).length≤sizeLine:=by have:=dC kvs k v;lia
    refine wpAny_setItem_pairs (hsz:=hz) (jU ry) dd fun h' dd' hs=>h _ ?_;have he:∃ q,h'.get? a=some q:=let ⟨q,_,_,hq,_⟩:=dd';⟨q,hq⟩;exact eU I (by rw [e];exact True.intro) hs he (rH hl hd (rel.put k rv) dd')
  · subst ey eH;cases (show u=Value.ref b from ry);obtain ⟨z,hd,xs,rel,dd⟩:=h7 I.hok e;have hz:xs.length≤sizeLine:=by rw [← aar rel];exact z
    have hl:(bX kvs k v).length≤sizeLine:=by have:=dC kvs k v;lia
    refine wpAny_setItem_heap (hsz:=hz) (tupleKind_room_in1 hu) (fz I.hok eb) dd fun h' dd' hs=>h _ ?_;obtain ⟨q,es,ep,hq,h2,h3,h4,_,h5⟩:=dd';refine eU I (by rw [e];exact True.intro) hs ⟨q,hq⟩ ⟨hl,hd,_,(rel.put k eb rv).keeps fun c ys ec=>?_,q,es,ep,hq,h2,h3,h4,h5⟩;rw [ak (oI ec e (fun z=>nomatch z))];exact ec
end
section
variable {X:Cx} {pins:List (Addr × Obj)} {σ:St} {H:Hp} {s:Shared} {a:Addr} {kvs:List (Key × V)} {k:Key} {u:Value} {A:Around} {E:Value→Shared→Prop}
end
def rN (i:Expr):Prop:=∀ ov iv,subscripted i false ov iv=operate [ov,iv] (getItem ov iv)
theorem lM {prog:Program} {w:World} {A:Around} {E:Value→Shared→Prop} {s:Shared} {env:Env} {value slice:Expr} {pos:Pos} {T id:String} {Q:Value→Shared→Prop}
    (hl:typeLookup (.type T) "__getitem__" = pure (some (.builtin id))) (hs:rN slice)
    (h:wpAny (model prog w) A (eval value env) (fun o s₁=>wpAny (model prog w) A (eval slice env) (fun i s₂=>s₂.TypeIs o T∧wpAny (model prog w) A (getItem o i) Q E s₂) E s₁) E s) :
    wpAny (model prog w) A (eval (.Subscript value slice pos) env) Q E s:=by
  refine Subscript_ (wpAny_mono h (fun o s₁ h₁=>wpAny_mono h₁ (fun i s₂ h₂=>?_) fun _ _ x=>x) fun _ _ x=>x);obtain ⟨hT,h₂⟩:=h₂;unfold subscriptTail;refine wpAny_bind ?_;rw [getitemInPython_of_ne hT.not_modules];refine wpAny_bind (wpAny_specialOf hT hl ?_);have fin:wpAny (model prog w) A (subscripted slice false o i) (fun r s₃=>wpAny (model prog w) A (letTemporaryGo value o r >>= fun _=>pure r) Q E s₃) E s₂:=by
    rw [hs o i];exact wpAny_operating (wpAny_mono h₂ (fun r s₃ h₃=>wpAny_bind (wpAny_letTemporaryGo (wpAny_pure h₃))) fun _ _ x=>x)
  first
    | exact wpAny_pure (wpAny_bind fin)
    | exact wpAny_bind (wpAny_pure (wpAny_bind fin))
    | exact wpAny_bind fin
theorem ka {X:Cx} {pins:List (Addr × Obj)} {σ:St} {H:Hp} {s:Shared} {a:Addr} {y:V} {o:Option V} (I:Inv X pins σ H s) (g:DGet H a y o):s.TypeIs (.ref a) "dict":=by
  rcases g with ⟨kvs,k,e,_,_⟩|⟨kvs,k,b,e,_,_,_⟩
  · obtain ⟨_,_,vs,_,dd⟩:=my I.hok e;exact dd.typeIs
  · obtain ⟨_,_,xs,_,dd⟩:=j9 I.hok e;exact dd.typeIs
def r9 (td ty:TE):TE:=fun σ H Q=>td σ H fun x H1=>ty σ H1 fun y H2=>∃ a v,x=.ref a∧DGet H2 a y (some v)∧Q v H2
def lK (ty td:TE):TE:=fun σ H Q=>ty σ H fun y H1=>td σ H1 fun x H2=>∃ a o,x=.ref a∧DGet H2 a y o∧Q (.bl (!o.isSome)) H2
def sj (td ty tv:TE):TS:=fun D σ H=>tv σ H fun v H1=>td σ H1 fun x H2=>ty σ H2 fun y H3=>∃ a H4,x=.ref a∧DPut H3 a y v H4∧D.nx σ H4
section
variable {X:Cx} {o i e value:Expr} {pos pos' tpos:Pos} {td ty tv:TE}
theorem dI (hu:X.A.units+1 < cLine) (ho:PE X o td) (hi:PE X i ty) (hs:rN i):PE X (.Subscript o i pos) (r9 td ty):=by
  intro pins s σ H Q I h;refine lM acE.lookup hs (thn (ho pins s σ H _ I h) fun u s1 ⟨x,H1,I1,rx,q1⟩=>thn (hi pins s1 σ H1 _ I1 q1) fun iv s2 ⟨y,H2,I2,ry,a,v,ex,g,q2⟩=>?_);subst ex;obtain rfl:u=Value.ref a:=rx;exact ⟨ka I2 g,nK hu I2 g ry fun w' s3 I3 rw'=>⟨v,H2,I3,rw',q2⟩⟩
theorem ni (hu:X.A.units+1 < cLine) (hi:PE X i ty) (ho:PE X o td):PC X .NotIn i o (lK ty td):=by
  intro pins s σ H Q I h;refine thn (hi pins s σ H _ I h) fun iv s1 ⟨y,H1,I1,ry,q1⟩=>thn (ho pins s1 σ H1 _ I1 q1) fun u s2 ⟨x,H2,I2,rx,a,ov,ex,g,q2⟩=>?_;subst ex;obtain rfl:u=Value.ref a:=rx;exact qo hu I2 g ry fun s3 I3=>⟨.bl (!ov.isSome),H2,I3,rfl,q2⟩
theorem lZ (hu:X.A.units+1 < cLine) (ho:PE X o td) (hi:PE X i ty) (hv:PE X value tv) (hs:swapsWith value (some (.Subscript o i pos')) pos.line X.env=pure false) :
    PS X (.Assign [.Subscript o i pos'] value pos) (sj td ty tv):=by
  intro pins s σ H D I h;refine wpAny_Assign_Subscript (thn (hv pins s σ H _ I h) fun r s1 ⟨v,H1,I1,rv,q1⟩=>thn (ho pins s1 σ H1 _ I1 q1) fun u s2 ⟨x,H2,I2,rx,q2⟩=>thn (hi pins s2 σ H2 _ I2 q2) fun iv s3 ⟨y,H3,I3,ry,a,H4,ex,g,q3⟩=>?_) hs;subst ex;obtain rfl:u=Value.ref a:=rx;exact nJ hu I3 g ry rv fun s4 I4=>⟨σ,H4,I4,q3⟩
end
theorem px {P:Program} {w:World} {H:Hp} (h:Heap) (hb:sysModules < h.objs.size):ObjOk P w H (h.push { cls:=.type "dict",data:=.dict #[] }) h.objs.size (.dK []) :=
  ⟨aaQ _,beq_eq_false_iff_ne.mpr (abF (aaz hb)),[],.nil,Heap.DictOf.new h⟩
theorem j_ {P:Program} {w:World} {H:Hp} (h:Heap) (hb:sysModules < h.objs.size):ObjOk P w H (h.push { cls:=.type "dict",data:=.dict #[] }) h.objs.size (.dT []) :=
  ⟨aaQ _,beq_eq_false_iff_ne.mpr (abF (aaz hb)),[],.nil,_,#[],0,aao _ rfl,⟨rfl,rfl,rfl⟩,rfl,rfl,acp⟩
def qN:TE:=fun _ H Q=>∀ p,H p=none→Q (.ref p) (upd H p (.dK []))
def qM:TE:=fun _ H Q=>∀ p,H p=none→Q (.ref p) (upd H p (.dT []))
section
variable {X:Cx} {pos:Pos}
theorem gh:PE X (.Dict [] [] pos) qN:=fun pins s σ H Q I h =>
  wpAny_Dict_empty ⟨.ref s.heap.objs.size,_,I.laid (a:=s.heap.objs.size) (o:=.dK []) (t':=s.toks) (fun _ _ q=>aaf _ q) (aah _) (px s.heap I.big),rfl,h _ (I.hok.fresh (aah _))⟩
theorem jA:PE X (.Dict [] [] pos) qM:=fun pins s σ H Q I h =>
  wpAny_Dict_empty ⟨.ref s.heap.objs.size,_,I.laid (a:=s.heap.objs.size) (o:=.dT []) (t':=s.toks) (fun _ _ q=>aaf _ q) (aah _) (j_ s.heap I.big),rfl,h _ (I.hok.fresh (aah _))⟩
end
def ko:List (TE × TE)→St→Hp→(List (V × V)→Hp→Prop)→Prop
  | [],_,H,Q=>Q [] H
  | (tk,tv) :: r,σ,H,Q=>tk σ H fun x H1=>tv σ H1 fun y H2=>ko r σ H2 fun ps H3=>Q ((x,y) :: ps) H3
abbrev VV:List (V × V)→List (Value × Value)→Prop:=Paired fun p q=>RelV p.1 q.1∧RelV p.2 q.2
def PPs (X:Cx) (pos:Pos) (keys:List (Option Expr)) (values:List Expr) (trs:List (TE × TE)):Prop :=
  ∀ (pins:List (Addr × Obj)) (s:Shared) (σ:St) (H:Hp) (Q:List (V × V)→Hp→Prop),Inv X pins σ H s→ko trs σ H Q →
    wpAny (model X.prog X.w) X.A (evalPairs (pairTrees keys values X.env pos)) (fun vs s'=>∃ ps H',Inv X pins σ H' s'∧VV ps vs∧Q ps H') X.xe s
theorem l4 {X:Cx} {pos:Pos}:PPs X pos [] [] []:=fun pins s σ H Q I h=>pairTrees_nil_walk ⟨[],H,I,.nil,h⟩
theorem jx {X:Cx} {pos:Pos} {k v:Expr} {ks:List (Option Expr)} {vs:List Expr} {tk tv:TE} {trs:List (TE × TE)} (hk:PE X k tk) (hv:PE X v tv) (hr:PPs X pos ks vs trs) :
    PPs X pos (some k :: ks) (v :: vs) ((tk,tv) :: trs):=fun pins s σ H Q I h =>
  pairTrees_cons_walk (thn (hk pins s σ H _ I h) fun u s1 ⟨x,H1,I1,rx,q1⟩=>thn (hv pins s1 σ H1 _ I1 q1) fun w2 s2 ⟨y,H2,I2,ry,q2⟩ =>
    thn (hr pins s2 σ H2 _ I2 q2) fun ws s3 ⟨ps,H3,I3,rel,q3⟩=>⟨(x,y) :: ps,H3,I3,.cons ⟨rx,ry⟩ rel,q3⟩)
structure M1 (X:Cx) (o:Expr) (m:Str) (apos:Pos) (e:Expr) (cpos:Pos):Prop where
  base:attributeBase o m X.env (eval o X.env)=eval o X.env
  few:((backTo cpos (starEach [e] X.env)).all (fun x=>!x.1) && (backToKw cpos (keywordEach [] X.env)).all (fun x=>x.1.isSome)
    && decide (([e]:List Expr).length+([]:List Keyword).length+(if ([]:List Keyword).isEmpty then 0 else 1) < 30))=true
  line:(apos.endLine == cpos.line)=true
  trees:backTo cpos (starEach [e] X.env)=[(false,eval e X.env)]
structure M2 (X:Cx) (o:Expr) (m:Str) (apos:Pos) (e f:Expr) (cpos:Pos):Prop where
  base:attributeBase o m X.env (eval o X.env)=eval o X.env
  few:((backTo cpos (starEach [e,f] X.env)).all (fun x=>!x.1) && (backToKw cpos (keywordEach [] X.env)).all (fun x=>x.1.isSome)
    && decide (([e,f]:List Expr).length+([]:List Keyword).length+(if ([]:List Keyword).isEmpty then 0 else 1) < 30))=true
  line:(apos.endLine == cpos.line)=true
  trees:backTo cpos (starEach [e,f] X.env)=[(false,eval e X.env),(false,eval f X.env)]
section
variable {X:Cx} {pins:List (Addr × Obj)} {σ:St} {H:Hp} {s:Shared} {a:Addr} {y d:V} {u r:Value} {o:Option V} {A:Around} {E:Value→Shared→Prop}
end
section
variable {X:Cx} {o e f:Expr} {apos cpos:Pos} {td ty tx:TE}
end
section
variable {X:Cx} {pins:List (Addr × Obj)} {σ:St} {H:Hp} {s:Shared} {a:Addr} {kvs:List (Key × V)} {A:Around} {E:Value→Shared→Prop}
end
section
variable {X:Cx} {pins:List (Addr × Obj)} {σ:St} {H:Hp} {s:Shared} {a:Addr} {y:V} {u:Value} {A:Around} {E:Value→Shared→Prop}
end
open PySem PySem.Spec PyProof.Rows
section
variable {X:Cx}
end
section
variable {κ:Type} [DecidableEq κ]
theorem nS {kvs:List (κ × V)} {k:κ} (h:bn kvs k=none):¬ k∈kvs.map (·.1):=by
  intro m;obtain ⟨p,hp,e⟩:=aal.mp m;have q:(kvs.any fun kv=>decide (kv.1=k))=true:=List.any_eq_true.mpr ⟨p,hp,decide_eq_true e⟩;rw [cM,h] at q;exact absurd q (by simp)
theorem mh:∀ {l:List κ} {k:κ},l.Nodup→¬ k∈l→(l++[k]).Nodup
  | [],k,_,_=>by simp
  | a :: r,k,h,hk=>by
    obtain ⟨h1,h2⟩:=aa2.mp h;show (a :: (r++[k])).Nodup;refine List.nodup_cons.mpr ⟨fun m=>?_,mh h2 fun m=>hk (List.mem_cons.mpr (Or.inr m))⟩;rcases aax.mp m with q|q
    · exact h1 q
    · exact hk (List.mem_cons.mpr (Or.inl (aaI.mp q).symm))
theorem qd {kvs:List (κ × V)} {k:κ} (v:V) (hn:(kvs.map (·.1)).Nodup) (h:bn kvs k=none):((bX kvs k v).map (·.1)).Nodup:=by
  rw [n_ v h,aaM];exact mh hn (nS h)
end
end L2
set_option maxHeartbeats 4000000
namespace L2
open PySem PySem.Spec PyProof.Rows
theorem Inv.adopt {X:Cx} {pins:List (Addr × Obj)} {σ:St} {H:Hp} {s:Shared} {a:Addr} {o:HO} (I:Inv X pins σ H s) (hn:H a=none) (hs:X.s₀.heap.objs.size≤a) (hL:a≠X.env.locals) (hC:∀ x c,X.env.cells.lookup x=some c→c≠a) (hp:∀ p∈X.pn++pins,p.1≠a)
    (new:ObjOk X.prog X.w (upd H a o) s.heap a o):Inv X pins σ (upd H a o) s:=by
  have ne:∀ b u,X.s₀.heap.get? b=some u→b≠a:=fun b u e=>aaz (aam (aan e) hs);refine ⟨I.ok,I.os,I.bare,⟨I.base.keep,I.base.slot,fun b u e n hx=>?_,I.base.there,fun b xs e=>?_,fun b u xs e=>?_,fun b ps e=>?_⟩,I.loc,I.cell,?_,fun x c e=>?_,fun p hq=>?_,fun b u e=>?_,I.len⟩
  · rw [ak (ne b u e)];exact I.base.free b u e n hx
  · have q:=I.base.tups b xs e;rw [ak (aj q hn)];exact q
  · have q:=I.base.frzs b u xs e;rw [ak (aj q hn)];exact q
  · obtain ⟨m,q⟩:=I.base.tbls b ps e;exact ⟨m,by rw [ak (aj q hn)];exact q⟩
  · rw [ak (abF hL)];exact I.free
  · rw [ak (hC x c e)];exact I.freeC x c e
  · obtain ⟨h1,h2,h3⟩:=I.pin p hq;exact ⟨h1,by rw [ak (hp p hq)];exact h2,h3⟩
  · by_cases hb:b=a
    · subst hb;rw [ad] at e;cases e;exact new
    · rw [ak hb] at e;exact (I.hok b u e).stay (fun c v _ q=>q) (fun c q=>by rw [ak (aj q hn)];exact q) fun c xs q=>by rw [ak (aj q hn)];exact q
def CellsIn (E:Env):List (Str × Addr)→Prop
  | []=>True
  | p :: r=>E.cells.lookup p.1=some p.2∧CellsIn E r
theorem CellsIn.get {E:Env}:∀ {cl:List (Str × Addr)} {x:Str} {c:Addr},CellsIn E cl→cl.lookup x=some c→E.cells.lookup x=some c:=by
  intro cl x c h e;have hm:=abj e;clear e
  induction cl with
  | nil=>exact nomatch hm
  | cons p r ih =>
    rcases aai.mp hm with q|q
    · have:=h.1;rw [← q] at this;exact this
    · exact ih h.2 q
def CapOk (XE:Env) (sc:Scope) (XN:List Str):List Str→List (Option Nat)→Prop
  | [],[]=>True
  | _ :: n,none :: c=>CapOk XE sc XN n c
  | x :: n,some i :: c=>(XN[i]?=some x∧(XE.kindOf x=some .cell∨XE.kindOf x=some .free)∧(sc.names.lookup x=some .cell∨sc.names.lookup x=some .free))∧CapOk XE sc XN n c
  | _,_=>False
def tq (σ:St) (o:Option Nat):Option V:=match o with
  | none=>none
  | some i=>(σ[i]?).join
def bJ (cap:List (Option Nat)) (σ:St):St:=cap.map (tq σ)
theorem CapOk.len {XE:Env} {sc:Scope} {XN:List Str}:∀ {n:List Str} {c:List (Option Nat)},CapOk XE sc XN n c→c.length=n.length
  | [],[],_=>rfl
  | _ :: _,none :: _,h=>congrArg (·+1) (CapOk.len (n:=_) (c:=_) h)
  | _ :: _,some _ :: _,h=>congrArg (·+1) (CapOk.len h.2)
  | [],_ :: _,h=>(show False from h).elim
  | _ :: _,[],h=>(show False from h).elim
theorem CapOk.get {XE:Env} {sc:Scope} {XN:List Str} {σ:St} {n:List Str} {c:List (Option Nat)} {j:Nat} {x:Str} {v:V} (h:CapOk XE sc XN n c) (h1:n[j]?=some x) (e:(bJ c σ)[j]?=some (some v)) :
    ∃ i:Nat,XN[i]?=some x∧σ[i]?=some (some v)∧(XE.kindOf x=some .cell∨XE.kindOf x=some .free)∧(sc.names.lookup x=some .cell∨sc.names.lookup x=some .free):=by
  induction n generalizing c j with
  | nil=>cases h1
  | cons y n ih =>
    cases c with
    | nil=>exact h.elim
    | cons o c =>
      cases j with
      | zero =>
        cases h1;cases o with
        | none=>cases e
        | some i =>
          refine ⟨i,h.1.1,?_,h.1.2⟩;have e:some ((σ[i]?).join)=some (some v):=e;cases q:σ[i]? with
          | none=>rw [q] at e;cases e
          | some w=>rw [q] at e;injection e with e;exact congrArg some e
      | succ j =>
        cases o with
        | none=>exact ih (c:=c) (j:=j) h h1 e
        | some i=>exact ih (c:=c) (j:=j) h.2 h1 e
def cO (X:Cx) (E:Env) (fn:Str→Bool) (NY:List Str) (fp:List Addr) (s:Shared) (H:Hp):Cx where
  prog:=X.prog
  w:=X.w
  K:=X.K
  mg:=X.mg
  base:=X.base
  A:=X.A
  N:=NY
  s₀:=s
  H₀:=H
  env:=E
  outer:=X.stack
  stack:=X.stack
  ex:=fp
  fn:=fn
  calm:=X.calm
  pn:=[]
  xe:=fun _ _=>False
abbrev aL (X:Cx) (scope:Scope) (cl:List (Str × Addr)) (NY:List Str) (fp:List Addr) (s:Shared) (H:Hp) (C:Addr):Cx:=cO X (compEnvC scope cl C X.env) (fun _=>false) NY fp s H
def e_ (X:Cx) (ifs:List Expr) (t:TT):Prop :=
  ∀ (pins:List (Addr × Obj)) (s:Shared) (σ:St) (H:Hp) (Q:Bool→Hp→Prop),Inv X pins σ H s→t σ H Q →
    wpAny (model X.prog X.w) X.A (forIn ifs true fun c r=>if r=true then do let ok ← isTrue c X.env (eval c X.env);pure (ForInStep.yield ok) else pure (ForInStep.yield r)) (TP X pins σ Q) X.xe s
theorem aY {X:Cx}:e_ X [] (fun _ H Q=>Q true H):=fun _ _ _ H _ I h=>wpAny_tests_nil ⟨H,I,h⟩
theorem eM {X:Cx} {c:Expr} {t:TT} (h:PT X c t):e_ X [c] t:=fun pins s σ H Q I q=>wpAny_tests_one (h pins s σ H Q I q)
theorem gU {elt tg2 iter2:Expr} {ifs2:List Expr} {G:List Comprehension} {k:Nat} (hk:G[k]?=some ⟨tg2,iter2,ifs2,0⟩) (hk2:G[k+1]?=none) {scope:Scope} {pos:Pos} {it acc:Value} {env:Env} :
    compTurn (.ListComp elt G scope pos) k it acc env=(do
      standAt iter2.pos
      match ← pyNext it with
      | none=>pure (.done .next)
      | some v =>
        letOwnedTupleGo tg2 it v
        assign tg2 env v
        let mut ok:=true
        for c in ifs2 do
          if ok then ok ← isTrue c env (eval c env)
        if ok then
          (do let _ ← call (.builtin "list.append") [acc,← eval elt env])
        again (.compLoop (.ListComp elt G scope pos) k it acc env)):=by
  unfold compTurn;simp only [hk,hk2];rfl
theorem li {prog:Program} {w:World} {A:Around} {R:Result→Shared→Prop} {s:Shared} {elt tg2 iter2:Expr} {ifs2:List Expr} {G:List Comprehension} {k:Nat} (hk:G[k]?=some ⟨tg2,iter2,ifs2,0⟩) (hk2:G[k+1]?=none) {scope:Scope} {pos:Pos} {it acc:Value} {env:Env} (J:Nat→Shared→Prop)
    (turn:∀ n s,J n s→wpAny (model prog w) A (pyNext it) (fun r s₁=>match r with
      | none=>R (.ok .next) s₁
      | some v=>wpAny (model prog w) A (letOwnedTupleGo tg2 it v) (fun _ s₁'=>wpAny (model prog w) A (assign tg2 env v) (fun _ s₂ =>
          wpAny (model prog w) A (forIn ifs2 true fun c r=>if r=true then do let ok ← isTrue c env (eval c env);pure (ForInStep.yield ok) else pure (ForInStep.yield r)) (fun ok s₃ =>
            if ok=true then wpAny (model prog w) A (eval elt env) (fun x s₄ =>
              wpAny (model prog w) A (call (.builtin "list.append") [acc,x]) (fun _ s₅=>∃ m,m < n∧J m s₅) (fun _ _=>False) s₄) (fun _ _=>False) s₃
            else ∃ m,m < n∧J m s₃) (fun _ _=>False) s₂) (fun _ _=>False) s₁') (fun _ _=>False) s₁) (fun _ _=>False) s)
    (n:Nat) (h:J n s) :
    codeAny (model prog w) A (.compLoop (.ListComp elt G scope pos) k it acc env) R s:=by
  refine codeAny_loop rfl J (fun n s hI=>?_) n h;show wpAny _ A ((compTurn (.ListComp elt G scope pos) k it acc env).onRaise (fun x=>do noteFrame x env;theTreesLotGoes x)) _ _ s;refine wpAny_noted ?_;rw [gU hk hk2];refine wpAny_bind (wpAny_standAt (wpAny_bind (wpAny_mono (turn n s hI) (fun r s₁ h₁=>?_) fun _ _ h'=>h'.elim)));cases r with
  | none=>exact wpAny_pure h₁
  | some v =>
    refine wpAny_bind (wpAny_mono h₁ (fun _ s₁' h₁'=>?_) fun _ _ h'=>h'.elim);refine wpAny_bind (wpAny_mono h₁' (fun _ s₂ h₂=>wpAny_bind (wpAny_mono h₂ (fun ok s₃ h₃=>?_) fun _ _ h'=>h'.elim)) fun _ _ h'=>h'.elim);cases ok with
    | false=>exact wpAny_pure ⟨rfl,h₃⟩
    | true =>
      exact wpAny_bind (wpAny_bind (wpAny_mono h₃ (fun x s₄ h₄=>wpAny_bind (wpAny_mono h₄ (fun _ s₅ h₅=>wpAny_pure (wpAny_pure ⟨rfl,h₅⟩)) fun _ _ h'=>h'.elim)) fun _ _ h'=>h'.elim))
abbrev Lp (D:Addr) (its:List Value) (k:Nat):Addr × Obj:=(D,{ cls:=.type "list",data:=.seq its.toArray k })
section
variable {X:Cx} {pins:List (Addr × Obj)} {σ:St} {H2:Hp} {s2:Shared}
theorem Inv.cellLt (I2:Inv X pins σ H2 s2):∀ x c,X.env.cells.lookup x=some c→c < s2.heap.objs.size:=fun x c e=>by
  obtain ⟨v,q⟩:=I2.cell x c e;exact q.lt
theorem Inv.notStk (I2:Inv X pins σ H2 s2) {b:Addr} (hb:s2.heap.objs.size≤b):b∉frs X.stack:=fun hz=>by
  rcases aai.mp (I2.stkSub b hz) with z|z
  · have:=I2.lt;rw [← z] at this;exact absurd (aam this hb) (abA _)
  · exact I2.nofs hb z
theorem Inv.offC (I2:Inv X pins σ H2 s2) {C:Addr} (hC:s2.heap.objs.size≤C) {σ':St} {H:Hp} {s:Shared} {h':Heap} (I:Inv X pins σ' H s) (hn:H C=none) (he:∀ b o,b≠C→s.heap.get? b=some o→h'.get? b=some o):Inv X pins σ' H { s with heap:=h' } :=
  I.turned (t':=s.toks) (it:=C) he hn (abB (aam I2.lt hC)) (.inr (aaG I2.sz hC)) (fun x c e z=>absurd (I2.cellLt x c e) (by rw [z];exact acF.mpr hC)) (fun p hp z=>absurd (aan (I2.pin p hp).1) (by rw [z];exact acF.mpr hC))
theorem Inv.takeD (I2:Inv X pins σ H2 s2) {D:Addr} (hD:s2.heap.objs.size≤D) {σ':St} {H:Hp} {s:Shared} {o:HO} (I:Inv X pins σ' H s) (hn:H D=none) (ok:ObjOk X.prog X.w (upd H D o) s.heap D o):Inv X pins σ' (upd H D o) s :=
  I.adopt hn (aaG I2.sz hD) (abB (aam I2.lt hD)) (fun x c e=>aaz (aam (I2.cellLt x c e) hD)) (fun p hp=>aaz (aam (aan (I2.pin p hp).1) hD)) ok
variable {E:Env} {fn:Str→Bool} {NY:List Str} {fp:List Addr}
theorem Inv.outB (I2:Inv X pins σ H2 s2) (f2:∀ b∈fp,df X pins H2 b) {P:List (Addr × Obj)} {σ':St} {H3:Hp} {s4:Shared} (I4:Inv (cO X E fn NY fp s2 H2) P σ' H3 s4):Inv X pins σ H3 s4 :=
  I2.call' (ch:=fp) I4.os (show Un (frs X.stack) fp H2 H3 s2.heap s4.heap from I4.base) I4.hok I4.bare fun b hb=>⟨(f2 b hb).2.2.2.1,(f2 b hb).2.1,(f2 b hb).2.2.2.2.1,(f2 b hb).2.2.2.2.2⟩
structure BlkC (X:Cx) (s2:Shared) (h₁:Heap) (E:Env) (fn:Str→Bool):Prop where
  kind:E.scope.kind=.function
  glob:E.globals=X.env.globals
  blt:E.builtins=X.env.builtins
  loc:s2.heap.objs.size≤E.locals
  old:∀ b o,s2.heap.get? b=some o→h₁.get? b=some o
  ns:∃ m,h₁.Ns E.locals m
  cell:∀ x c,E.cells.lookup x=some c→(fn x=false∧X.env.cells.lookup x=some c)∨(fn x=true∧s2.heap.objs.size≤c∧c≠E.locals∧h₁.get? c=some { cls:=.type "cell",data:=.cell none }∧∀ y,E.cells.lookup y=some c→y=x)
  has:∀ x,E.kindOf x=some .cell∨E.kindOf x=some .free→∃ c,E.cells.lookup x=some c
theorem CapOk.noFn {fn:Str→Bool} {n:List Str} {c:List (Option Nat)} {j:Nat} {x:Str} {v:V} {σ:St} (h:((n.zip c).all fun p=>!fn p.1 || p.2 == none)=true) (h1:n[j]?=some x) (e:(bJ c σ)[j]?=some (some v)):fn x=false:=by
  rw [bJ,aap] at e;cases q:c[j]? with
  | none=>rw [q] at e;cases e
  | some o =>
    rw [q] at e;cases o with
    | none=>simp [tq] at e
    | some i =>
      have m:(x,some i)∈n.zip c:=aay (i:=j) (by rw [List.getElem?_zip_eq_some];exact ⟨h1,q⟩);have:=aaR.mp h _ m;simpa using this
variable {h₁:Heap}
theorem Inv.fps (I2:Inv X pins σ H2 s2) (f2:∀ b∈fp,df X pins H2 b) (fpl:∀ b∈fp,b < s2.heap.objs.size) (B:BlkC X s2 h₁ E fn) {P:List (Addr × Obj)} (hP:∀ p∈P,s2.heap.objs.size≤p.1) {H':Hp} (hn:∀ b∈fp,H' b=none):∀ b∈fp,df (cO X E fn NY fp s2 H2) P H' b:=fun b hb=>by
  refine ⟨hn b hb,aaz (aam (fpl b hb) B.loc),fun hz=>?_,.inl hb,fun x c e=>?_,fun p hp=>?_⟩
  · rcases aai.mp (I2.stkSub b hz) with z|z
    · exact (f2 b hb).2.1 z
    · exact (f2 b hb).2.2.1 z
  · rcases B.cell x c e with z|z
    · exact (f2 b hb).2.2.2.2.1 x c z.2
    · exact abB (aam (fpl b hb) z.2.1)
  · exact abB (aam (fpl b hb) (hP p hp))
theorem Inv.blkLoc (I2:Inv X pins σ H2 s2) (B:BlkC X s2 h₁ E fn) {cap:List (Option Nat)} (hcap:CapOk X.env E.scope X.N NY cap) (hx:((NY.zip cap).all fun p=>!fn p.1 || p.2 == none)=true) {h:Heap} (hk:∀ x c o,X.env.cells.lookup x=some c→s2.heap.get? c=some o→∃ o',h.get? c=some o'∧o'.data=o.data) {m:Str→Option Value} :
    ∀ (i:Nat) (x:Str) (v:V),NY[i]?=some x→(bJ cap σ)[i]?=some (some v)→∃ u,RelV v u∧tw E h m x u:=fun j x v e1 e2=>by
  obtain ⟨i,h1,h2,h3,h4⟩:=CapOk.get (σ:=σ) hcap e1 e2;have nf:=CapOk.noFn hx e1 e2;obtain ⟨m',hn,hl⟩:=I2.loc;have vis:Vis X.env.scope x:=by rcases h3 with z|z;exact .inr (.inl z);exact .inr (.inr z)
  obtain ⟨u,r,l⟩:=hl i x v h1 h2 vis;refine ⟨u,r,.inr ⟨h4,?_⟩⟩;rcases l with ⟨k,_⟩|⟨_,c,e,z⟩
  · rcases h3 with z|z <;> (rw [k] at z;cases z)
  · obtain ⟨c',e'⟩:=B.has x h4;rcases B.cell x c' e' with q|q
    · have e'':=q.2;rw [e] at e'';cases e'';obtain ⟨o,ho,hd⟩:=z;obtain ⟨o',h',d'⟩:=hk x c o e ho;exact ⟨c,e',o',h',d'.trans hd⟩
    · rw [nf] at q;exact absurd q.1 aae
theorem Inv.blk (I2:Inv X pins σ H2 s2) (f2:∀ b∈fp,df X pins H2 b) (fpl:∀ b∈fp,b < s2.heap.objs.size) (B:BlkC X s2 h₁ E fn) {cap:List (Option Nat)} (hcap:CapOk X.env E.scope X.N NY cap) (hx:((NY.zip cap).all fun p=>!fn p.1 || p.2 == none)=true)
    {P:List (Addr × Obj)} (hP:∀ p∈P,h₁.get? p.1=some p.2∧s2.heap.objs.size≤p.1∧p.1≠E.locals∧∀ v,p.2.data≠.cell v) {t':Nat}:Inv (cO X E fn NY fp s2 H2) P (bJ cap σ) H2 { s2 with heap:=h₁,toks:=t' }:=by
  refine ⟨⟨I2.ok.mod,B.kind,B.glob.trans I2.ok.glob,B.blt.trans I2.ok.blt,B.loc,fun x y c e1 e2=>?_,B.has,fun x c hf e=>?_,I2.ok.hd,I2.ok.frames,.inl rfl,fun b hb=>⟨aaz (aam (fpl b hb) B.loc),fun x c e z=>?_⟩,I2.bs,aaG I2.ok.bsz I2.sz,fun b o e hb=>?_,fun b hb hz=>?_,I2.stack,I2.stkFree⟩,
    rfl,I2.bare,Un.kept B.old,⟨B.ns.choose,B.ns.choose_spec,fun j x v e1 e2 _=>I2.blkLoc B hcap hx (fun x c o _ ho=>⟨o,B.old _ _ ho,rfl⟩) j x v e1 e2⟩,fun x c e=>?_,I2.hok.fresh B.loc,fun x c e=>?_,fun p hp=>?_,I2.hok.kept B.old,?_⟩
  · rcases B.cell x c e1 with z|z
    · rcases B.cell y c e2 with q|q
      · exact I2.ok.inj x y c z.2 q.2
      · exact absurd (I2.cellLt x c z.2) (acF.mpr q.2.1)
    · exact (z.2.2.2.2 y e2).symm
  · rcases B.cell x c e with z|z
    · have hf:fn x=true:=hf;rw [z.1] at hf;cases hf
    · exact z.2.1
  · rcases B.cell x c e with q|q
    · exact (f2 b hb).2.2.2.2.1 x c q.2 z
    · exact absurd (fpl b hb) (by rw [← z];exact acF.mpr q.2.1)
  · rcases (f2 b hb).2.2.2.1 with z|z
    · exact I2.ok.noex b o e z
    · exact absurd (aam (aan (I2.ok.bs b o e).1) z) (abA _)
  · rcases aai.mp (I2.stkSub b hz) with z|z
    · exact (f2 b hb).2.1 z
    · exact (f2 b hb).2.2.1 z
  · rcases B.cell x c e with q|q
    · obtain ⟨v,o,ho,hd⟩:=I2.cell x c q.2;exact ⟨v,o,B.old _ _ ho,hd⟩
    · exact ⟨none,_,q.2.2.2.1,rfl⟩
  · rcases B.cell x c e with q|q
    · exact I2.freeC x c q.2
    · exact I2.hok.fresh q.2.1
  · obtain ⟨h1,h2,h3,h4⟩:=hP p hp;exact ⟨h1,I2.hok.fresh h2,h3,I2.notStk h2,h4⟩
  · show (bJ cap σ).length=NY.length;unfold bJ;rw [aab];exact hcap.len
theorem Inv.recap (I2:Inv X pins σ H2 s2) (f2:∀ b∈fp,df X pins H2 b) (B:BlkC X s2 h₁ E fn) {cap:List (Option Nat)} (hcap:CapOk X.env E.scope X.N NY cap) (hx:((NY.zip cap).all fun p=>!fn p.1 || p.2 == none)=true) {pn:List (Addr × Obj)} {σ':St} {H':Hp} {s':Shared} (Z:Inv (cO X E fn NY fp s2 H2) pn σ' H' s'):Inv (cO X E fn NY fp s2 H2) pn (bJ cap σ) H' s':=by
  refine ⟨Z.ok,Z.os,Z.bare,Z.base,?_,Z.cell,Z.free,Z.freeC,Z.pin,Z.hok,?_⟩
  · obtain ⟨m,hn,_⟩:=Z.loc;refine ⟨m,hn,fun j x v e1 e2 _=>I2.blkLoc B hcap hx (fun x c o e ho=>?_) j x v e1 e2⟩;have nfp:c∉fp:=fun hz=>(f2 c hz).2.2.2.2.1 x c e rfl;obtain ⟨sl,q⟩:=Z.base.any (show s2.heap.get? c=some o from ho) (I2.freeC x c e) nfp;exact ⟨_,q,rfl⟩
  · show (bJ cap σ).length=NY.length;unfold bJ;rw [aab];exact hcap.len
theorem Inv.blkC (I2:Inv X pins σ H2 s2) {scope:Scope} {cl:List (Str × Addr)} (hci:CellsIn X.env cl) (hkind:scope.kind=.function) (hhas:((relabel scope X.env).names.all fun p=>(p.2 != .cell && p.2 != .free) || (cl.lookup p.1).isSome)=true) {C:Addr} (hC:s2.heap.objs.size≤C)
    (old:∀ b o,s2.heap.get? b=some o→h₁.get? b=some o) (hns:∃ m,h₁.Ns C m):BlkC X s2 h₁ (compEnvC scope cl C X.env) (fun _=>false):=by
  refine ⟨hkind,rfl,rfl,hC,old,hns,fun x c e=>.inl ⟨rfl,hci.get e⟩,fun x hx=>?_⟩;have hx':(relabel scope X.env).names.lookup x=some .cell∨(relabel scope X.env).names.lookup x=some .free:=hx;have key:∀ k,(relabel scope X.env).names.lookup x=some k→(k=.cell∨k=.free)→∃ c,cl.lookup x=some c:=fun k e hk=>by
    have q:=aaR.mp hhas (x,k) (abj e);have q':(cl.lookup x).isSome=true:=by
      rcases hk with rfl|rfl <;> simpa using q
    exact ab8.mp q'
  rcases hx' with e|e
  · exact key _ e (.inl rfl)
  · exact key _ e (.inr rfl)
theorem ee {NY:List Str} {cap:List (Option Nat)}:((NY.zip cap).all fun p=>!(fun _:Str=>false) p.1 || p.2 == none)=true:=List.all_eq_true.mpr fun _ _=>rfl
theorem pE {scope:Scope} (h:(scope.names.all fun y=>y.2 != .cell)=true):∀ y∈scope.names,y.2≠.cell:=fun y hy=>by
  have q:=aaR.mp h y hy;simpa using q
theorem mL {scope:Scope} (h:(scope.names.all fun y=>y.2 != .local || scope.names.lookup y.1 == some .local)=true):∀ y∈scope.names,y.2=.local→scope.names.lookup y.1=some .local:=fun y hy e=>by
  have q:=aaR.mp h y hy;rw [e] at q;simpa using q
theorem Inv.lstDone (I2:Inv X pins σ H2 s2) (f2:∀ b∈fp,df X pins H2 b) {D C:Addr} (hD:s2.heap.objs.size≤D) (hC:s2.heap.objs.size≤C) (eC:E.locals=C) {P:List (Addr × Obj)} {σ':St} {H3:Hp} {s4:Shared} {ys:List V} {its:List Value} {k:Nat} (I4:Inv (cO X E fn NY fp s2 H2) (Lp D its k :: P) σ' H3 s4) (rv:Vals ys its) (hz:ys.length≤sizeLine) :
    Inv X pins σ (upd H3 D (.lst ys)) s4∧H3 D=none∧upd H3 D (.lst ys) C=none∧∃ m,s4.heap.Ns C m:=by
  subst eC;have pD:=I4.pin (Lp D its k) (aat _ aaq);obtain ⟨m,hnC,_⟩:=id I4.loc;refine ⟨I2.takeD hD (I2.outB f2 I4) pD.2.1 ⟨hz,its,k,rv,pD.1⟩,pD.2.1,?_,m,hnC⟩;have z:D≠E.locals:=pD.2.2.1;rw [ak (abF z)];exact I4.free
theorem Inv.lstEnd (I2:Inv X pins σ H2 s2) (f2:∀ b∈fp,df X pins H2 b) {D C:Addr} (hD:s2.heap.objs.size≤D) (hC:s2.heap.objs.size≤C) (eC:E.locals=C) {P:List (Addr × Obj)} {σ':St} {H3:Hp} {s4:Shared} {ys:List V} {its:List Value} {k:Nat} (I4:Inv (cO X E fn NY fp s2 H2) (Lp D its k :: P) σ' H3 s4) (rv:Vals ys its) (hz:ys.length≤sizeLine)
    {Q:VK} (qn:∀ p,H3 p=none→Q (.ref p) (upd H3 p (.lst ys))):compPost (model X.prog X.w) X.A X.xe none (EP X pins σ Q) (.ref D) C (.ok .next) s4:=by
  obtain ⟨I5,hD3,hC3,m,hn⟩:=I2.lstDone f2 hD hC eC I4 rv hz;exact ⟨m,hn,fun h' hsb=>⟨.ref D,_,I2.offC hC I5 hC3 fun b o hb e=>hsb.extBut b o hb e,rfl,qn D hD3⟩⟩
end
theorem mv {Y:Cx} {τ:Type} {val:τ→St} {nx:St→τ} (hc:Y.calm=true) (hxe:Y.xe=fun _ _=>False) (hrs:∀ {pn:List (Addr × Obj)} {σ':St} {H':Hp} {s':Shared},Inv Y pn σ' H' s'→Inv Y pn (val (nx σ')) H' s')
    {D:Addr} (hDx:D∈Y.ex∨Y.s₀.heap.objs.size≤D) (hDc:∀ x c,Y.env.cells.lookup x=some c→c≠D) (hDp:∀ p∈Y.pn,p.1≠D)
    {elt tg iter:Expr} {ifs:List Expr} {te:TE} {g:TG} {tt:TT} {G:List Comprehension} {scope:Scope} {pos:Pos} {k:Nat} (hbe:PE Y elt te) (hk:G[k]?=some ⟨tg,iter,ifs,0⟩) (hk2:G[k+1]?=none) (htg:PG Y tg g) (hfs:e_ Y ifs tt)
    {P:List (Addr × Obj)} (hP:∀ p∈P,p.1≠D) {it:Addr} {fp:List Addr} {tn:Nat→Heap→Prop} {J:It} (T:Turn Y.prog Y.w Y.K tg J fp it tn) (neD:∀ b∈fp,D≠b) (fpY:∀ {H':Hp} {n:Nat} {its:List Value},(∀ b∈fp,H' b=none)→∀ b∈fp,df Y (Lp D its n :: P) H' b)
    {R:Result→Shared→Prop} {Fin:List V→τ→Hp→Prop} (hR:∀ ys its k t H s,Inv Y (Lp D its k :: P) (val t) H s→Vals ys its→ys.length≤sizeLine→Fin ys t H→R (.ok .next) s)
    {W:Nat→Nat→List V→τ→Hp→Prop} (turn:∀ i m ys t H,W i m ys t H→(J.stop i H∧Fin ys t H) ∨
      (J.go i H∧ys.length < sizeLine∧∀ x H',J.yld i H x H'→g x (val t) H' fun σ3 H5=>tt σ3 H5 fun b H6=>if b=true then te σ3 H6 fun v H7=>∃ m',m' < m∧W (i+1) m' (ys++[v]) (nx σ3) H7 else ∃ m',m' < m∧W (i+1) m' ys (nx σ3) H6))
    {m0 kk:Nat} {ys:List V} {its:List Value} {t:τ} {H:Hp} {s:Shared} (I:Inv Y (Lp D its kk :: P) (val t) H s) (rv:Vals ys its) (hz:ys.length≤sizeLine) (st:tn 0 s.heap) (fr:∀ b∈fp,H b=none) (w0:W 0 m0 ys t H) :
    codeAny (model Y.prog Y.w) Y.A (.compLoop (.ListComp elt G scope pos) k (.ref it) (.ref D) Y.env) R s:=by
  have xe:∀ e s,Y.xe e s→False:=fun e s z=>by rw [hxe] at z;exact z
  refine li hk hk2 (fun n s'=>∃ i ys its k t H',Inv Y (Lp D its k :: P) (val t) H' s'∧Vals ys its∧ys.length≤sizeLine∧tn i s'.heap∧(∀ b∈fp,H' b=none)∧W i n ys t H') ?_ m0 ⟨0,ys,its,kk,t,H,I,rv,hz,st,fr,w0⟩;rintro n s3 ⟨i,ys3,its3,k3,t3,H3,I3,rv3,hz3,st3,fr3,w3⟩;rcases turn i n ys3 t3 H3 w3 with ⟨stop,qn⟩|⟨go,hlt,step⟩
  · refine wpAny_mono (T.done Y rfl rfl rfl hc i _ s3 _ H3 (fun _ _=>False) I3 (fpY fr3) st3 stop) (fun r s4 ⟨hr,I4⟩=>?_) fun _ _ z=>z;subst hr;exact hR ys3 its3 k3 t3 H3 s4 I4 rv3 hz3 qn
  · refine wpAny_mono (T.item Y rfl rfl rfl hc i _ s3 _ H3 (fun _ _=>False) I3 (fpY fr3) st3 go) (fun r s4 ⟨u,hr,h4⟩=>?_) fun _ _ z=>z;subst hr;refine wpAny_mono h4 (fun _ s5 ⟨x,H5,I5,r5,y5,st5,fr5⟩=>?_) fun _ _ z=>z;have I5':=I5.pinned (fpY fr5) (T.obj _ _ st5);refine wpAny_mono (htg _ s5 _ H5 x u _ I5' r5 (step x H5 y5)) (fun _ s6 ⟨σ6,H6,I6,q6⟩=>?_) fun e s z=>(xe e s z).elim;refine wpAny_mono (hfs _ s6 σ6 H6 _ I6 q6) (fun ok s7 ⟨H7,I7,q7⟩=>?_) fun e s z=>(xe e s z).elim;have again:∀ {ys':List V} {its':List Value} {k':Nat} {σ':St} {H':Hp} {s':Shared},Inv Y (Lp D its' k' :: (P++bY fp s5.heap)) σ' H' s'→Vals ys' its'→ys'.length≤sizeLine→(∃ m',m' < n∧W (i+1) m' ys' (nx σ') H') →
        ∃ m,m < n∧∃ i ys its k t H',Inv Y (Lp D its k :: P) (val t) H' s'∧Vals ys its∧ys.length≤sizeLine∧tn i s'.heap∧(∀ b∈fp,H' b=none)∧W i m ys t H':=fun {ys' its' k' σ' H' s'} Z rv' hz' hw=>by
      obtain ⟨m',hm,w'⟩:=hw;have pn:∀ {b:Addr} {o:Obj},b∈fp→s5.heap.get? b=some o→_:=fun {b o} hb e=>Z.pin (b,o) (aat _ (aak _ (aat _ (dc hb e))));refine ⟨m',hm,i+1,ys',its',k',nx σ',H',hrs (Inv.unpinned (pl:=bY fp s5.heap) Z),rv',hz',T.keep _ _ _ st5 fun b hb o e=>(pn hb e).1,fun b hb=>?_,w'⟩;obtain ⟨o,e,d⟩:=T.obj _ _ st5 b hb;exact (pn hb e).2.1
    cases ok with
    | false =>
      rw [if_neg aae] at q7 ⊢;exact again I7 rv3 hz3 q7
    | true =>
      rw [if_pos rfl] at q7 ⊢;refine wpAny_mono (hbe _ s7 σ6 H7 _ I7 q7) (fun xv s15 ⟨v,H15,I15,r15,q15⟩=>?_) fun e s z=>(xe e s z).elim;have pD:=I15.pin (Lp D its3 k3) (aat _ aaq);have hlen:=rv3.length;refine append_at pD.1 (fun h16 hs16 hD16=>?_) (by rw [aaj];lia);have I16:Inv Y (P++bY fp s5.heap) σ6 H15 s15:=I15.pins_of fun p hp=>I15.pin p (aat _ (aak _ hp));have I17:Inv Y (P++bY fp s5.heap) σ6 H15 { s15 with heap:=h16 }:=I16.turned (t':=s15.toks) (it:=D) (fun b o hb e=>hs16.extBut b o hb e) pD.2.1 pD.2.2.1 hDx hDc fun p hp=>by
        rcases aax.mp hp with z|z
        · exact hDp p z
        · rcases aax.mp z with z|z
          · exact hP p z
          · exact abF (neD _ (ft z).1)
      have I18:Inv Y (Lp D (its3++[xv]) (k3+1) :: (P++bY fp s5.heap)) σ6 H15 { s15 with heap:=h16 }:=I17.pins_of fun p hp=>by
        rcases aai.mp hp with z|z
        · rw [z];refine ⟨?_,pD.2.1,pD.2.2.1,pD.2.2.2.1,fun v z=>by cases z⟩;rw [List.push_toArray] at hD16;exact hD16
        · exact I17.pin p (aat _ z)
      exact again I18 (rv3.append (.cons r15 .nil)) (by rw [aav,List.length_singleton];exact hlt) q15
theorem Turn.lt {P:Program} {w:World} {K:aaa} {tg:Expr} {J:It} {fp:List Addr} {it:Addr} {tn:Nat→Heap→Prop} (T:Turn P w K tg J fp it tn) {h:Heap} {i:Nat} (st:tn i h):∀ b∈fp,b < h.objs.size:=fun b hb=>by
  obtain ⟨o,e,_⟩:=T.obj _ _ st b hb;exact aan e
theorem BlkC.neD {X:Cx} {s2:Shared} {h₁:Heap} {E:Env} {fn:Str→Bool} (B:BlkC X s2 h₁ E fn) (hc:∀ x c,X.env.cells.lookup x=some c→c < s2.heap.objs.size) {D:Addr} (hD:s2.heap.objs.size≤D) {o:Obj} (h:h₁.get? D=some o) (ho:∀ v,o.data≠.cell v):∀ x c,E.cells.lookup x=some c→c≠D:=fun x c e z=>by
  rcases B.cell x c e with q|q
  · exact absurd (hc x c q.2) (by rw [z];exact acF.mpr hD)
  · have:=q.2.2.2.1;rw [z,h] at this;cases this;exact ho _ rfl
theorem Inv.newC {X:Cx} {pins:List (Addr × Obj)} {σ:St} {H2:Hp} {s2:Shared} {h₁:Heap} (I2:Inv X pins σ H2 s2) {scope:Scope} {cl:List (Str × Addr)} (hci:CellsIn X.env cl) (hkind:scope.kind=.function) (hhas:((relabel scope X.env).names.all fun p=>(p.2 != .cell && p.2 != .free) || (cl.lookup p.1).isSome)=true) {o:Obj}
    {m:Str→Option Value} (hns:h₁.Ns (s2.heap.push o).objs.size m) (ext:∀ b u,b≠(s2.heap.push o).objs.size→(s2.heap.push o).get? b=some u→h₁.get? b=some u) (hof:o.isFreed=false:=by rfl) :
    s2.heap.objs.size < (s2.heap.push o).objs.size∧BlkC X s2 h₁ (compEnvC scope cl (s2.heap.push o).objs.size X.env) (fun _=>false)∧h₁.get? s2.heap.objs.size=some o:=by
  have hC:s2.heap.objs.size < (s2.heap.push o).objs.size:=by rw [Heap.size_push];exact ab5 _
  exact ⟨hC,I2.blkC hci hkind hhas (abz hC) (fun b u e=>ext b u (aaz (acs (aan e) hC)) (aaf _ e)) ⟨m,hns⟩,ext _ _ (aaz hC) (aao _ hof)⟩
theorem Inv.goLast {X:Cx} {pins:List (Addr × Obj)} {σ:St} {H2:Hp} {s2:Shared} {h₁:Heap} {E:Env} {fn:Str→Bool} {NY:List Str} {fp:List Addr} (I2:Inv X pins σ H2 s2) (f2:∀ b∈fp,df X pins H2 b) (fpl:∀ b∈fp,b < s2.heap.objs.size) (B:BlkC X s2 h₁ E fn) {cap:List (Option Nat)} (hcap:CapOk X.env E.scope X.N NY cap)
    (hx:((NY.zip cap).all fun p=>!fn p.1 || p.2 == none)=true) (hc:X.calm=true) {C:Addr} (hC:s2.heap.objs.size < C) (eC:E.locals=C) (hD:h₁.get? s2.heap.objs.size=some { cls:=.type "list",dict:=none,data:=.seq ([]:List Value).toArray })
    {tg elt iter:Expr} {ifs:List Expr} {g:TG} {tt:TT} {te:TE} {J:It} {it:Addr} {tn:Nat→Heap→Prop} (T:Turn X.prog X.w X.K tg J fp it tn) (st:tn 0 h₁) (hbe:PE (cO X E fn NY fp s2 H2) elt te) (hbg:PG (cO X E fn NY fp s2 H2) tg g) (hbt:e_ (cO X E fn NY fp s2 H2) ifs tt)
    {G:List Comprehension} (hk:G[0]?=some ⟨tg,iter,ifs,0⟩) (hk2:G[1]?=none) {scope:Scope} {pos:Pos} {t':Nat} {W:Nat→Nat→List V→Hp→Prop} {Fin:List V→Hp→Prop}
    (turn:∀ i m ys H,W i m ys H→(J.stop i H∧Fin ys H)∨(J.go i H∧ys.length < sizeLine∧∀ x H',J.yld i H x H'→g x (bJ cap σ) H' fun σ2 H2=>tt σ2 H2 fun b H3=>if b=true then te σ2 H3 fun v H4=>∃ m',m' < m∧W (i+1) m' (ys++[v]) H4 else ∃ m',m' < m∧W (i+1) m' ys H3))
    {m0:Nat} (w0:W 0 m0 [] H2) {R:Result→Shared→Prop} (hR:∀ ys its k H s,Inv (cO X E fn NY fp s2 H2) [Lp s2.heap.objs.size its k] (bJ cap σ) H s→Vals ys its→ys.length≤sizeLine→Fin ys H→R (.ok .next) s) :
    codeAny (model X.prog X.w) X.A (.compLoop (.ListComp elt G scope pos) 0 (.ref it) (.ref s2.heap.objs.size) E) R { s2 with heap:=h₁,toks:=t' }:=by
  subst eC;exact mv (τ:=Unit) (val:=fun _=>bJ cap σ) (nx:=fun _=>()) (Y:=cO X E fn NY fp s2 H2) hc rfl (fun Z=>I2.recap f2 B hcap hx Z) (.inr (aah _)) (B.neD I2.cellLt (aah _) hD fun v z=>by cases z) (fun p hp=>by cases hp) hbe hk hk2 hbg hbt (P:=[]) (fun p hp=>by cases hp) T
    (fun b hb=>abB (fpl b hb)) (fun hn=>I2.fps f2 fpl B (fun p hp=>by rw [aaI.mp hp];exact aah _) hn) (Fin:=fun ys _ H=>Fin ys H) (fun ys its k _ H s=>hR ys its k H s)
    (W:=fun i m ys _ H=>W i m ys H) (fun i m ys _ H=>turn i m ys H) (t:=()) (I2.blk f2 fpl B hcap hx (fun p hp=>by rw [aaI.mp hp];exact ⟨hD,aah _,aaz hC,fun v z=>by cases z⟩)) .nil (aaQ _) st (fun b hb=>(f2 b hb).1) w0
abbrev tE (cap:List (Option Nat)) (g:TG) (tt:TT) (te:TE) (σ:St) (Q:VK) (J:It) (H1:Hp):Prop:=∃ W:Nat→Nat→List V→Hp→Prop,(∃ m,W 0 m [] H1)∧∀ i m ys H,W i m ys H →
  (J.stop i H∧∀ p,H p=none→Q (.ref p) (upd H p (.lst ys))) ∨
  (J.go i H∧ys.length < sizeLine∧∀ x H',J.yld i H x H'→g x (bJ cap σ) H' fun σ2 H2=>tt σ2 H2 fun b H3=>if b=true then te σ2 H3 fun v H4=>∃ m',m' < m∧W (i+1) m' (ys++[v]) H4 else ∃ m',m' < m∧W (i+1) m' ys H3)
def tLc (cap:List (Option Nat)) (wi:TI) (g:TG) (tt:TT) (te:TE):TE:=fun σ H Q=>wi σ H (tE cap g tt te σ Q)
section
variable {X:Cx}
theorem cF {elt tg iter:Expr} {ifs:List Expr} {scope:Scope} {pos:Pos} {cl:List (Str × Addr)} {NY:List Str} {cap:List (Option Nat)} {wi:TI} {g:TG} {tt:TT} {te:TE} (hc:X.calm=true) (hi:PI X tg iter wi)
    (hclos:closureFor scope X.env=pure cl) (hci:CellsIn X.env cl) (hcap:CapOk X.env (relabel scope X.env) X.N NY cap)
    (hb:∀ fp s H C,PG (aL X scope cl NY fp s H C) tg g∧e_ (aL X scope cl NY fp s H C) ifs tt∧PE (aL X scope cl NY fp s H C) elt te)
    (hkind:scope.kind=.function:=by rfl) (hnc:(scope.names.all fun y=>y.2 != .cell)=true:=by rfl)
    (hnames:(scope.names.all fun y=>y.2 != .local || scope.names.lookup y.1 == some .local)=true:=by rfl)
    (hhas:((relabel scope X.env).names.all fun p=>(p.2 != .cell && p.2 != .free) || (cl.lookup p.1).isSome)=true:=by rfl)
    (hs:∀ x,foldedSetIterable iter X.env x=pure x:=by intro _;rfl) :
    PE X (.ListComp elt [⟨tg,iter,ifs,0⟩] scope pos) (tLc cap wi g tt te):=by
  intro pins s σ H Q I h;rw [eval_ListComp];refine wpAny_comprehension_free (use:=none) rfl hs hclos hkind (mL hnames) (wpAny_mono (hi pins s σ H _ I h) (fun v s1 h1=>wpAny_mono h1 (fun itv s2 h2=>?_) fun _ _ e=>e) fun _ _ e=>e);obtain ⟨it,fp,tn,J,H2,e,I2,T,st2,f2,W,⟨m0,w0⟩,turn⟩:=h2;subst e;refine wpAny_newObj_type (wpAny_newFunctionEnv (pE hnc) (by intro y hy;simp at hy) (fun h₁ hns₁ hsb₁=>?_) hkind);dsimp only at hns₁ hsb₁ ⊢;obtain ⟨hC,B,hD⟩:=I2.newC hci hkind hhas hns₁ fun b o hb e=>hsb₁.extBut b o hb (aaf _ e);generalize (s2.heap.push { cls:=.type "list",dict:=none,data:=.seq ([]:List Value).toArray }).objs.size=C at hC B ⊢;obtain ⟨hbg,hbt,hbe⟩:=hb fp s2 H2 C;have stW:=T.keep _ _ h₁ st2 fun b _ o e=>B.old b o e;have loop:=I2.goLast f2 (T.lt st2) B hcap ee hc hC rfl hD T stW hbe hbg hbt (G:=[⟨tg,iter,ifs,0⟩]) rfl rfl (scope:=scope) (pos:=pos) (iter:=iter) (t':=s2.toks+([]:List (Str × Value)).length) turn w0 (R:=compPost (model X.prog X.w) X.A X.xe none (EP X pins σ Q) (.ref s2.heap.objs.size) C) fun ys its k H s I4 rv hz fin=>I2.lstEnd f2 (aah _) (abz hC) rfl I4 rv hz fin;exact codeAny_compStart_list loop (T.self _ 0 _ _ _ stW loop)
end
open PySem PySem.Spec PyProof.Rows
section
variable {X:Cx}
theorem aA {n:String}:bz X (.builtin "isinstance") (fun xs H Q=>∃ x t b,xs=[x,.ty n]∧TyOf X.K H x t∧abM X.K t (.type n)=some b∧Q (.bl b) H):=by
  intro pins s σ H xs us Q I r h;obtain ⟨x,t,b,rfl,ty,e,q⟩:=h;obtain ⟨u,w',rfl,rx,rt⟩:=ja r;cases rt;exact hW I rx ty e fun tk=>⟨.bl b,H,I.tok _,rfl,q⟩
theorem gm:OpR X (binaryOp .FloorDiv) (rI (fun _ j=>0 < j∧j < 2 ^ 64) fun i j=>.int (i / j)):=opI fun i j _ _ _ _ _ hc q=>by
  have h1:(0:Int) < j:=hc.1;have h2:j < 2 ^ 64:=hc.2;refine floordiv_int (by lia) (by rw [Int.fdiv_eq_ediv_of_nonneg i (by lia)];exact q) (.inl (PyProof.noPylong_of_log2 ?_));have h3:j.natAbs < 2 ^ 64:=by lia
  have h4:j.natAbs≠0:=by lia
  have h5:j.natAbs.log2 < 64:=(Nat.log2_lt h4).mpr h3;lia
def Cal (P:Program) (w:World) (K:aaa) (mg:Str→Option Value) (base:Heap) (x:Str) (k:Nat) (ps:List Str) (sp:Sp):Prop :=
  ∃ f fd,FnOk P w K mg base CX0 k f fd ps sp∧Binds K fd ps []∧abk K (.ref f)=true∧mg x=some (.ref f)
theorem aq {x:Str} {k k':Nat} {ps:List Str} {sp:Sp} {e:Expr} {es:List Expr} {t:TA} {p pos:Pos} (C:Cal X.prog X.w X.K X.mg X.base x k ps sp) (hr:Room k' X.A) (hk:k≤k') (hg:Gl X x) (ha:PA X (e :: es) t)
    (hdb:(x == ("__debug__":Str))=false:=by decide) (he:starEach (e :: es) X.env=(false,eval e X.env) :: starEach es X.env:=by rfl) (hpl:(backTo pos (starEach es X.env)).any (·.1)=false:=by rfl) :
    PE X (.Call (.Name x p) (e :: es) [] pos) (qx sp [] E0 t):=by
  obtain ⟨f,fd,F,b,kp,m⟩:=C;exact pY F (hr.mono hk) hg m kp b .nil sC ha hdb he hpl
end
theorem Same.new {H:Hp} {p:Addr} (h:H p=none) (o:HO):Same H (upd H p o):=fun b u q=>by rw [ak (aj q h)];exact q
def But (w:Addr) (H H':Hp):Prop:=∀ b o,b≠w→H b=some o→H' b=some o
theorem But.refl {w:Addr} {H:Hp}:But w H H:=fun _ _ _ h=>h
theorem But.trans {w:Addr} {H H1 H2:Hp} (a:But w H H1) (b:But w H1 H2):But w H H2:=fun c o n h=>b c o n (a c o n h)
theorem But.of {w:Addr} {H H':Hp} (a:Same H H'):But w H H':=fun c o _ h=>a c o h
theorem But.new {w:Addr} {H:Hp} {p:Addr} (h:H p=none) (o:HO):But w H (upd H p o):=But.of (Same.new h o)
theorem But.put {w:Addr} {H:Hp} {o:HO}:But w H (upd H w o):=fun b u n q=>by rw [ak n];exact q
end L2
namespace Srt
open PySem PySem.W PyProof.Rows
def run {α:Type} (lt:Nat→Nat→Bool):KasT α→α
  | .ret a=>a
  | .ask i j k=>run lt (k (lt i j))
section
variable (key:Nat→Int)
abbrev lt:Nat→Nat→Bool:=fun i j=>decide (key i < key j)
def kp (p:Array Nat) (x:Nat):Int:=key (p.getD x 0)
variable {key}
end
end Srt
namespace Srt
open PySem PySem.W PyProof.Rows
def Ent (n:Nat) (p:Array Nat):Prop:=∀ x,p.getD x 0 < n
section
variable {prog:Program} {w:World} {A:Around} {E:Value→Shared→Prop} {s:Shared}
end
end Srt
set_option maxHeartbeats 2000000
namespace L2
open PySem PySem.Spec PyProof.Rows
inductive EqR (K:aaa) (H:Hp):Nat→V→V→Bool→Prop
  | flat {n:Nat} {x y:V} (fx:dE x=true) (fy:dE y=true):EqR K H n x y (eqV x y)
  | lens {n:Nat} {a b:Addr} {xs ys:List V} (ha:SqL K H a xs) (hb:SqL K H b ys) (hl:xs.length≠ys.length):EqR K H (n+1) (.ref a) (.ref b) false
  | lst {n:Nat} {a b:Addr} {xs ys:List V} {e:Nat→Bool} (ha:SqL K H a xs) (hb:SqL K H b ys) (hl:xs.length=ys.length) (h:∀ (j:Nat) x y,xs[j]?=some x→ys[j]?=some y→EqR K H n x y (e j)):EqR K H (n+1) (.ref a) (.ref b) ((abd xs.length).all e)
  | tup {n:Nat} {a b:Addr} {xs ys:List V} {e:Nat→Bool} (ha:SqT K H a xs) (hb:SqT K H b ys) (h:∀ (j:Nat) x y,xs[j]?=some x→ys[j]?=some y→EqR K H n x y (e j)) :
      EqR K H (n+1) (.ref a) (.ref b) ((abd (min xs.length ys.length)).all e && xs.length == ys.length)
theorem o8 {x:V} (f:dE x=true):eqV x x=true:=by
  cases x <;> first|rfl|(simp [eqV];done)|exact absurd (show false=true from f) aae
section
variable {X:Cx} {pins:List (Addr × Obj)} {σ:St} {H:Hp} {s:Shared}
theorem EqR.self (I:Inv X pins σ H s) {n:Nat} {x y:V} {b:Bool} (h:EqR X.K H n x y b):x=y→b=true:=by
  induction h with
  | flat fx fy=>intro e;subst e;exact o8 fx
  | lens ha hb hl =>
    intro e;injection e with e;subst e
    exact absurd (by rw [I.list_inj ha hb]) hl
  | @lst n a b xs ys e ha hb hl h ih =>
    intro q;injection q with q;subst q
    obtain rfl:=I.list_inj ha hb;rw [aaR];intro j hj;have hj':j < xs.length:=aaH.mp hj;exact ih j _ _ (aac hj') (aac hj') rfl
  | @tup n a b xs ys e ha hb h ih =>
    intro q;injection q with q;subst q
    obtain rfl:=I.tuple_inj ha hb;rw [aa4,aaR];refine ⟨fun j hj=>?_,beq_self_eq_true _⟩;have hj':j < xs.length:=by have:=aaH.mp hj;lia
    exact ih j _ _ (aac hj') (aac hj') rfl
theorem bB {xs:List V} {its:List Value} (r:Vals xs its) {j:Nat} (h:j < its.toArray.size):∃ x,xs[j]?=some x∧RelV x its.toArray[j]:=by
  have hl:=r.length;have h':j < xs.length:=by rw [hl];simpa using h
  obtain ⟨u,hu,ru⟩:=r.get (aac h');refine ⟨_,aac h',?_⟩;have e:its.toArray[j]=u:=by
    have : its[j]?=some u:=hu;rw [aac (by simpa using h)] at this;simpa using aas this
  rw [e];exact ru
theorem EqR.at (I:Inv X pins σ H s) {n:Nat} {x y:V} {b:Bool} (h:EqR X.K H n x y b):∀ {A:Around} {u v:Value},RelV x u→RelV y v→A.units+n < cLine→SeqAt.EqAt A s u v b:=by
  induction h with
  | flat fx fy=>intro A u v rx ry hu;exact o_ rx ry fx fy
  | @lens n a b xs ys ha hb hl =>
    intro A u v rx ry hu;cases rx;cases ry;obtain ⟨its,r,pl,_⟩:=I.list ha;obtain ⟨its2,r2,pl2,_⟩:=I.list hb;have ne:a≠b:=fun e=>by subst e;exact hl (by rw [I.list_inj ha hb])
    refine .of_refs ne (.lists_lengths pl.isList pl2.isList ?_ (by lia));rw [aaj,aaj,← r.length,← r2.length];exact bne_iff_ne.mpr hl
  | @lst n a b xs ys e ha hb hl h ih =>
    intro A u v rx ry hu;by_cases q:a=b
    · have:=(EqR.lst ha hb hl h).self I (by rw [q]);cases rx;cases ry;rw [this];subst q;exact SeqAt.EqAt.same _
    · cases rx;cases ry;obtain ⟨its,r,pl,_⟩:=I.list ha;obtain ⟨its2,r2,pl2,_⟩:=I.list hb;have e1:its.toArray.size=xs.length:=by rw [aaj,r.length]
      rw [← e1];refine .of_refs q (.lists pl.isList pl2.isList (by rw [aaj,aaj,← r.length,← r2.length];exact hl) (by lia) fun j h1 h2=>?_);obtain ⟨x,hx,rx⟩:=bB r h1;obtain ⟨y,hy,ry⟩:=bB r2 h2;exact ih j x y hx hy rx ry (by show A.units+1+n < cLine;lia)
  | @tup n a b xs ys e ha hb h ih =>
    intro A u v rx ry hu;by_cases q:a=b
    · have:=(EqR.tup ha hb h).self I (by rw [q]);cases rx;cases ry;rw [this];subst q;exact SeqAt.EqAt.same _
    · cases rx;cases ry;obtain ⟨its,r,pl,_⟩:=I.tuple ha;obtain ⟨its2,r2,pl2,_⟩:=I.tuple hb;have e1:its.toArray.size=xs.length:=by rw [aaj,r.length]
      have e2:its2.toArray.size=ys.length:=by rw [aaj,r2.length]
      rw [← e1,← e2];refine .of_refs q (.tuples pl pl2 (by lia) fun j h1 h2=>?_);obtain ⟨x,hx,rx⟩:=bB r h1;obtain ⟨y,hy,ry⟩:=bB r2 h2;exact ih j x y hx hy rx ry (by show A.units+1+n < cLine;lia)
def sx (K:aaa) (neg:Bool):R2:=fun x y H Q=>∃ n a b xs ys,n≤60∧x=.ref a∧y=.ref b∧SqL K H a xs∧SqL K H b ys ∧
  ((xs.length≠ys.length∧Q (.bl neg) H)∨∃ e:Nat→Bool,xs.length=ys.length∧(∀ (j:Nat) x y,xs[j]?=some x→ys[j]?=some y→EqR K H n x y (e j))∧Q (.bl (if neg then !(abd xs.length).all e else (abd xs.length).all e)) H)
theorem kN (hu:X.A.units+64 < cLine):OpR X (compareOp .Eq) (sx X.K false):=by
  intro pins s σ H x y v u Q I rx ry h;obtain ⟨n,a,b,xs,ys,hn,rfl,rfl,ha,hb,h⟩:=h;cases rx;cases ry;obtain ⟨its,r,pl,_⟩:=I.list ha;obtain ⟨its2,r2,pl2,_⟩:=I.list hb;have e1:its.toArray.size=xs.length:=by rw [aaj,r.length]
  have e2:its2.toArray.size=ys.length:=by rw [aaj,r2.length]
  rcases h with ⟨hl,q⟩|⟨e,hl,he,q⟩
  · exact SeqAt.eq_list_lengthsAt pl.isList pl2.isList (by rw [e1,e2];exact bne_iff_ne.mpr hl) (by lia) ⟨.bl false,H,I,rfl,q⟩
  · refine SeqAt.eq_listAt (e:=e) pl.isList pl2.isList (by rw [e1,e2];exact hl) (by lia) (fun j h1 h2=>?_) ?_
    · obtain ⟨x,hx,rx⟩:=bB r h1;obtain ⟨y,hy,ry⟩:=bB r2 h2;exact (he j x y hx hy).at I rx ry (by show X.A.units+1+n < cLine;lia)
    · rw [e1];exact ⟨.bl _,H,I,rfl,q⟩
theorem qZ (hu:X.A.units+64 < cLine):OpR X (compareOp .NotEq) (sx X.K true):=by
  intro pins s σ H x y v u Q I rx ry h;obtain ⟨n,a,b,xs,ys,hn,rfl,rfl,ha,hb,h⟩:=h;cases rx;cases ry;obtain ⟨its,r,pl,_⟩:=I.list ha;obtain ⟨its2,r2,pl2,_⟩:=I.list hb;have e1:its.toArray.size=xs.length:=by rw [aaj,r.length]
  have e2:its2.toArray.size=ys.length:=by rw [aaj,r2.length]
  rcases h with ⟨hl,q⟩|⟨e,hl,he,q⟩
  · exact SeqAt.RcNeAt.lists_lengths pl.isList pl2.isList (by rw [e1,e2];exact bne_iff_ne.mpr hl) (by lia) _ _ _ _ ⟨.bl true,H,I,rfl,q⟩
  · refine SeqAt.RcNeAt.lists (e:=e) pl.isList pl2.isList (by rw [e1,e2];exact hl) (by lia) (fun j h1 h2=>?_) _ _ _ _ ?_
    · obtain ⟨x,hx,rx⟩:=bB r h1;obtain ⟨y,hy,ry⟩:=bB r2 h2;exact (he j x y hx hy).at I rx ry (by show X.A.units+1+n < cLine;lia)
    · rw [e1];exact ⟨.bl _,H,I,rfl,q⟩
end
abbrev PairIn (H:Hp) (p:Int × Int) (v:V):Prop:=∃ a,v=.ref a∧H a=some (.tup [.int p.1,.int p.2])
abbrev PairsIn (H:Hp):List (Int × Int)→List V→Prop:=Paired (PairIn H)
open PySem PySem.Spec PyProof.Rows
section
variable {X:Cx}
end
open PySem PySem.Spec PyProof.Rows
theorem hU {c A B:Prop} [Decidable c] (hc:c) (h:A):if decide c=true then A else B:=by
  rw [if_pos (decide_eq_true hc)];exact h
theorem fG {c A B:Prop} [Decidable c] (hc:¬ c) (h:B):if decide c=true then A else B:=by
  rw [if_neg (fun e=>hc (of_decide_eq_true e))];exact h
section
variable {X:Cx} {K:aaa}
theorem eZ {n:String} (hK:X.K=K):bz X (.builtin "isinstance") (fun xs H Q=>∃ x t b,xs=[x,.ty n]∧TyOf K H x t∧abM K t (.type n)=some b∧Q (.bl b) H):=by subst hK;exact aA
theorem pW {es:List Expr} {k:Nat} {pos:Pos} {t:TGs} {n:Nat} (hK:X.K=K) (hc:X.calm=true) (h:PGs X es t)
    (hn:(assignEach es X.env).length=n:=by rfl) (hst:(assignEach es X.env).findIdx? (·.1)=none:=by rfl):PG X (.Tuple es k pos) (sX K n t):=by subst hK;exact dy hc h hn hst
theorem l_ {tg l:Expr} {tl:TE} (hK:X.K=K) (hl:PE X l tl):PI X tg l (sO K tl):=by subst hK;exact cZ hl
end
theorem jD {H:Hp} {ps:List (Int × Int)} {vs:List V} (p:PairsIn H ps vs):∀ {j:Nat} {x:V},vs[j]?=some x→∃ p,ps[j]?=some p∧PairIn H p x:=by
  induction p with
  | nil=>intro j x h;cases h
  | cons a b ih =>
    intro j x h;cases j with
    | zero=>cases h;exact ⟨_,rfl,a⟩
    | succ j=>exact ih (j:=j) h
open PySem PySem.Spec PyProof.Rows
def jV:Key→PyData
  | .inl i=>.int i
  | .inr x=>.str x
mutual
def Dat (H:Hp):PyData→V→Prop
  | .none,v=>v=.non
  | .bool b,v=>v=.bl b
  | .int i,v=>v=.int i
  | .str x,v=>v=.str x
  | .list ds,v=>∃ a xs,v=.ref a∧H a=some (.lst xs)∧DatAll H ds xs
  | .tuple ds,v=>∃ a xs,v=.ref a∧H a=some (.tup xs)∧DatAll H ds xs
  | .dict kvs,v=>∃ a ks,v=.ref a∧H a=some (.dK ks)∧DatKv H kvs ks
def DatAll (H:Hp):List PyData→List V→Prop
  | [],vs=>vs=[]
  | d :: ds,vs=>∃ v r,vs=v :: r∧Dat H d v∧DatAll H ds r
def DatKv (H:Hp):List (PyData × PyData)→List (Key × V)→Prop
  | [],ks=>ks=[]
  | (k,d) :: r,ks=>∃ q v t,ks=(q,v) :: t∧k=jV q∧Dat H d v∧DatKv H r t
end
mutual
theorem Dat.mono {H H':Hp} (g:Same H H'):∀ (d:PyData) (v:V),Dat H d v→Dat H' d v
  | .none,v,h=>h
  | .bool b,v,h=>h
  | .int i,v,h=>h
  | .str x,v,h=>h
  | .list ds,v,h=>by
    simp only [Dat] at h ⊢;obtain ⟨a,xs,e,h1,h2⟩:=h;exact ⟨a,xs,e,g _ _ h1,DatAll.mono g ds xs h2⟩
  | .tuple ds,v,h=>by
    simp only [Dat] at h ⊢;obtain ⟨a,xs,e,h1,h2⟩:=h;exact ⟨a,xs,e,g _ _ h1,DatAll.mono g ds xs h2⟩
  | .dict kvs,v,h=>by
    simp only [Dat] at h ⊢;obtain ⟨a,xs,e,h1,h2⟩:=h;exact ⟨a,xs,e,g _ _ h1,DatKv.mono g kvs xs h2⟩
theorem DatAll.mono {H H':Hp} (g:Same H H'):∀ (ds:List PyData) (vs:List V),DatAll H ds vs→DatAll H' ds vs
  | [],vs,h=>h
  | d :: ds,vs,h=>by
    simp only [DatAll] at h ⊢;obtain ⟨v,r,e,h1,h2⟩:=h;exact ⟨v,r,e,Dat.mono g d v h1,DatAll.mono g ds r h2⟩
theorem DatKv.mono {H H':Hp} (g:Same H H'):∀ (kvs:List (PyData × PyData)) (ks:List (Key × V)),DatKv H kvs ks→DatKv H' kvs ks
  | [],ks,h=>h
  | (k,d) :: r,ks,h=>by
    simp only [DatKv] at h ⊢;obtain ⟨q,v,t,e1,e2,h1,h2⟩:=h;exact ⟨q,v,t,e1,e2,Dat.mono g d v h1,DatKv.mono g r t h2⟩
end
theorem DatAll.len {H:Hp}:∀ {ds:List PyData} {vs:List V},DatAll H ds vs→ds.length=vs.length
  | [],vs,h=>by simp only [DatAll] at h;rw [h];rfl
  | d :: ds,vs,h=>by
    simp only [DatAll] at h;obtain ⟨v,r,rfl,_,h2⟩:=h;rw [aaN,aaN,DatAll.len h2]
def off (w:Addr) (H:Hp):Hp:=fun b=>if b=w then none else H b
theorem fq {w b:Addr} {H:Hp} (h:b≠w):off w H b=H b:=if_neg h
theorem off_le {w:Addr} {H:Hp}:Same (off w H) H:=fun b o h=>by
  unfold off at h;by_cases c:b=w
  · rw [if_pos c] at h;cases h
  · rw [if_neg c] at h;exact h
theorem iO {w:Addr} {H H':Hp} (g:But w H H'):Same (off w H) (off w H'):=fun b o h=>by
  by_cases c:b=w
  · unfold off at h;rw [if_pos c] at h;cases h
  · rw [fq c] at h ⊢;exact g b o c h
def nT:PyData→String
  | .none=>"NoneType"
  | .bool _=>"bool"
  | .int _=>"int"
  | .str _=>"str"
  | .list _=>"list"
  | .tuple _=>"tuple"
  | .dict _=>"dict"
theorem Dat.ty {K:aaa} {H:Hp} {d:PyData} {v:V} (h:Dat H d v):TyOf K H v (.type (nT d)):=by
  cases d with
  | none=>simp only [Dat] at h;subst h;exact .non
  | bool b=>simp only [Dat] at h;subst h;exact .bl b
  | int i=>simp only [Dat] at h;subst h;exact .int i
  | str x=>simp only [Dat] at h;subst h;exact .str x
  | list ds=>simp only [Dat] at h;obtain ⟨a,xs,rfl,e,_⟩:=h;exact .lst e
  | tuple ds=>simp only [Dat] at h;obtain ⟨a,xs,rfl,e,_⟩:=h;exact .tup e
  | dict kvs=>simp only [Dat] at h;obtain ⟨a,xs,rfl,e,_⟩:=h;exact .dK e
section
variable {X:Cx} {pins:List (Addr × Obj)} {σ:St} {H:Hp} {s:Shared}
theorem Inv.nosys (I:Inv X pins σ H s) {a:Addr} {o:HO} (h:H a=some o):a≠sysModules:=fun e=>by
  obtain ⟨mm,ob,es,ep,g,_⟩:=I.mod.sysm;have:=(I.bs _ _ g).2;rw [← e,h] at this;cases this
theorem g8 {P:Program} {w:World} {h:Heap} {q:Key} {v:Value} (e:(av P w).is q v=true):Reads h v (jV q) []:=by
  rw [gq] at e;rcases aV e with ⟨i,t,rfl,rfl⟩|⟨x,t,rfl,rfl⟩
  · exact .int i t
  · exact .str x t
mutual
theorem Dat.reads (I:Inv X pins σ H s):∀ (d:PyData) (v:V) (u:Value),Dat H d v→RelV v u→∃ as,Reads s.heap u d as∧sysModules∉as
  | .none,v,u,h,r=>by
    simp only [Dat] at h;subst h;cases r;exact ⟨_,.none,by simp⟩
  | .bool b,v,u,h,r=>by
    simp only [Dat] at h;subst h;cases r;exact ⟨_,.bool b,by simp⟩
  | .int i,v,u,h,r=>by
    simp only [Dat] at h;subst h;obtain ⟨t,rfl⟩:=r;exact ⟨_,.int i t,by simp⟩
  | .str x,v,u,h,r=>by
    simp only [Dat] at h;subst h;obtain ⟨t,rfl⟩:=r;exact ⟨_,.str x t,by simp⟩
  | .list ds,v,u,h,r=>by
    simp only [Dat] at h;obtain ⟨a,xs,rfl,hr,hd⟩:=h;cases r;obtain ⟨its,rv,⟨o,n,e1,e2,_,e3⟩,_⟩:=I.list (SqL.of hr);obtain ⟨as,ra,na⟩:=DatAll.reads I ds xs its hd rv;have ho:=hr;refine ⟨_,.list e1 e2 e3 (by simpa using ra),fun z=>?_⟩;rcases aai.mp z with z|z
    · exact I.nosys ho z.symm
    · exact na z
  | .tuple ds,v,u,h,r=>by
    simp only [Dat] at h;obtain ⟨a,xs,rfl,hr,hd⟩:=h;cases r;obtain ⟨its,rv,⟨o,e1,e2,n,e3⟩,_⟩:=I.tuple (SqT.of hr);obtain ⟨as,ra,na⟩:=DatAll.reads I ds xs its hd rv;exact ⟨_,.tuple e1 e2 e3 (by simpa using ra),na⟩
  | .dict kvs,v,u,h,r=>by
    simp only [Dat] at h;obtain ⟨a,ks,rfl,hr,hd⟩:=h;cases r;obtain ⟨_,_,vs,rel,o,es,ep,e1,ex,e3,_,pr,_⟩:=mz I.hok hr;obtain ⟨as,bs,ra,rb,na,nb⟩:=DatKv.reads I kvs ks vs es.toList hd rel pr;have ho:=hr;refine ⟨_,.dict e1 ex.1 e3 ra rb,fun z=>?_⟩;rcases aax.mp z with z|z
    · rcases aai.mp z with z|z
      · exact I.nosys ho z.symm
      · exact na z
    · exact nb z
theorem DatAll.reads (I:Inv X pins σ H s):∀ (ds:List PyData) (vs:List V) (us:List Value),DatAll H ds vs→Vals vs us→∃ as,ReadsAll s.heap us ds as∧sysModules∉as
  | [],vs,us,h,r=>by
    simp only [DatAll] at h;subst h;cases r;exact ⟨_,.nil,by simp⟩
  | d :: ds,vs,us,h,r=>by
    simp only [DatAll] at h;obtain ⟨v,t,rfl,h1,h2⟩:=h;cases r with
    | cons r1 r2 =>
      obtain ⟨as,ra,na⟩:=Dat.reads I d v _ h1 r1;obtain ⟨bs,rb,nb⟩:=DatAll.reads I ds t _ h2 r2;exact ⟨_,.cons ra rb,fun z=>(aax.mp z).elim na nb⟩
theorem DatKv.reads (I:Inv X pins σ H s):∀ (kvs:List (PyData × PyData)) (ks:List (Key × V)) (vs:List (Key × Value)) (es:List DictEntry),DatKv H kvs ks→KV ks vs→Pairs (av X.prog X.w) es vs →
    ∃ as bs,ReadsAll s.heap (es.map (·.key)) (kvs.map (·.1)) as∧ReadsAll s.heap (es.map (·.val)) (kvs.map (·.2)) bs∧sysModules∉as∧sysModules∉bs
  | [],ks,vs,es,h,r,p=>by
    simp only [DatKv] at h;subst h;cases r;cases p;exact ⟨_,_,.nil,.nil,by simp,by simp⟩
  | (k,d) :: kr,ks,vs,es,h,r,p=>by
    simp only [DatKv] at h;obtain ⟨q,v,t,rfl,rfl,h1,h2⟩:=h;cases r with
    | cons r1 r2 =>
      cases p with
      | cons p1 p2 p3 =>
        obtain ⟨rk,rv⟩:=r1;obtain ⟨as,bs,ra,rb,na,nb⟩:=DatKv.reads I kr t _ _ h2 r2 p3;obtain ⟨cs,rc,nc⟩:=Dat.reads I d v _ h1 rv;have rk':q=_:=rk;subst rk';have kd:=g8 (h:=s.heap) p1;refine ⟨[]++as,cs++bs,.cons kd ra,.cons (by dsimp only;rw [p2];exact rc) rb,by simpa using na,fun z=>(aax.mp z).elim nc nb⟩
end
end
open PySem PySem.Spec PyProof.Rows
section
variable {X:Cx}
def tZ (neg:Bool):R2:=fun x y H Q=>∃ d e,Dat H d x∧Dat H e y∧d.canLay0=true∧e.canLay0=true∧d.depth≤60∧Q (.bl (if neg then !PyData.eqv d e else PyData.eqv d e)) H
theorem re (hu:X.A.units+64 < cLine):OpR X (compareOp .Eq) (tZ false):=by
  intro pins s σ H x y v u Q I rx ry h;obtain ⟨d,e,hd,he,cd,ce,dp,q⟩:=h;obtain ⟨as,ra,_⟩:=Dat.reads I d x _ hd rx;obtain ⟨bs,rb,_⟩:=Dat.reads I e y _ he ry;exact PySem.SeqAt.compareEq_reads ra rb cd ce (by lia) ⟨.bl _,H,I,rfl,q⟩
theorem mI {i:Int} (h:i.natAbs < 2 ^ 4000):Builtin.Int.intBits i≤2 ^ 20:=by
  have : Builtin.Int.intBits i≤4000:=by
    unfold Builtin.Int.intBits;by_cases c:i=0
    · simp [c]
    · rw [if_neg (by simpa using c)];have h4:i.natAbs≠0:=fun z=>c (Int.natAbs_eq_zero.mp z);exact (Nat.log2_lt h4).mpr h
  have e:(4000:Nat)≤2 ^ 20:=by decide
  lia
theorem eQ:OpR X (binaryOp .Mult) (rI (fun i j=>i.natAbs < 2 ^ 4000∧j.natAbs < 2 ^ 4000) fun i j=>.int (i * j)):=opI fun _ _ _ _ _ _ _ hc q=>mul_int q (IntMulOk.of_bits (mI hc.1) (mI hc.2))
end
open PySem PySem.Spec PyProof.Rows
theorem Inv.turnedL {X:Cx} {pins:List (Addr × Obj)} {σ:St} {H:Hp} {s:Shared} {h':Heap} {t':Nat} {fp:List Addr} (I:Inv X pins σ H s) (k:∀ b o,b∉fp→s.heap.get? b=some o→h'.get? b=some o) (hf:∀ b∈fp,df X pins H b):Inv X pins σ H { s with heap:=h',toks:=t' }:=by
  have nit:∀ b u,H b=some u→b∉fp:=fun b u e z=>by rw [(hf b z).1] at e;cases e
  refine I.step (g':=s.gens) (d':=s.drawn) (ch:=fp) (fun b hb=>⟨(hf b hb).2.2.2.1,(hf b hb).2.1,(hf b hb).2.2.2.2.1,(hf b hb).2.2.2.2.2⟩) (fun b o _ _ hc e _=>k b o hc e) (fun b o _ _ hc e _=>⟨o.slots,k b o hc e⟩) (fun _ _ _ _ n=>n)
    (fun b o hc e=>⟨o,k b o hc e⟩) (fun _ _ e=>e) (fun _ _ _ e=>e) (fun b ps e=>⟨#[],by rw [e];simp⟩) (fun m hm=>?_) (fun b u e=>?_) I.bare
  · obtain ⟨o,es,ep,ho,r⟩:=hm;exact ⟨o,es,ep,k _ o (fun z=>(hf _ z).2.1 rfl) ho,r⟩
  · refine (I.hok b u e).stay (fun c v hc q=>k c v ?_ q) (fun _ q=>q) fun _ _ q=>q;rcases hc with z|z
    · rw [z];exact nit b u e
    · exact nit c _ z
def pH (K:aaa) (a:Addr):It :=
  ⟨fun i H=>∃ xs x,SqL K H a xs∧xs[i]?=some x,fun i H x H'=>∃ p y,H p=none∧x=.ref p∧H'=upd H p (.tup [.int i,y])∧∀ xs,SqL K H a xs→xs[i]?=some y,fun i H=>∃ xs,SqL K H a xs∧xs.length≤i⟩
theorem mR {P:Program} {w:World} {K:aaa} {elts:List Expr} {k:Nat} {pos:Pos} (a e it:Addr) (hei:e≠it):Turn P w K (.Tuple elts k pos) (pH K a) [e,it] e (fun i h=>(∃ old,IsEnum h e it i old)∧h.IsListIter it a i) where
  mem:=by simp
  obj:=fun i h st b hb=>by
    obtain ⟨⟨old,he⟩,o,e1,c,d⟩:=st;rcases aai.mp hb with z|z
    · subst z;exact ⟨_,he,fun v z=>by cases z⟩
    · have z:b=it:=by simpa using z
      subst z;exact ⟨o,e1,fun v z=>by rw [d] at z;cases z⟩
  keep:=fun i h h' st kp=>⟨let ⟨old,he⟩:=st.1;⟨old,kp e (by simp) _ he⟩,st.2.at fun o x=>kp it (by simp) o x⟩
  item:=by
    intro X hP hw hK hc i pins s σ H E I hf st hg;subst hP hw hK;obtain ⟨xs,x,hq,hx⟩:=hg;obtain ⟨its,rv,p,hz⟩:=I.list hq;obtain ⟨u,hu,ru⟩:=rv.get hx;obtain ⟨⟨old,he⟩,hit⟩:=st;have helt:e < s.heap.objs.size:=aan he;have hilt:it < s.heap.objs.size:=by obtain ⟨_,x,_⟩:=hit;exact aan x
    refine wpAny_pyNext_enum_item he hit p.isList (x:=u) (by simpa using hu) hei fun h' ho hit' hT hsz hk=>?_;refine ⟨_,rfl,wpAny_letOwnedTupleGo_enum ho fun h'' he' hs'=>?_⟩;have hs2:aaU e h' h'':=hs';have keep:∀ b o,b∉[e,it]→s.heap.get? b=some o→h''.get? b=some o:=fun b o hb q=>by
      have b1:b≠e:=fun z=>hb (by simp [z]);have b2:b≠it:=fun z=>hb (by simp [z]);exact (hs2.2 b b1).trans (hk b o b1 b2 q)
    have I1:Inv X pins σ H { s with heap:=h'',toks:=s.toks+1 }:=I.turnedL keep hf;have gT:h''.get? s.heap.objs.size=some { cls:=.type "tuple",data:=.seq #[.int i s.toks,u] }:=(hs2.2 _ (abB helt)).trans hT;have fresh:H s.heap.objs.size=none:=I.hok.fresh (aah _);have I2:=I1.adopt (a:=s.heap.objs.size) (o:=.tup [.int i,x]) fresh I.sz (abB I.lt) (fun y c e1=>by
        obtain ⟨v,q⟩:=I.cell y c e1;exact aaz q.lt) (fun q hq=>aaz (aan (I.pin q hq).1)) ⟨by show 2≤sizeLine;decide,[.int i s.toks,u],.cons ⟨_,rfl⟩ (.cons ru .nil),⟨_,gT,rfl,_,rfl⟩⟩
    refine ⟨.ref s.heap.objs.size,_,I2,rfl,⟨_,x,fresh,rfl,rfl,fun ys hy=>by rw [I.list_inj hy hq];exact hx⟩,⟨⟨u,by simpa using he'⟩,hit'.at fun o y=>(hs2.2 it hei.symm).trans y⟩,fun b hb=>?_⟩;rw [ak]
    · exact (hf b hb).1
    · rcases aai.mp hb with z|z
      · rw [z];exact aaz helt
      · have z:b=it:=by simpa using z
        rw [z];exact aaz hilt
  done:=by
    intro X hP hw hK hc i pins s σ H E I hf st hg;subst hP hw hK;obtain ⟨xs,hq,hx⟩:=hg;obtain ⟨its,rv,p,hz⟩:=I.list hq;obtain ⟨⟨old,he⟩,hit⟩:=st;have hl:=rv.length;refine wpAny_pyNext_enum_end (I.ok.hd hc) he hit p.isList (by simp;lia) fun h' eb=>⟨rfl,I.turnedL (t':=s.toks) (fp:=[e,it]) (fun b o hb q=>eb b o (fun z=>hb (by simp [z])) q) hf⟩
  self:=fun _ _ _ _ _ st h=>by
    obtain ⟨⟨old,he⟩,_⟩:=st;exact wpAny_pyIter_enum he h
def sU (K:aaa) (ta:TA):TI:=fun σ H R=>ta σ H fun vs H1=>∃ a,vs=[.ref a]∧(∃ xs,SqL K H1 a xs)∧R (pH K a) H1
theorem pV {X:Cx} {elts:List Expr} {k:Nat} {tpos:Pos} {a:Expr} {ta:TA} {p pos:Pos} (hg:Gl X "enumerate") (hm:X.mg "enumerate" = none) (ha:PA X [a] ta) (hs:starEach [a] X.env=[(false,eval a X.env)]:=by rfl):PI X (.Tuple elts k tpos) (.Call (.Name "enumerate" p) [a] [] pos) (sU X.K ta):=by
  intro pins s σ H R I h;refine Call_ (eh I hg hm boot_enumerate (abc (thn (ha pos pins s σ H _ I h) fun us s1 ⟨vs,H1,I1,r1,q1⟩=>?_) hs rfl));obtain ⟨l,e,⟨xs,hq⟩,q⟩:=q1;subst e;cases r1 with
  | cons r rr =>
    cases rr;cases r;obtain ⟨its,rv,pl,hz⟩:=I1.list hq;refine call_enumerate_list pl.isList fun h' he hit hsz hk=>?_;refine wpAny_pyIter_enum (s:={ s1 with heap:=h' }) he ?_;have I2:Inv X pins σ H1 { s1 with heap:=h' }:=I1.kept (t':=s1.toks) hk;refine ⟨s1.heap.objs.size+1,[s1.heap.objs.size+1,s1.heap.objs.size],_,_,H1,rfl,I2,mR l _ _ (Nat.succ_ne_self _),⟨⟨_,he⟩,hit⟩,fun b hb=>?_,q⟩;have hb2:s1.heap.objs.size≤b:=by
      rcases aai.mp hb with z|z
      · rw [z];exact Nat.le_succ _
      · have z:b=s1.heap.objs.size:=by simpa using z
        rw [z];exact aah _
    exact I1.fpOk hb2 (I1.hok.fresh hb2)
theorem o5 {K:aaa} {a:Addr} {xs:List V} {g:TG} {tb:TS} {D:Ends} {σ:St} {H:Hp} (Pv:Nat→St→Hp→Prop) (h0:Pv 0 σ H) (hl:∀ i σ H,i≤xs.length→Pv i σ H→SqL K H a xs)
    (hs:∀ i x p σ H,xs[i]?=some x→Pv i σ H→H p=none→g (.ref p) σ (upd H p (.tup [.int i,x])) fun σ2 H2=>tb { D with nx:=Pv (i+1),ct:=Pv (i+1),bk:=D.nx } σ2 H2) (hd:∀ σ H,Pv xs.length σ H→D.nx σ H) :
    ∃ W:Nat→Nat→St→Hp→Prop,(∃ m,W 0 m σ H)∧∀ i m σ H,W i m σ H →
      ((pH K a).stop i H∧D.nx σ H)∨((pH K a).go i H∧∃ N:St→Hp→Prop,(∀ σ' H',N σ' H'→∃ m',m' < m∧W (i+1) m' σ' H')∧∀ x H',(pH K a).yld i H x H'→g x σ H' fun σ2 H2=>tb { D with nx:=N,ct:=N,bk:=D.nx } σ2 H2):=by
  refine ⟨fun i m σ H=>m=xs.length - i∧i≤xs.length∧Pv i σ H,⟨xs.length,by simp,aaQ _,h0⟩,?_⟩;rintro i m σ H ⟨rfl,hi,p⟩;have q:=hl i σ H hi p;by_cases hlt:i < xs.length
  · refine .inr ⟨⟨xs,xs[i],q,by simp [hlt]⟩,Pv (i+1),fun σ' H' p'=>⟨xs.length - (i+1),by lia,rfl,hlt,p'⟩,fun x H' y=>?_⟩;obtain ⟨pa,z,n,e1,e2,y⟩:=y;subst e1 e2;exact hs i z pa σ _ (y xs q) p n
  · have e:i=xs.length:=by lia
    subst e;exact .inl ⟨⟨xs,q,aah _⟩,hd σ H p⟩
open PySem PySem.Spec PyProof.Rows
section
variable {prog:Program} {w:World} {κ:Type} [DecidableEq κ] {knd:HeapKind prog w κ} {A:Around} {E:Value→Shared→Prop} {s:Shared}
def a7 (xs more:List (κ × Addr × Value)):List (κ × Addr × Value):=more.foldl (fun acc x=>storedH acc x.1 x.2.1 x.2.2) xs
theorem iT (xs more:List (κ × Addr × Value)) (i:Nat) (x:κ × Addr × Value) (h:more[i]?=some x):a7 xs (more.take (i+1))=storedH (a7 xs (more.take i)) x.1 x.2.1 x.2.2:=by
  unfold a7;rw [aaA,h,List.foldl_append];rfl
theorem fD (xs:List (κ × Addr × Value)) (k:κ) (a:Addr) (v:Value):(storedH xs k a v).length≤xs.length+1:=by
  unfold storedH;split <;> simp
end
open PySem PySem.Spec PyProof.Rows
def bD (kvs more:List (List Key × V)):List (List Key × V):=more.foldl (fun acc kv=>bX acc kv.1 kv.2) kvs
theorem eg:∀ (more kvs:List (List Key × V)),(bD kvs more).length≤kvs.length+more.length
  | [],kvs=>by show kvs.length≤kvs.length+0;lia
  | p :: r,kvs=>by
    have h1:=eg r (bX kvs p.1 p.2);have h2:=dC kvs p.1 p.2;show (bD (bX kvs p.1 p.2) r).length≤_;rw [aaN];lia
theorem KT.merge {H:Hp} {more:List (List Key × V)} {ys:List (List Key × Addr × Value)} (r:KT H more ys):∀ {kvs:List (List Key × V)} {xs:List (List Key × Addr × Value)},KT H kvs xs→KT H (bD kvs more) (a7 xs ys):=by
  unfold KT at r
  induction r with
  | nil=>intro kvs xs q;exact q
  | @cons p q ps qs h t ih =>
    intro kvs xs r0;obtain ⟨h1,h2,h3⟩:=h;have z:=KT.put r0 p.1 h2 h3;have z2:=ih z;show KT H (bD (bX kvs p.1 p.2) ps) (a7 (storedH xs q.1 q.2.1 q.2.2) qs);rw [← h1];exact z2
section
variable {prog:Program} {w:World} {κ:Type} [DecidableEq κ] {knd:HeapKind prog w κ} {A:Around} {E:Value→Shared→Prop} {s:Shared}
inductive HitsH (A:Around) (s:Shared) (kb:List (κ × Addr × Value)):List (κ × Addr × Value)→Bool→Prop
  | nil:HitsH A s kb [] true
  | miss {k:κ} {a:Addr} {v:Value} {r:List (κ × Addr × Value)}:atKey kb k=none→HitsH A s kb ((k,a,v) :: r) false
  | hit {k:κ} {a c:Addr} {v y:Value} {r:List (κ × Addr × Value)} {e b:Bool}:atKey kb k=some (c,y)→SeqAt.EqAt A s v y e→HitsH A s kb r b→HitsH A s kb ((k,a,v) :: r) (e && b)
end
open PySem PySem.Spec PyProof.Rows
inductive HitsV (K:aaa) (H:Hp) (n:Nat) (kb:List (List Key × V)):List (List Key × V)→Bool→Prop
  | nil:HitsV K H n kb [] true
  | miss {k:List Key} {v:V} {r:List (List Key × V)}:bn kb k=none→HitsV K H n kb ((k,v) :: r) false
  | hit {k:List Key} {v y:V} {r:List (List Key × V)} {e b:Bool}:bn kb k=some y→EqR K H n v y e→HitsV K H n kb r b→HitsV K H n kb ((k,v) :: r) (e && b)
open PySem PySem.Spec PyProof.Rows
section
variable {prog:Program} {w:World} {κ:Type} [DecidableEq κ] {knd:HeapKind prog w κ} {A:Around} {E:Value→Shared→Prop}
theorem DictOfH.at {h:Heap} {d:Addr} {xs:List (κ × Addr × Value)} (m:h.DictOfH knd d xs):∃ o es ep,h.get? d=some o∧o.data=.dict es ep:=let ⟨o,es,ep,h1,_,h2,_⟩:=m;⟨o,es,ep,h1,h2⟩
theorem dQ {d:Addr} (hu:knd.room A):∀ (xs acc:List (κ × Addr × Value)) (s:Shared) (Q:PUnit→Shared→Prop),(∀ x∈xs,knd.is s.heap x.1 x.2.1)→s.heap.DictOfH knd d acc→acc.length+xs.length≤sizeLine →
    (∀ h' t',h'.DictOfH knd d (a7 acc xs)→aaU d s.heap h'→Q PUnit.unit { s with heap:=h',toks:=t' }) →
    wpAny (model prog w) A (forIn (xs.map fun x=>(Value.ref x.2.1,x.2.2)) PUnit.unit fun (x:Value × Value) (_:PUnit)=>(do dictSet d x.1 x.2;pure (ForInStep.yield PUnit.unit):Sem (ForInStep PUnit))) Q E s
  | [],acc,s,Q,_,hm,_,hQ=>by
    rw [abn,List.forIn_nil];exact wpAny_pure (hQ s.heap s.toks hm (Heap.SameBut.refl _ _))
  | (k,a,v) :: xs,acc,s,Q,hk,hm,hsz,hQ=>by
    rw [aaN] at hsz;rw [aad,List.forIn_cons];obtain ⟨o,es,ep,ho,hd⟩:=DictOfH.at hm;refine wpAny_bind (wpAny_bind (wpAny_dictSet_heap (hsz:=by lia) hu (hk _ (aaq ..)) hm fun h₁ hm₁ hs₁=>wpAny_pure ?_));refine dQ hu xs (storedH acc k a v) _ Q (fun x hx=>knd.keeps (hk x (aak _ hx)) ho hd hs₁) hm₁ (by have e:=fD acc k a v;lia) fun h' t' hm' hs'=>?_;exact hQ h' t' hm' (hs₁.trans hs')
variable {s:Shared}
theorem im {pairs:List (Sem Value × Sem Value)} {Q:Addr→Shared→Prop} (hu:knd.room A) (hlen:pairs.length≤15)
    (h:wpAny (model prog w) A (evalPairs pairs) (fun vs s₁=>∃ xs:List (κ × Addr × Value),vs=xs.map (fun x=>(Value.ref x.2.1,x.2.2))∧xs.length≤15∧(∀ x∈xs,knd.is s₁.heap x.1 x.2.1)∧s₁.heap.DictOfH knd s.heap.objs.size [] ∧
      ∀ h' t',h'.DictOfH knd s.heap.objs.size (a7 [] xs)→aaU s.heap.objs.size s₁.heap h'→Q s.heap.objs.size { s₁ with heap:=h',toks:=t' }) E
      { s with heap:=s.heap.push { cls:=.type "dict",data:=.dict #[] } }) :
    wpAny (model prog w) A (subDict pairs) Q E s:=by
  unfold subDict;refine wpAny_bind (wpAny_alloc ?_);refine wpAny_bind (wpAny_holding ?_);rw [if_pos hlen];refine wpAny_bind (wpAny_mono h (fun vs s₁ h₁=>?_) fun _ _ e=>e);obtain ⟨xs,rfl,hx,hk,hm,hQ⟩:=h₁;have hsz:([]:List (κ × Addr × Value)).length+xs.length≤sizeLine:=by
    rw [sizeLine_eq,abR];lia
  refine wpAny_holding ?_;refine wpAny_bind (dQ (knd:=knd) hu xs [] s₁ _ hk hm hsz fun h' t' hm' hs'=>wpAny_pure (wpAny_pure (hQ h' t' hm' hs')))
theorem nR {env:Env} {keys:List (Option Expr)} {values:List Expr} {pos:Pos} {Q:Value→Shared→Prop} (hu:knd.room A)
    (hall:keys.all (·.isSome)=true) (hl:keys.length=values.length) (h0:keys≠[]) (hlen:keys.length≤15)
    (h:wpAny (model prog w) A (evalPairs (pairTrees keys values env pos)) (fun vs s₁=>∃ xs:List (κ × Addr × Value),vs=xs.map (fun x=>(Value.ref x.2.1,x.2.2))∧xs.length≤15∧(∀ x∈xs,knd.is s₁.heap x.1 x.2.1)∧s₁.heap.DictOfH knd s.heap.objs.size [] ∧
      ∀ h' t',h'.DictOfH knd s.heap.objs.size (a7 [] xs)→aaU s.heap.objs.size s₁.heap h'→Q (.ref s.heap.objs.size) { s₁ with heap:=h',toks:=t' }) E
      { s with heap:=s.heap.push { cls:=.type "dict",data:=.dict #[] } }) :
    wpAny (model prog w) A (eval (.Dict keys values pos) env) Q E s:=by
  have hn:=pairTrees_length keys values env pos hall hl;have hne:pairTrees keys values env pos≠[]:=by
    intro he;rw [he] at hn;exact h0 (abb.mp hn.symm)
  rw [arm_eval_Dict,zip_pairTrees keys values env pos hall hl,dictDisplay_pairs _ hne (by lia)];exact wpAny_bind (wpAny_standAt (wpAny_bind (im (knd:=knd) (Q:=fun d s'=>wpAny (model prog w) A (pure (Value.ref d)) Q E s') hu (by lia)
    (wpAny_mono h (fun vs s₁ h₁=>by obtain ⟨xs,h1,h2,h3,h4,hq⟩:=h₁;exact ⟨xs,h1,h2,h3,h4,fun h' t' a b=>wpAny_pure (hq h' t' a b)⟩) fun _ _ e=>e))))
end
def qL (trs:List (TE × TE)):TE:=fun σ H Q=>∀ p,H p=none→ko trs σ (upd H p (.dT [])) fun ps H2=>H2 p=some (.dT [])∧∃ bs:List (Addr × List Key × V),ps=bs.map (fun b=>(V.ref b.1,b.2.2))∧(∀ b∈bs,H2 b.1=some (.tup (b.2.1.map kV)))∧bs.length≤15 ∧
  Q (.ref p) (upd H2 p (.dT (bD [] (bs.map (·.2)))))
theorem pB {H:Hp}:∀ {bs:List (Addr × List Key × V)} {ws:List (Value × Value)},VV (bs.map fun b=>(V.ref b.1,b.2.2)) ws→(∀ b∈bs,H b.1=some (.tup (b.2.1.map kV)))→∃ xs:List (List Key × Addr × Value),ws=xs.map (fun x=>(Value.ref x.2.1,x.2.2))∧KT H (bs.map (·.2)) xs
  | [],_,r,_=>by rw [abn] at r;cases r;exact ⟨[],rfl,.nil⟩
  | (a,k,v) :: bs,_,r,hk=>by
    rw [aad] at r;cases r with
    | @cons x y as cs h t =>
      obtain ⟨xs,e,q⟩:=pB t (fun b hb=>hk b (aak _ hb));obtain ⟨y1,y2⟩:=y;obtain ⟨h1,h2⟩:=h;have e1:y1=Value.ref a:=h1;subst e1;refine ⟨(k,a,y2) :: xs,by rw [e];rfl,.cons ⟨rfl,hk _ (aaq ..),h2⟩ q⟩
theorem jB {X:Cx} {pos:Pos} {keys:List (Option Expr)} {values:List Expr} {trs:List (TE × TE)} (hu:X.A.units+1 < cLine) (h:PPs X pos keys values trs) (hall:keys.all (·.isSome)=true:=by rfl) (hl:keys.length=values.length:=by rfl) (h0:keys≠[]:=by simp)
    (h15:keys.length≤15:=by decide):PE X (.Dict keys values pos) (qL trs):=by
  intro pins s σ H Q I q;have hn:=I.hok.fresh (aah s.heap.objs.size);have I1:=I.laid (a:=s.heap.objs.size) (o:=.dT []) (h':=s.heap.push { cls:=.type "dict",data:=.dict #[] }) (t':=s.toks) (fun _ _ q=>aaf _ q) (aah _) (j_ s.heap I.big);have hr:(tupleKind (av X.prog X.w)).room X.A:=by show X.A.units < cLine;lia
  refine nR (knd:=tupleKind (av X.prog X.w)) hr hall hl h0 h15 (thn (h pins _ σ _ _ I1 (q _ hn)) fun ws s2 ⟨ps,H2,I2,rel,e,bs,ep,hk,lk,q2⟩=>?_);subst ep;obtain ⟨xs,ew,rk⟩:=pB rel hk;obtain ⟨z,hd,vs0,r0,dd⟩:=h7 I2.hok e;cases r0;have lx:=aar rk;rw [aab] at lx;refine ⟨xs,ew,by lia,fun x hx=>?_,dd,fun h' t' dd' hs=>⟨.ref s.heap.objs.size,_,?_,rfl,q2⟩⟩
  · have all:∀ {l:List (List Key × V)} {m:List (List Key × Addr × Value)},KT H2 l m→∀ x∈m,(tupleKind (av X.prog X.w)).is s2.heap x.1 x.2.1:=by
      intro l m q
      induction q with
      | nil=>intro x hx;exact nomatch hx
      | @cons p q ps qs hq t ih =>
        intro x hx;rcases aai.mp hx with e|hx
        · subst e;exact fz I2.hok (by rw [← hq.1];exact hq.2.1)
        · exact ih x hx
    exact all rk x hx
  · have hz:(bD [] (bs.map (·.2))).length≤sizeLine:=by
      have h1:=eg (bs.map (·.2)) [];rw [abR,aab] at h1;rw [sizeLine_eq];lia
    obtain ⟨q1,es,ep,hq,h2,h3,h4,_,h5⟩:=dd';refine eU (ob:=.dT (bD [] (bs.map (·.2)))) I2 (by rw [e];exact True.intro) hs ⟨q1,hq⟩ ⟨hz,hd,_,(KT.merge rk .nil).keeps fun c ys ec=>?_,q1,es,ep,hq,h2,h3,h4,h5⟩;rw [ak (oI ec e (fun z=>nomatch z))];exact ec
open PySem PySem.Spec PyProof.Rows
theorem Inv.retype {X:Cx} {pins:List (Addr × Obj)} {σ:St} {H:Hp} {s:Shared} {a:Addr} {u u':HO} (I:Inv X pins σ H s) (e:H a=some u) (n1:∀ xs,u≠.tup xs) (n2:∀ ps,u≠.tbl ps) (n3:∀ y,u≠.own y) (hf:∀ o v,X.H₀ a≠some (.frz o v))
    (new:ObjOk X.prog X.w H s.heap a u'):Inv X pins σ (upd H a u') s:=by
  have nt:∀ c xs,H c=some (.tup xs)→c≠a:=fun c xs q z=>by rw [z,e] at q;injection q with q;exact n1 _ q
  have no:∀ c y,H c=some (.own y)→c≠a:=fun c y q z=>by rw [z,e] at q;injection q with q;exact n3 _ q
  have nn:∀ c,H c=none→c≠a:=fun c q z=>by rw [z,e] at q;cases q
  refine ⟨I.ok,I.os,I.bare,⟨I.base.keep,I.base.slot,fun b ob q n hx=>?_,I.base.there,fun b xs q=>?_,fun b ob xs q=>?_,fun b ps q=>?_⟩,I.loc,I.cell,?_,fun x c q=>?_,fun p hp=>?_,fun b v q=>?_,I.len⟩
  · have z:=I.base.free b ob q n hx;rw [ak (nn b z)];exact z
  · have z:=I.base.tups b xs q;rw [ak (nt b xs z)];exact z
  · have z:=I.base.frzs b ob xs q;have nb:b≠a:=fun y=>hf ob xs (by rw [← y];exact q);rw [ak nb];exact z
  · obtain ⟨m,z⟩:=I.base.tbls b ps q;have nb:b≠a:=fun y=>by rw [y,e] at z;injection z with z;exact n2 _ z
    exact ⟨m,by rw [ak nb];exact z⟩
  · rw [ak (nn _ I.free)];exact I.free
  · rw [ak (nn _ (I.freeC x c q))];exact I.freeC x c q
  · obtain ⟨h1,h2,h3⟩:=I.pin p hp;exact ⟨h1,by rw [ak (nn _ h2)];exact h2,h3⟩
  · by_cases hb:b=a
    · subst hb;rw [ad] at q;cases q;exact new.stay (fun c v _ q=>q) (fun c q=>by rw [ak (no c _ q)];exact q) fun c xs q=>by rw [ak (nt c xs q)];exact q
    · rw [ak hb] at q;exact (I.hok b v q).stay (fun c v _ q=>q) (fun c q=>by rw [ak (no c _ q)];exact q) fun c xs q=>by rw [ak (nt c xs q)];exact q
def tR (t:TE):TE:=fun σ H Q=>∃ d kvs,H d=some (.dT kvs)∧∀ o,t σ (upd H d (.frz o (.dT kvs))) fun v H'=>H' d=some (.frz o (.dT kvs))∧Q v (upd H' d (.dT kvs))
theorem oy {X:Cx} {e:Expr} {t:TE} (he:PE X e t):PE X e (tR t):=by
  intro pins s σ H Q I h;obtain ⟨d,kvs,ed,h⟩:=h;have hf:∀ o v,X.H₀ d≠some (.frz o v):=fun o v q=>by
    have z:=I.base.frzs d o v q;rw [ed] at z;cases z
  obtain ⟨z,hd,xs,rel,o,es,ep,ho,c⟩:=(show ObjOk X.prog X.w H s.heap d (.dT kvs) from I.hok d _ ed)
  have I1:Inv X pins σ (upd H d (.frz o (.dT kvs))) s:=I.retype ed (fun _ z=>nomatch z) (fun _ z=>nomatch z) (fun _ z=>nomatch z) hf ⟨ho,I.hok d _ ed⟩;refine thn (he pins s σ _ _ I1 (h o)) fun u s1 ⟨v,H1,I2,r,e1,q⟩=>⟨v,upd H1 d (.dT kvs),?_,r,q⟩
  exact I2.retype e1 (fun _ z=>nomatch z) (fun _ z=>nomatch z) (fun _ z=>nomatch z) hf (show ObjOk X.prog X.w H1 s1.heap d (.frz o (.dT kvs)) from I2.hok d _ e1).2
section
variable {prog:Program} {w:World} {A:Around} {E:Value→Shared→Prop} {s:Shared}
theorem jW {d:Addr} {o:Obj} {es:Array DictEntry} {ep:Nat} {Q:Value→Shared→Prop} (hd:(d == sysModules)=false) (ho:s.heap.get? d=some o) (hc:o.ExactDict) (hdat:o.data=.dict es ep)
    (hQ:Q (.ref s.heap.objs.size) { s with heap:=s.heap.push { cls:=.type "dict_keyiterator",data:=.fields #[.ref d,.int 0 0,.int es.size 0,.int ep 0] } }) :
    wpAny (model prog w) A (pyIter (.ref d)) Q E s:=by
  have hT:s.TypeIs (.ref d) "dict":=⟨o,ho,hc.1⟩
  refine wpAny_pyIter_slot hT F.slot_dict_iter (wpAny_call_entry F.slot_dict_iter hT F.entry_dict_iter ?_ (F.args_dict_iter_1 _));unfold Builtin.«dict.__iter__»;refine wpAny_bind ?_;unfold Builtin.Dict.dictSlotNone;refine wpAny_bind (wpAny_notOrdered_dict hT ?_);show wpAny _ _ (pure (Value.ref d)) _ _ s;refine wpAny_pure ?_;show wpAny _ _ (abl d >>= _) _ _ s;unfold abl;rw [if_neg (by rw [hd];exact aae)];refine wpAny_bind (wpAny_pure ?_);refine wpAny_bind (wpAny_dictEntries ho hdat ?_);refine wpAny_bind (wpAny_dictEpoch ho hdat ?_);refine wpAny_bind (wpAny_newObj_type (wpAny_pure ⟨_,rfl,"dict_keyiterator",_,⟨_,aao _ rfl,rfl⟩,F.slot_dict_keyiterator_next.lookup,?_⟩));simpa [rawInt] using hQ
theorem jP {it d:Addr} {i n ep:Nat} {o:Obj} {es:Array DictEntry} {e:DictEntry} {Q:Option Value→Shared→Prop} (hit:s.heap.IsKeyIter it d i n ep) (hod:s.heap.get? d=some o) (hdd:o.data=.dict es ep) (hsz:es.size=n) (hx:es[i]?=some e)
    (hQ:∀ h',h'.IsKeyIter it d (i+1) n ep→aaU it s.heap h'→Q (some e.key) { s with heap:=h' }) :
    wpAny (model prog w) A (pyNext (.ref it)) Q E s:=by
  obtain ⟨oi,ho,hc,hd⟩:=id hit;unfold pyNext;refine wpAny_bind (wpAny_attempt (wpAny_callSpecial?_slot (name:=abg "__next__") hit.typeIs abq
    (wpAny_call_entry abq hit.typeIs F.entry_dict_keyiterator_next ?_ (F.args_dict_keyiterator_next_1 _))))
  refine wpAny_bind (wpAny_pure ?_);refine wpAny_bind ?_;refine wpAny_bind ?_
  first|refine wpAny_bind (wpAny_typeNameOfWhole_keyiter hit.typeIs (wpAny_pure ?_))|refine wpAny_bind (wpAny_typeNameOf_keyiter hit.typeIs (wpAny_pure ?_))
  refine wpAny_bind (wpAny_fieldsOf ho hd ?_);have hown:aba "dict_keyiterator" = false:=by decide
  simp only [hown,aaB,if_false];show wpAny _ _ (if (Value.ref d == Value.none)=true then _ else _) _ _ s;rw [if_neg (show ¬ ((Value.ref d == Value.none)=true) from aae)];refine wpAny_bind (wpAny_pure ?_);refine wpAny_bind (wpAny_dictEntries hod hdd ?_);rw [if_neg (by rw [hsz];simp)];refine wpAny_bind (wpAny_pure ?_);refine wpAny_bind (wpAny_dictEpoch hod hdd ?_);rw [if_neg (by simp)];refine wpAny_pure ?_;simp only [show ¬ ((i:Int) < 0) from by lia,if_false,abH,hx];refine wpAny_bind ?_
  first|refine wpAny_bind (wpAny_typeNameOfWhole_keyiter hit.typeIs (wpAny_pure ?_))|refine wpAny_bind (wpAny_typeNameOf_keyiter hit.typeIs (wpAny_pure ?_))
  refine wpAny_bind (wpAny_isOneOf_keyiter hit.typeIs ?_);show wpAny _ _ (setField (.ref it) 1 (rawInt ((i:Int)+1)) >>= _) _ _ s;refine wpAny_bind (wpAny_setField ho hd (by simp) ?_);have hit':(s.heap.update it (acA (·.setIfInBounds 1 (rawInt ((i:Int)+1))))).IsKeyIter it d (i+1) n ep :=
    ⟨_,aa9 _ ho (Obj.isFreed_of_fields (acf hd _)),(Obj.cls_mapFields ..).trans hc,by rw [acf hd];simp [rawInt]⟩
  refine wpAny_bind (wpAny_holding ?_);refine wpAny_bind (wpAny_isOneOf_keyiter (s:={ s with heap:=s.heap.update it (acA (·.setIfInBounds 1 (rawInt ((i:Int)+1)))) }) hit'.typeIs ?_);show wpAny _ _ (pure e.key) _ _ _;exact wpAny_pure (wpAny_pure ⟨_,rfl,wpAny_pure (hQ _ hit' (aaO ..))⟩)
theorem jQ {it d:Addr} {i n ep:Nat} {o:Obj} {es:Array DictEntry} {Q:Option Value→Shared→Prop} (hh:A.handled=none) (hit:s.heap.IsKeyIter it d i n ep) (hod:s.heap.get? d=some o) (hdd:o.data=.dict es ep) (hsz:es.size=n) (hge:es.size≤i)
    (hQ:∀ h',Heap.ExtBut it s.heap h'→Q none { s with heap:=h' }):wpAny (model prog w) A (pyNext (.ref it)) Q E s:=by
  obtain ⟨oi,ho,hc,hd⟩:=id hit;unfold pyNext;refine wpAny_bind (wpAny_attempt (wpAny_callSpecial?_slot (name:=abg "__next__") hit.typeIs abq
    (wpAny_call_entry abq hit.typeIs F.entry_dict_keyiterator_next ?_ (F.args_dict_keyiterator_next_1 _))))
  refine wpAny_bind (wpAny_pure ?_);refine wpAny_bind ?_;refine wpAny_bind ?_
  first|refine wpAny_bind (wpAny_typeNameOfWhole_keyiter hit.typeIs (wpAny_pure ?_))|refine wpAny_bind (wpAny_typeNameOf_keyiter hit.typeIs (wpAny_pure ?_))
  refine wpAny_bind (wpAny_fieldsOf ho hd ?_);have hown:aba "dict_keyiterator" = false:=by decide
  simp only [hown,aaB,if_false];show wpAny _ _ (if (Value.ref d == Value.none)=true then _ else _) _ _ s;rw [if_neg (show ¬ ((Value.ref d == Value.none)=true) from aae)];refine wpAny_bind (wpAny_pure ?_);refine wpAny_bind (wpAny_dictEntries hod hdd ?_);rw [if_neg (by rw [hsz];simp)];refine wpAny_bind (wpAny_pure ?_);refine wpAny_bind (wpAny_dictEpoch hod hdd ?_);rw [if_neg (by simp)];refine wpAny_pure ?_;simp only [show ¬ ((i:Int) < 0) from by lia,if_false,abH,Array.getElem?_eq_none hge];refine wpAny_bind ?_
  first|refine wpAny_bind (wpAny_typeNameOfWhole_keyiter hit.typeIs (wpAny_pure ?_))|refine wpAny_bind (wpAny_typeNameOf_keyiter hit.typeIs (wpAny_pure ?_))
  show wpAny _ _ (setField (.ref it) 0 .none >>= _) _ _ s;refine wpAny_bind (wpAny_setField ho hd (by simp) ?_);show wpAny _ _ (newExc (.type "StopIteration") [] >>= _) _ _ _;refine wpAny_bind ?_;simp only [newExc,newTuple];refine wpAny_bind (wpAny_newObj_type ?_ (by size_fits));refine wpAny_bind (m:=firstArgMember _ _) (wpAny_of_eq (a:=Value.none) (by first|rfl|(simp only [firstArgMember];rfl)) ?_);refine wpAny_newObj_type ?_ (by size_fits);simp only [raiseNew];refine wpAny_bind (wpAny_handled ?_);rw [show A.in1.handled=none from hh];refine wpAny_bind (wpAny_pure (wpAny_throw ?_));refine wpAny_bind (wpAny_isInstance (T:="StopIteration") (b:=true) ⟨_,aao _ rfl,rfl⟩ isSubtype_stop ?_);exact wpAny_pure (hQ _ (((aaO ..).extBut.push _).push _))
end
def Itk (d:Addr) (o:Obj) (kvs:List (List Key × V)):It :=
  ⟨fun i H=>H d=some (.frz o (.dT kvs))∧i < kvs.length,fun i H x H'=>∃ b,x=.ref b∧H'=H∧∀ kv,kvs[i]?=some kv→H b=some (.tup (kv.1.map kV)),fun i H=>H d=some (.frz o (.dT kvs))∧kvs.length≤i⟩
theorem Paired.nth {α β:Type} {R:α→β→Prop} {l:List α} {m:List β} (p:Paired R l m):∀ (i:Nat) (x:α) (y:β),l[i]?=some x→m[i]?=some y→R x y:=by
  induction p with
  | nil=>intro i x y h;cases h
  | cons r t ih =>
    intro i x y h h';cases i with
    | zero=>cases h;cases h';exact r
    | succ i=>exact ih i x y h h'
theorem kY {P:Program} {w:World} {H:Hp} {h:Heap} {d:Addr} {o:Obj} {es:Array DictEntry} {ep:Nat} {kvs:List (List Key × V)} (ok:HOk P w H h) (e:H d=some (.frz o (.dT kvs))) (hd:o.data=.dict es ep) :
    h.get? d=some o∧o.ExactDict∧(d == sysModules)=false∧es.size=kvs.length∧∃ xs,KT H kvs xs∧es.toList=xs.map (entryOfKey (tupleKind (av P w))):=by
  obtain ⟨ho,z,hs,xs,rel,o2,es2,ep2,ho2,c,dat,l,nd⟩:=(show ObjOk P w H h d (.frz o (.dT kvs)) from ok d _ e)
  rw [ho] at ho2;cases ho2;rw [hd] at dat;cases dat;exact ⟨ho,c,hs,by rw [size_of_entries l,← aar rel],xs,rel,l⟩
theorem mQ {P:Program} {w:World} {K:aaa} {tg:Expr} (d it:Addr) (o:Obj) (kvs:List (List Key × V)) (es:Array DictEntry) (ep:Nat) (hd:o.data=.dict es ep):Turn P w K tg (Itk d o kvs) [it] it (fun i h=>h.IsKeyIter it d i kvs.length ep) where
  mem:=by simp
  obj:=fun i h st b hb=>by
    have e:b=it:=by simpa using hb
    subst e;obtain ⟨o,e,c,d⟩:=st;exact ⟨o,e,fun v z=>by rw [d] at z;cases z⟩
  keep:=fun i h h' st k=>by
    obtain ⟨o,e,r⟩:=st;exact ⟨o,k it (by simp) o e,r⟩
  item:=by
    intro X hP hw hK hc i pins s σ H E I hf st hg;subst hP hw hK;obtain ⟨e,hlt⟩:=hg;obtain ⟨ho,_,_,hsz,xs,rel,l⟩:=kY I.hok e hd;obtain ⟨f0,f1,f2,f3,f4,f5⟩:=hf it (by simp);have lx:=aar rel;have hx:xs[i]?=some xs[i]:=aac (by lia);refine jP st ho hd hsz (e:=entryOfKey (tupleKind (av X.prog X.w)) xs[i]) (by rw [entry_at l i,hx];rfl) fun h' st' sb=>?_;have I1:Inv X pins σ H { s with heap:=h' }:=I.turned (t':=s.toks) (fun b o hb e=>(sb.2 b hb).trans e) f0 f1 f3 f4 f5;obtain ⟨oi,e1,c1,d1⟩:=id st';refine ⟨_,rfl,gz (s:={ s with heap:=h' }) e1 c1 d1 (by decide) ⟨.ref xs[i].2.1,H,I1,rfl,⟨_,rfl,rfl,fun kv hkv=>?_⟩,st',fun b hb=>(hf b hb).1⟩⟩;exact (Paired.nth rel i kv _ hkv hx).2.1
  done:=by
    intro X hP hw hK hc i pins s σ H E I hf st hg;subst hP hw hK;obtain ⟨e,hge⟩:=hg;obtain ⟨ho,_,_,hsz,xs,rel,l⟩:=kY I.hok e hd;obtain ⟨f0,f1,f2,f3,f4,f5⟩:=hf it (by simp);exact jQ (I.ok.hd hc) st ho hd hsz (by lia) fun h' eb=>⟨rfl,I.turned (t':=s.toks) (fun b o hb e=>eb b o hb e) f0 f1 f3 f4 f5⟩
  self:=fun _ _ _ _ _ st h=>wpAny_pyIter_keyiter st h
def sT (tl:TE):TI:=fun σ H R=>tl σ H fun x H1=>∃ d o kvs,x=.ref d∧H1 d=some (.frz o (.dT kvs))∧R (Itk d o kvs) H1
theorem ma {X:Cx} {tg l:Expr} {tl:TE} (hl:PE X l tl):PI X tg l (sT tl):=by
  intro pins s σ H R I h;refine thn (hl pins s σ H _ I h) fun v s1 ⟨x,H1,I1,r1,q1⟩=>?_;obtain ⟨d,o,kvs,e,hq,q⟩:=q1;subst e;cases r1;obtain ⟨ho,z,hs,xs,rel,o2,es,ep,ho2,c,dat,_⟩:=(show ObjOk X.prog X.w H1 s1.heap d (.frz o (.dT kvs)) from I1.hok d _ hq)
  rw [ho] at ho2;cases ho2;obtain ⟨_,_,_,hsz,_⟩:=kY I1.hok hq dat;refine jW hs ho c dat ?_;refine ⟨s1.heap.objs.size,[s1.heap.objs.size],_,_,H1,rfl,I1.kept (t':=s1.toks) fun b o e=>aaf _ e,mQ d _ o kvs es ep dat,⟨_,aao _ rfl,rfl,by rw [hsz];rfl⟩,fun b hb=>?_,q⟩;have e:b=s1.heap.objs.size:=by simpa using hb
  subst e;exact I1.fpOk (aah _) (I1.hok.fresh (aah _))
end L2
namespace L2
open PySem PySem.Spec PyProof.Rows PySem.W
section
variable {prog:Program} {w:World} {A:Around} {E:Value→Shared→Prop} {s:Shared}
theorem gR (d:Addr) (hd:(d == sysModules)=false) :
    MeetsIn prog w (Builtin.«dict.values» ⟨[.ref d],[]⟩) (fun _ R s=>s.TypeIs (.ref d) "dict" ∧
      R (.ok (.ret (.ref s.heap.objs.size))) { s with heap:=s.heap.push { cls:=.type "dict_values",data:=.fields #[.ref d] } }) :=
  .of_wp fun A R s ⟨hm,h⟩=>by
    refine wpAny_bind ?_;unfold Builtin.Dict.noArgs;refine wpAny_bind (wpAny_notOrdered_dict hm ?_);show wpAny _ _ (pure d) _ _ s;refine wpAny_pure ?_;show wpAny _ _ (abl d >>= _) _ _ s;unfold abl;rw [if_neg (by rw [hd];exact aae)];refine wpAny_bind (wpAny_pure ?_);exact wpAny_bind (wpAny_newObj_type (wpAny_pure ⟨_,rfl,h⟩))
theorem nF {v d:Addr} {o:Obj} {es:Array DictEntry} {ep:Nat} {Q:Value→Shared→Prop} (hv:s.heap.IsValuesView v d) (ho:s.heap.get? d=some o) (hdat:o.data=.dict es ep)
    (hQ:Q (.ref s.heap.objs.size) { s with heap:=s.heap.push { cls:=.type "dict_valueiterator",data:=.fields #[.ref d,.int 0 0,.int es.size 0,.int ep 0] } }) :
    wpAny (model prog w) A (pyIter (.ref v)) Q E s:=by
  obtain ⟨ov,hov,hcv,hdv⟩:=id hv;refine wpAny_pyIter_slot hv.typeIs F.slot_dict_values_iter (wpAny_call_entry F.slot_dict_values_iter hv.typeIs F.entry_dict_values_iter ?_ (F.args_dict_values_iter_1 _));unfold Builtin.«dict_values.__iter__»;refine wpAny_bind (wpAny_pure ?_);refine wpAny_bind ?_;unfold Builtin.Dict_items.dictOf;refine wpAny_bind (wpAny_field hov hdv (x:=.ref d) rfl (wpAny_pure ?_));refine wpAny_bind ?_;unfold Builtin.Dict_items.newIterator;refine wpAny_bind (wpAny_dictEntries ho hdat ?_);refine wpAny_bind (wpAny_dictEpoch ho hdat ?_);have hown:aba "dict_valueiterator" = false:=by decide
  simp only [hown,aaB,if_false];refine wpAny_newObj_type (wpAny_pure ⟨_,rfl,"dict_valueiterator",_,⟨_,aao _ rfl,rfl⟩,F.slot_dict_valueiterator_next.lookup,?_⟩);simpa [rawInt] using hQ
theorem oH {it d:Addr} {i n ep:Nat} {o:Obj} {es:Array DictEntry} {e:DictEntry} {Q:Option Value→Shared→Prop} (hit:s.heap.IsValIter it d i n ep) (hod:s.heap.get? d=some o) (hdd:o.data=.dict es ep) (hsz:es.size=n) (hx:es[i]?=some e)
    (hQ:∀ h',h'.IsValIter it d (i+1) n ep→aaU it s.heap h'→Q (some e.val) { s with heap:=h' }) :
    wpAny (model prog w) A (pyNext (.ref it)) Q E s:=by
  obtain ⟨oi,ho,hc,hd⟩:=id hit;unfold pyNext;refine wpAny_bind (wpAny_attempt (wpAny_callSpecial?_slot (name:=abg "__next__") hit.typeIs abm
    (wpAny_call_entry abm hit.typeIs ack ?_ (aci _))))
  refine wpAny_bind (wpAny_pure ?_);refine wpAny_bind ?_;refine wpAny_bind ?_
  first|refine wpAny_bind (wpAny_typeNameOfWhole_valiter hit.typeIs (wpAny_pure ?_))|refine wpAny_bind (wpAny_typeNameOf_valiter hit.typeIs (wpAny_pure ?_))
  refine wpAny_bind (wpAny_fieldsOf ho hd ?_);have hown:aba "dict_valueiterator" = false:=by decide
  simp only [hown,aaB,if_false];show wpAny _ _ (if (Value.ref d == Value.none)=true then _ else _) _ _ s;rw [if_neg (show ¬ ((Value.ref d == Value.none)=true) from aae)];refine wpAny_bind (wpAny_pure ?_);refine wpAny_bind (wpAny_dictEntries hod hdd ?_);rw [if_neg (by rw [hsz];simp)];refine wpAny_bind (wpAny_pure ?_);refine wpAny_bind (wpAny_dictEpoch hod hdd ?_);rw [if_neg (by simp)];refine wpAny_pure ?_;simp only [show ¬ ((i:Int) < 0) from by lia,if_false,abH,hx];refine wpAny_bind ?_
  first|refine wpAny_bind (wpAny_typeNameOfWhole_valiter hit.typeIs (wpAny_pure ?_))|refine wpAny_bind (wpAny_typeNameOf_valiter hit.typeIs (wpAny_pure ?_))
  refine wpAny_bind (wpAny_isOneOf_valiter hit.typeIs ?_);show wpAny _ _ (setField (.ref it) 1 (rawInt ((i:Int)+1)) >>= _) _ _ s;refine wpAny_bind (wpAny_setField ho hd (by simp) ?_);have hit':(s.heap.update it (acA (·.setIfInBounds 1 (rawInt ((i:Int)+1))))).IsValIter it d (i+1) n ep :=
    ⟨_,aa9 _ ho (Obj.isFreed_of_fields (acf hd _)),(Obj.cls_mapFields ..).trans hc,by rw [acf hd];simp [rawInt]⟩
  refine wpAny_bind (wpAny_holding ?_);refine wpAny_bind (wpAny_isOneOf_valiter (s:={ s with heap:=s.heap.update it (acA (·.setIfInBounds 1 (rawInt ((i:Int)+1)))) }) hit'.typeIs ?_);refine wpAny_bind (wpAny_isOneOf_valiter (s:={ s with heap:=s.heap.update it (acA (·.setIfInBounds 1 (rawInt ((i:Int)+1)))) }) hit'.typeIs ?_);show wpAny _ _ (pure e.val) _ _ _;exact wpAny_pure (wpAny_pure ⟨_,rfl,wpAny_pure (hQ _ hit' (aaO ..))⟩)
theorem nA {it d:Addr} {i n ep:Nat} {o:Obj} {es:Array DictEntry} {Q:Option Value→Shared→Prop} (hh:A.handled=none) (hit:s.heap.IsValIter it d i n ep) (hod:s.heap.get? d=some o) (hdd:o.data=.dict es ep) (hsz:es.size=n) (hge:es.size≤i)
    (hQ:∀ h',Heap.ExtBut it s.heap h'→Q none { s with heap:=h' }):wpAny (model prog w) A (pyNext (.ref it)) Q E s:=by
  obtain ⟨oi,ho,hc,hd⟩:=id hit;unfold pyNext;refine wpAny_bind (wpAny_attempt (wpAny_callSpecial?_slot (name:=abg "__next__") hit.typeIs abm
    (wpAny_call_entry abm hit.typeIs ack ?_ (aci _))))
  refine wpAny_bind (wpAny_pure ?_);refine wpAny_bind ?_;refine wpAny_bind ?_
  first|refine wpAny_bind (wpAny_typeNameOfWhole_valiter hit.typeIs (wpAny_pure ?_))|refine wpAny_bind (wpAny_typeNameOf_valiter hit.typeIs (wpAny_pure ?_))
  refine wpAny_bind (wpAny_fieldsOf ho hd ?_);have hown:aba "dict_valueiterator" = false:=by decide
  simp only [hown,aaB,if_false];show wpAny _ _ (if (Value.ref d == Value.none)=true then _ else _) _ _ s;rw [if_neg (show ¬ ((Value.ref d == Value.none)=true) from aae)];refine wpAny_bind (wpAny_pure ?_);refine wpAny_bind (wpAny_dictEntries hod hdd ?_);rw [if_neg (by rw [hsz];simp)];refine wpAny_bind (wpAny_pure ?_);refine wpAny_bind (wpAny_dictEpoch hod hdd ?_);rw [if_neg (by simp)];refine wpAny_pure ?_;simp only [show ¬ ((i:Int) < 0) from by lia,if_false,abH,Array.getElem?_eq_none hge];refine wpAny_bind ?_
  first|refine wpAny_bind (wpAny_typeNameOfWhole_valiter hit.typeIs (wpAny_pure ?_))|refine wpAny_bind (wpAny_typeNameOf_valiter hit.typeIs (wpAny_pure ?_))
  show wpAny _ _ (setField (.ref it) 0 .none >>= _) _ _ s;refine wpAny_bind (wpAny_setField ho hd (by simp) ?_);show wpAny _ _ (newExc (.type "StopIteration") [] >>= _) _ _ _;refine wpAny_bind ?_;simp only [newExc,newTuple];refine wpAny_bind (wpAny_newObj_type ?_ (by size_fits));refine wpAny_bind (m:=firstArgMember _ _) (wpAny_of_eq (a:=Value.none) (by first|rfl|(simp only [firstArgMember];rfl)) ?_);refine wpAny_newObj_type ?_ (by size_fits);simp only [raiseNew];refine wpAny_bind (wpAny_handled ?_);rw [show A.in1.handled=none from hh];refine wpAny_bind (wpAny_pure (wpAny_throw ?_));refine wpAny_bind (wpAny_isInstance (T:="StopIteration") (b:=true) ⟨_,aao _ rfl,rfl⟩ isSubtype_stop ?_);exact wpAny_pure (hQ _ (((aaO ..).extBut.push _).push _))
end
theorem lD {H:Hp} {P:Program} {w:World}:∀ {kvs:List (List Key × V)} {xs:List (List Key × Addr × Value)},KT H kvs xs→Vals (kvs.map (·.2)) (xs.map (fun x=>x.2.2))
  | _,_,.nil=>.nil
  | _,_,.cons r t=>.cons r.2.2 (lD (P:=P) (w:=w) t)
end L2
namespace L2
theorem u1 {a:Nat} (h:a+64 < PySem.cLine):a+1 < PySem.cLine:=by lia
open PySem PySem.Spec PyProof.Rows
section
variable {prog:Program} {w:World} {A:Around} {E:Value→Shared→Prop} {s:Shared}
end
open PySem PySem.Spec PyProof.Rows
open PySem PySem.Spec PyProof.Rows
def Its (z:Str):It :=
  ⟨fun i _=>i < z.cps.size,fun i H x H'=>H'=H∧∃ c,z.cps[i]?=some c∧x=.str ⟨#[c]⟩,fun i _=>z.cps.size≤i⟩
theorem nU {P:Program} {w:World} {K:aaa} {tg:Expr} (it:Addr) (z:Str) (t:Tok):Turn P w K tg (Its z) [it] it (fun i h=>h.IsStrIter it "str_ascii_iterator" z t i) where
  mem:=by simp
  obj:=fun i h st b hb=>by
    have e:b=it:=by simpa using hb
    subst e;obtain ⟨o,e,c,d⟩:=st;exact ⟨o,e,fun v z=>by rw [d] at z;cases z⟩
  keep:=fun i h h' st k=>by
    obtain ⟨o,e,r⟩:=st;exact ⟨o,k it (by simp) o e,r⟩
  item:=by
    intro X hP hw hK hc i pins s σ H E I hf st hg;subst hP hw hK;have hg:i < z.cps.size:=hg;obtain ⟨f0,f1,f2,f3,f4,f5⟩:=hf it (by simp);have hx:z.cps[i]?=some z.cps[i]:=by simp [hg]
    refine wpAny_pyNext_ascii_item st (c:=z.cps[i]) hx fun h' st' sb=>?_;have I1:Inv X pins σ H { s with heap:=h',toks:=s.toks+1 }:=I.turned (t':=s.toks+1) (fun b o hb e=>(sb.2 b hb).trans e) f0 f1 f3 f4 f5;obtain ⟨o,e,c,d⟩:=id st';exact ⟨_,rfl,gz (s:={ s with heap:=h',toks:=s.toks+1 }) e c d (by decide) ⟨.str ⟨#[z.cps[i]]⟩,H,I1,⟨_,rfl⟩,⟨rfl,_,hx,rfl⟩,st',fun b hb=>(hf b hb).1⟩⟩
  done:=by
    intro X hP hw hK hc i pins s σ H E I hf st hg;subst hP hw hK;have hg:z.cps.size≤i:=hg;obtain ⟨f0,f1,f2,f3,f4,f5⟩:=hf it (by simp);exact wpAny_pyNext_ascii_end (I.ok.hd hc) st (by simp [hg]) fun h' eb=>⟨rfl,I.turned (t':=s.toks) (fun b o hb e=>eb b o hb e) f0 f1 f3 f4 f5⟩
  self:=fun _ _ _ _ _ st h=>wpAny_pyIter_striter_ascii st h
def t8 (tl:TE):TI:=fun σ H R=>tl σ H fun x H1=>∃ z,x=.str z∧z.cps.all (· < 128)=true∧R (Its z) H1
theorem iB {X:Cx} {tg l:Expr} {tl:TE} (hl:PE X l tl):PI X tg l (t8 tl):=by
  intro pins s σ H R I h;refine thn (hl pins s σ H _ I h) fun v s1 ⟨x,H1,I1,r1,q1⟩=>?_;obtain ⟨z,e,ha,q⟩:=q1;subst e;obtain ⟨t,rfl⟩:=r1;refine wpAny_pyIter_ascii ha ?_;refine ⟨s1.heap.objs.size,[s1.heap.objs.size],_,_,H1,rfl,I1.kept (t':=s1.toks) fun b o e=>aaf _ e,nU _ z t,⟨_,aao _ rfl,rfl,rfl⟩,fun b hb=>?_,q⟩;have e:b=s1.heap.objs.size:=by simpa using hb
  subst e;exact I1.fpOk (aah _) (I1.hok.fresh (aah _))
def tT (t u:TS):TS:=fun D σ H=>∃ J:St→Hp→Prop,t { D with nx:=J } σ H∧∀ σ' H',J σ' H'→u D σ' H'
theorem eK {X:Cx} {st:Stmt} {rest:List Stmt} {t u:TS} (h1:PS X st t) (h2:PSs X rest u):PSs X (st :: rest) (tT t u):=by
  intro pins s σ H D I h;obtain ⟨J,h,hJ⟩:=h;refine wpAny_execs_cons (thn (h1 pins s σ H { D with nx:=J } I h) fun f s1 q=>?_);cases f with
  | next =>
    obtain ⟨σ',H',I',q⟩:=q;exact h2 pins s1 σ' H' D I' (hJ σ' H' q)
  | ret v=>exact q
  | brk=>exact q
  | cont=>exact q
end L2
namespace PySem
open Sem (wp)
namespace F
end F
section
variable {prog:Program} {w:World} {A:Around} {E:Value→Shared→Prop} {h:Heap} {g:Array GenState} {d:Drawn} {t:Nat} {os:OsState} {a:Addr} {vs:Array Value}
end
end PySem
namespace L2
open PySem PySem.Spec PyProof.Rows
section
variable {prog:Program} {w:World} {A:Around} {E:Value→Shared→Prop} {s:Shared}
theorem dF:entryFor table "dict.update.loop" = some Builtin.«dict.update.loop»:=entryFor_of_tree (by kernel_rfl)
theorem dv:plainId "dict.update.loop" = true:=by decide +kernel
end
theorem Paired.app {α β:Type} {R:α→β→Prop} {a c:List α} {b d:List β} (h:Paired R a b) (k:Paired R c d):Paired R (a++c) (b++d):=by
  induction h with
  | nil=>exact k
  | cons x _ ih=>exact .cons x ih
open PySem PySem.Spec PyProof.Rows
theorem e8 {X:Cx} (hc:X.calm=true):bz X (.builtin "all") (fun xs H Q=>∃ (p:Addr) (bs:List Bool),xs=[.ref p]∧SqL X.K H p (bs.map V.bl)∧Q (.bl (bs.all id)) H):=by
  intro pins s σ H xs us Q I r h;obtain ⟨p,bs,rfl,hq,q⟩:=h;obtain ⟨u,rfl,rx⟩:=cn r;cases rx;obtain ⟨its,r',pl,hz⟩:=I.list hq;have hlen:=r'.length;rw [aab] at hlen;have hps:p < s.heap.objs.size:=by obtain ⟨o,n,ho,_⟩:=pl;exact aan ho
  refine call_all_walk (wpAny_pyIter_list pl.isList ?_);refine ⟨s.heap.objs.size,_,_,_,_,_,fun i=>bs.getD i true,rfl,Walks.list (A:=X.A.in1) (I.ok.hd hc) s.heap.objs.size p (aaz hps) its.toArray,⟨⟨_,aao _ rfl,rfl,rfl⟩,pl.isList.at fun o x=>aaf _ x⟩,?_,?_⟩
  · intro i v s' Q' E' hP hQ';have hv:its.toArray[i]?=some v:=hP;have hv2:its[i]?=some v:=by simpa using hv
    have hi:i < bs.length:=by
      have:=(aaK.mp hv2).1;lia
    have hb:(bs.map V.bl)[i]?=some (.bl bs[i]):=by rw [aap,aac hi];rfl
    obtain ⟨u,hu,ru⟩:=r'.get hb;rw [hv2] at hu;cases hu;cases ru;have e:bs.getD i true=bs[i]:=by rw [aaP,aac hi];rfl
    have hQ2:Q' (bs.getD i true) s':=hQ';rw [e] at hQ2;exact wpAny_pure hQ2
  · intro h' tk k;have I2:Inv X pins σ H { s with heap:=h',toks:=tk }:=by
      refine I.turnedL (fp:=[s.heap.objs.size]) (t':=tk) (fun b o hb x=>k b o (by simpa using hb) (aaf _ x)) fun b hb=>?_;have e:b=s.heap.objs.size:=by simpa using hb
      subst e;exact I.fpOk (aah _) (I.hok.fresh (aah _))
    have e:(abd its.toArray.size).all (fun i=>bs.getD i true)=bs.all id:=by
      have e1:its.toArray.size=bs.length:=by simp;lia
      rw [e1];apply Bool.eq_iff_iff.mpr;rw [aaR,aaR];constructor
      · intro hh b hb;obtain ⟨i,hi,e⟩:=List.getElem_of_mem hb;have:=hh i (aaH.mpr hi);rw [aaP,aac hi] at this;rw [← e];exact this
      · intro hh i hi;have hi:=aaH.mp hi;rw [aaP,aac hi];exact hh _ (abe hi)
    rw [e];exact ⟨.bl (bs.all id),H,I2,rfl,q⟩
open PySem PySem.Spec PyProof.Rows
theorem ki {prog:Program} {w:World} {A:Around} (hh:A.handled=none) (I d:Addr) (hne:d≠I) (o:Obj) (es:Array DictEntry) (ep:Nat) (hdd:o.data=.dict es ep) :
    Walks prog w A I [I,d] [I] es.size (fun i v=>∃ e,es[i]?=some e∧v=e.key) (fun i h=>h.IsKeyIter I d i es.size ep∧h.get? d=some o) where
  sub:=fun b hb=>by simp at hb;simp [hb]
  frame:=fun _ _ _ st hk=>⟨by obtain ⟨o,e,r⟩:=st.1;exact ⟨o,hk I (by simp) o e,r⟩,hk d (by simp) o st.2⟩
  item:=fun i s Q E hi st hQ=>by
    have hx:es[i]?=some es[i]:=ab2 hi;refine jP st.1 st.2 hdd rfl hx fun h' hit' hs'=>?_;exact hQ _ h' s.toks ⟨_,hx,rfl⟩ ⟨hit',(hs'.2 d hne).trans st.2⟩ fun b o hb e=>hs'.extBut b o (fun h=>hb (by simp [h])) e
  done:=fun s Q E st hQ=>jQ hh st.1 st.2 hdd rfl (aah _) fun h' he'=>hQ h' s.toks fun b o hb e=>he' b o (fun h=>hb (by simp [h])) e
  self:=fun _ _ _ _ st hQ=>wpAny_pyIter_keyiter st.1 hQ
theorem gY {prog:Program} {w:World} {d:Addr} {o:Obj} {es:Array DictEntry} {ep:Nat} (hs:(d == sysModules)=false) (hx:o.ExactDict) (hdd:o.data=.dict es ep):PySem.W.KdlSrc prog w "dict" d d es.size (fun i v=>∃ e,es[i]?=some e∧v=e.key) (fun h=>h.get? d=some o) where
  type:=fun _ hm=>⟨_,hm,hx.1⟩
  there:=fun _ hm=>⟨aan hm,aan hm⟩
  keep:=fun _ _ hm hk=>hk d (.inl rfl) o hm
  notList:=by decide
  notTuple:=by decide
  hint:=fun _ _ _ _ hm hq=>PySem.W.kdl_hint_dict ⟨_,hm,hx.1⟩ hq
  iter:=fun _ _ hh hm=>⟨_,_,(fun _ _ hq=>jW hs hm hx hdd hq),ki hh _ d (aaz (aan hm)) o es ep hdd,⟨⟨_,aao _ rfl,rfl,rfl⟩,aaf _ hm⟩⟩
open PySem PySem.Spec PyProof.Rows
theorem iX {elt tg iter tg2 iter2:Expr} {ifs ifs2:List Expr} {G:List Comprehension} {k:Nat} (hk:G[k]?=some ⟨tg,iter,ifs,0⟩) (hk2:G[k+1]?=some ⟨tg2,iter2,ifs2,0⟩) {scope:Scope} {pos:Pos} {it acc:Value} {env:Env} :
    compTurn (.ListComp elt G scope pos) k it acc env=(do
      standAt iter.pos
      match ← pyNext it with
      | none=>pure (.done .next)
      | some v =>
        letOwnedTupleGo tg it v
        assign tg env v
        let mut ok:=true
        for c in ifs do
          if ok then ok ← isTrue c env (eval c env)
        if ok then do
          let x ← eval iter2 env
          standAt iter2.pos
          let x ← foldedSetIterable iter2 env x
          let i ← holding [x] (pyIter x)
          let _ ← runOwn (.compStart (.ListComp elt G scope pos) (k+1) i acc env) env
          again (.compLoop (.ListComp elt G scope pos) k it acc env)
        else again (.compLoop (.ListComp elt G scope pos) k it acc env)):=by
  unfold compTurn;simp only [hk,hk2];rfl
theorem lj {prog:Program} {w:World} {A:Around} {R:Result→Shared→Prop} {s:Shared} {elt tg iter tg2 iter2:Expr} {ifs ifs2:List Expr} {G:List Comprehension} {k:Nat} (hk:G[k]?=some ⟨tg,iter,ifs,0⟩) (hk2:G[k+1]?=some ⟨tg2,iter2,ifs2,0⟩) {scope:Scope} {pos:Pos} {it acc:Value} {env:Env} (J:Nat→Shared→Prop) (hs2:∀ x,foldedSetIterable iter2 env x=pure x)
    (turn:∀ n s,J n s→wpAny (model prog w) A (pyNext it) (fun r s₁=>match r with
      | none=>R (.ok .next) s₁
      | some v=>wpAny (model prog w) A (letOwnedTupleGo tg it v) (fun _ s₁'=>wpAny (model prog w) A (assign tg env v) (fun _ s₂ =>
          wpAny (model prog w) A (forIn ifs true fun c r=>if r=true then do let ok ← isTrue c env (eval c env);pure (ForInStep.yield ok) else pure (ForInStep.yield r)) (fun ok s₃ =>
            if ok=true then wpAny (model prog w) A (eval iter2 env) (fun x s₄=>wpAny (model prog w) A (pyIter x) (fun it2 s₅ =>
              codeAny (model prog w) A (.compStart (.ListComp elt G scope pos) (k+1) it2 acc env) (fun r s₆=>match r with|.ok _=>∃ m,m < n∧J m s₆|.error _=>False) s₅) (fun _ _=>False) s₄) (fun _ _=>False) s₃
            else ∃ m,m < n∧J m s₃) (fun _ _=>False) s₂) (fun _ _=>False) s₁') (fun _ _=>False) s₁) (fun _ _=>False) s)
    (n:Nat) (h:J n s) :
    codeAny (model prog w) A (.compLoop (.ListComp elt G scope pos) k it acc env) R s:=by
  refine codeAny_loop rfl J (fun n s hI=>?_) n h;show wpAny _ A ((compTurn (.ListComp elt G scope pos) k it acc env).onRaise (fun x=>do noteFrame x env;theTreesLotGoes x)) _ _ s;refine wpAny_noted ?_;rw [iX hk hk2];refine wpAny_bind (wpAny_standAt (wpAny_bind (wpAny_mono (turn n s hI) (fun r s₁ h₁=>?_) fun _ _ h'=>h'.elim)));cases r with
  | none=>exact wpAny_pure h₁
  | some v =>
    refine wpAny_bind (wpAny_mono h₁ (fun _ s₁' h₁'=>?_) fun _ _ h'=>h'.elim);refine wpAny_bind (wpAny_mono h₁' (fun _ s₂ h₂=>wpAny_bind (wpAny_mono h₂ (fun ok s₃ h₃=>?_) fun _ _ h'=>h'.elim)) fun _ _ h'=>h'.elim);cases ok with
    | false=>exact wpAny_pure ⟨rfl,h₃⟩
    | true =>
      refine wpAny_bind (wpAny_mono h₃ (fun x s₄ h₄=>?_) fun _ _ h'=>h'.elim);refine wpAny_bind (wpAny_standAt (wpAny_bind (wpAny_of_eq (hs2 x) (wpAny_bind (wpAny_holding (wpAny_mono h₄ (fun it2 s₅ h₅=>?_) fun _ _ h'=>h'.elim))))));refine wpAny_bind (wpAny_runOwn (codeAny_mono h₅ fun r s₆ h₆=>?_));cases r with
      | ok f=>exact wpAny_pure ⟨rfl,h₆⟩
      | error e=>exact h₆.elim
theorem gC {prog:Program} {w:World} {A:Around} {R:Result→Shared→Prop} {s:Shared} {elt tg2 iter2:Expr} {ifs2:List Expr} {G:List Comprehension} {k:Nat} (hk:G[k]?=some ⟨tg2,iter2,ifs2,0⟩) {scope:Scope} {pos:Pos} {it acc:Value} {env:Env}
    (h0:codeAny (model prog w) A (.compLoop (.ListComp elt G scope pos) k it acc env) R s)
    (h:wpAny (model prog w) A (pyIter it) (fun it' s'=>codeAny (model prog w) A (.compLoop (.ListComp elt G scope pos) k it' acc env) R s')
      (notedBy (model prog w) A env fun x s'=>R (.error x) s') s) :
    codeAny (model prog w) A (.compStart (.ListComp elt G scope pos) k it acc env) R s:=by
  refine codeAny_of_tree ?_;show wpAny _ _ ((compStart (.ListComp elt G scope pos) k it acc env).onRaise (fun x=>do noteFrame x env;standAt theWindowsPlace)) _ _ s;refine wpAny_notedAt ?_;unfold compStart;rw [show (clausesOf (.ListComp elt G scope pos))[k]?=some ⟨tg2,iter2,ifs2,0⟩ from hk];show wpAny _ _ (ask >>= _) _ _ s;refine wpAny_bind (wpAny_askSetting (wpAny_ite ?_));split
  · first
      | exact wpAny_bind (wpAny_pure (wpAny_pure (And.intro rfl h0)))
      | exact wpAny_pure (And.intro rfl h0)
  · first
      | exact wpAny_bind (wpAny_rule (wpAny_bind (wpAny_standAt (wpAny_bind (wpAny_mono h (fun it' s' h'=>wpAny_pure (And.intro rfl h')) fun _ _ x=>x)))))
      | (refine wpAny_bind (wpAny_rule ?_);show wpAny _ _ (standAt iter2.pos >>= _) _ _ s;exact wpAny_bind (wpAny_standAt (wpAny_bind (wpAny_mono h (fun it' s' h'=>wpAny_pure (And.intro rfl h')) fun _ _ x=>x))))
structure PCl (Y:Cx) (c:Comprehension) (r:TI × TG × TT):Prop where
  as:c.is_async=0
  it:PI Y c.target c.iter r.1
  tg:PG Y c.target r.2.1
  fs:e_ Y c.ifs r.2.2
  st:∀ E x,foldedSetIterable c.iter E x=pure x
abbrev lC (g2:TG) (tt2:TT) (te:TE) (ys:List V) (σ2:St) (Fin:List V→St→Hp→Prop) (J2:It) (H4:Hp):Prop:=∃ W2:Nat→Nat→List V→St→Hp→Prop,(∃ m,W2 0 m ys σ2 H4)∧∀ i m ys σ H,W2 i m ys σ H →
  (J2.stop i H∧Fin ys σ H) ∨
  (J2.go i H∧ys.length < sizeLine∧∀ x H',J2.yld i H x H'→g2 x σ H' fun σ3 H5=>tt2 σ3 H5 fun b H6=>if b=true then te σ3 H6 fun v H7=>∃ m',m' < m∧W2 (i+1) m' (ys++[v]) σ3 H7 else ∃ m',m' < m∧W2 (i+1) m' ys σ3 H6)
abbrev LcT:List (TI × TG × TT)→TG→TT→TE→List V→St→(List V→St→Hp→Prop)→It→Hp→Prop
  | [],g,tt,te,ys,σ,Fn,J,H=>lC g tt te ys σ Fn J H
  | r :: rs,g,tt,te,ys,σ2,Fn,J2,H4=>∃ W2:Nat→Nat→List V→St→Hp→Prop,(∃ m,W2 0 m ys σ2 H4)∧∀ i m ys σ H,W2 i m ys σ H →
    (J2.stop i H∧Fn ys σ H) ∨
    (J2.go i H∧∀ x H',J2.yld i H x H'→g x σ H' fun σ3 H5=>tt σ3 H5 fun b H6=>if b=true then r.1 σ3 H6 (LcT rs r.2.1 r.2.2 te ys σ3 fun ys' σ' H7=>∃ m',m' < m∧W2 (i+1) m' ys' σ' H7) else ∃ m',m' < m∧W2 (i+1) m' ys σ3 H6)
def rO (Y:Cx) (D:Addr) (P:List (Addr × Obj)) (Fin:List V→St→Hp→Prop) (s:Shared):Prop:=∃ ys its k σ H,Inv Y (Lp D its k :: P) σ H s∧Vals ys its∧ys.length≤sizeLine∧Fin ys σ H
def qE (Y:Cx) (D:Addr) (elt:Expr) (te:TE) (G:List Comprehension) (scope:Scope) (pos:Pos) (rs:List (TI × TG × TT)) (c:Comprehension) (r:TI × TG × TT) (k:Nat):Prop :=
    ∀ (P:List (Addr × Obj)),(∀ p∈P,p.1≠D)→∀ {σ:St} {H:Hp} {s:Shared} {ys:List V} {its:List Value} {kk:Nat} {Fin:List V→St→Hp→Prop},Inv Y (Lp D its kk :: P) σ H s→Vals ys its→ys.length≤sizeLine →
      r.1 σ H (LcT rs r.2.1 r.2.2 te ys σ Fin) →
      wpAny (model Y.prog Y.w) Y.A (eval c.iter Y.env) (fun x s₄=>wpAny (model Y.prog Y.w) Y.A (pyIter x) (fun it2 s₅ =>
        codeAny (model Y.prog Y.w) Y.A (.compStart (.ListComp elt G scope pos) k it2 (.ref D) Y.env) (fun r s₆=>match r with|.ok _=>rO Y D P Fin s₆|.error _=>False) s₅) (fun _ _=>False) s₄) (fun _ _=>False) s
theorem o0 {Y:Cx} {τ:Type} {val:τ→St} {nx:St→τ} (hc:Y.calm=true) (hxe:Y.xe=fun _ _=>False) (hrs:∀ {pn:List (Addr × Obj)} {σ':St} {H':Hp} {s':Shared},Inv Y pn σ' H' s'→Inv Y pn (val (nx σ')) H' s')
    {D:Addr} (hDx:D∈Y.ex∨Y.s₀.heap.objs.size≤D) (hDc:∀ x c,Y.env.cells.lookup x=some c→c≠D) (hDp:∀ p∈Y.pn,p.1≠D)
    {elt tg iter tg2 iter2:Expr} {ifs ifs2:List Expr} {te:TE} {g:TG} {tt:TT} {G:List Comprehension} {scope:Scope} {pos:Pos} {k:Nat} {r2:TI × TG × TT} {rs:List (TI × TG × TT)} (hk:G[k]?=some ⟨tg,iter,ifs,0⟩) (hk2:G[k+1]?=some ⟨tg2,iter2,ifs2,0⟩) (hst:∀ x,foldedSetIterable iter2 Y.env x=pure x) (htg:PG Y tg g) (hfs:e_ Y ifs tt)
    {P:List (Addr × Obj)} (hP:∀ p∈P,p.1≠D) (inn:qE Y D elt te G scope pos rs ⟨tg2,iter2,ifs2,0⟩ r2 (k+1)) {it:Addr} {fp:List Addr} {tn:Nat→Heap→Prop} {J:It} (T:Turn Y.prog Y.w Y.K tg J fp it tn) (neD:∀ b∈fp,D≠b) (fpY:∀ {H':Hp} {n:Nat} {its:List Value},(∀ b∈fp,H' b=none)→∀ b∈fp,df Y (Lp D its n :: P) H' b)
    {R:Result→Shared→Prop} {Fin:List V→τ→Hp→Prop} (hR:∀ ys its k t H s,Inv Y (Lp D its k :: P) (val t) H s→Vals ys its→ys.length≤sizeLine→Fin ys t H→R (.ok .next) s)
    {W:Nat→Nat→List V→τ→Hp→Prop} (turn:∀ i m ys t H,W i m ys t H→(J.stop i H∧Fin ys t H) ∨
      (J.go i H∧∀ x H',J.yld i H x H'→g x (val t) H' fun σ3 H5=>tt σ3 H5 fun b H6=>if b=true then r2.1 σ3 H6 (LcT rs r2.2.1 r2.2.2 te ys σ3 fun ys' σ' H7=>∃ m',m' < m∧W (i+1) m' ys' (nx σ') H7) else ∃ m',m' < m∧W (i+1) m' ys (nx σ3) H6))
    {m0 kk:Nat} {ys:List V} {its:List Value} {t:τ} {H:Hp} {s:Shared} (I:Inv Y (Lp D its kk :: P) (val t) H s) (rv:Vals ys its) (hz:ys.length≤sizeLine) (st:tn 0 s.heap) (fr:∀ b∈fp,H b=none) (w0:W 0 m0 ys t H) :
    codeAny (model Y.prog Y.w) Y.A (.compLoop (.ListComp elt G scope pos) k (.ref it) (.ref D) Y.env) R s:=by
  have xe:∀ e s,Y.xe e s→False:=fun e s z=>by rw [hxe] at z;exact z
  refine lj hk hk2 (fun n s'=>∃ i ys its k t H',Inv Y (Lp D its k :: P) (val t) H' s'∧Vals ys its∧ys.length≤sizeLine∧tn i s'.heap∧(∀ b∈fp,H' b=none)∧W i n ys t H') hst ?_ m0 ⟨0,ys,its,kk,t,H,I,rv,hz,st,fr,w0⟩;rintro n s3 ⟨i,ys3,its3,k3,t3,H3,I3,rv3,hz3,st3,fr3,w3⟩;rcases turn i n ys3 t3 H3 w3 with ⟨stop,qn⟩|⟨go,step⟩
  · refine wpAny_mono (T.done Y rfl rfl rfl hc i _ s3 _ H3 (fun _ _=>False) I3 (fpY fr3) st3 stop) (fun r s4 ⟨hr,I4⟩=>?_) fun _ _ z=>z;subst hr;exact hR ys3 its3 k3 t3 H3 s4 I4 rv3 hz3 qn
  · refine wpAny_mono (T.item Y rfl rfl rfl hc i _ s3 _ H3 (fun _ _=>False) I3 (fpY fr3) st3 go) (fun r s4 ⟨u,hr,h4⟩=>?_) fun _ _ z=>z;subst hr;refine wpAny_mono h4 (fun _ s5 ⟨x,H5,I5,r5,y5,st5,fr5⟩=>?_) fun _ _ z=>z;have I5':=I5.pinned (fpY fr5) (T.obj _ _ st5);refine wpAny_mono (htg _ s5 _ H5 x u _ I5' r5 (step x H5 y5)) (fun _ s6 ⟨σ6,H6,I6,q6⟩=>?_) fun e s z=>(xe e s z).elim;refine wpAny_mono (hfs _ s6 σ6 H6 _ I6 q6) (fun ok s7 ⟨H7,I7,q7⟩=>?_) fun e s z=>(xe e s z).elim;have again:∀ {ys':List V} {its':List Value} {k':Nat} {σ':St} {H':Hp} {s':Shared},Inv Y (Lp D its' k' :: (P++bY fp s5.heap)) σ' H' s'→Vals ys' its'→ys'.length≤sizeLine→(∃ m',m' < n∧W (i+1) m' ys' (nx σ') H') →
        ∃ m,m < n∧∃ i ys its k t H',Inv Y (Lp D its k :: P) (val t) H' s'∧Vals ys its∧ys.length≤sizeLine∧tn i s'.heap∧(∀ b∈fp,H' b=none)∧W i m ys t H':=fun {ys' its' k' σ' H' s'} Z rv' hz' hw=>by
      obtain ⟨m',hm,w'⟩:=hw;have pn:∀ {b:Addr} {o:Obj},b∈fp→s5.heap.get? b=some o→_:=fun {b o} hb e=>Z.pin (b,o) (aat _ (aak _ (aat _ (dc hb e))));refine ⟨m',hm,i+1,ys',its',k',nx σ',H',hrs (Inv.unpinned (pl:=bY fp s5.heap) Z),rv',hz',T.keep _ _ _ st5 fun b hb o e=>(pn hb e).1,fun b hb=>?_,w'⟩;obtain ⟨o,e,d⟩:=T.obj _ _ st5 b hb;exact (pn hb e).2.1
    cases ok with
    | false =>
      rw [if_neg aae] at q7 ⊢;exact again I7 rv3 hz3 q7
    | true =>
      rw [if_pos rfl] at q7 ⊢;refine wpAny_mono (inn (P++bY fp s5.heap) (fun p hp=>?_) I7 rv3 hz3 q7) (fun x s8 h8=>wpAny_mono h8 (fun it2 s9 h9=>codeAny_mono h9 fun r s10 h10=>?_) fun _ _ z=>z) fun _ _ z=>z
      · rcases aax.mp hp with z|z
        · exact hP p z
        · exact abF (neD _ (ft z).1)
      · cases r with
        | error e=>exact h10.elim
        | ok f =>
          obtain ⟨ys',its',k',σ',H',Z,rv',hz',w'⟩:=h10;exact again Z rv' hz' w'
theorem oU {Y:Cx} (hc:Y.calm=true) (hxe:Y.xe=fun _ _=>False) {D:Addr} (hDx:D∈Y.ex∨Y.s₀.heap.objs.size≤D) (hDc:∀ x c,Y.env.cells.lookup x=some c→c≠D) (hDp:∀ p∈Y.pn,p.1≠D)
    {elt:Expr} {te:TE} {G:List Comprehension} {scope:Scope} {pos:Pos} (hbe:PE Y elt te) :
    ∀ (rs:List (TI × TG × TT)) (c:Comprehension) (r:TI × TG × TT) (k:Nat),G[k]?=some c→PCl Y c r→Paired (PCl Y) (G.drop (k+1)) rs →
    qE Y D elt te G scope pos rs c r k:=by
  intro rs;have xe:∀ e s,Y.xe e s→False:=fun e s z=>by rw [hxe] at z;exact z
  have fpx:∀ {fp:List Addr} {P:List (Addr × Obj)} {its:List Value} {kk:Nat} {H2:Hp},(∀ b∈fp,df Y (Lp D its kk :: P) H2 b)→(∀ b∈fp,D≠b)∧∀ {H':Hp} {n:Nat} {its':List Value},(∀ b∈fp,H' b=none)→∀ b∈fp,df Y (Lp D its' n :: P) H' b:=fun {fp P its kk H2} f2=>by
    have neD:∀ b∈fp,D≠b:=fun b hb=>(f2 b hb).2.2.2.2.2 (Lp D its kk) (aat _ aaq);refine ⟨neD,fun {H' n its'} hn b hb=>⟨hn b hb,(f2 b hb).2.1,(f2 b hb).2.2.1,(f2 b hb).2.2.2.1,(f2 b hb).2.2.2.2.1,fun p hp=>?_⟩⟩;rcases aax.mp hp with z|z
    · exact (f2 b hb).2.2.2.2.2 p (aaT _ z)
    · rcases aai.mp z with z|z
      · rw [z];exact neD b hb
      · exact (f2 b hb).2.2.2.2.2 p (aat _ (aak _ z))
  induction rs with
  | nil =>
    intro c r k hk hcl hG P hP σ H s ys its kk Fin I rv hz h;have hk2:G[k+1]?=none:=by
      have l:=aar hG;rw [acv] at l;exact aby (by simp at l;lia)
    obtain ⟨tg,iter,ifs,as⟩:=c;have as0:as=0:=hcl.as;subst as0;refine wpAny_mono (hcl.it _ s σ H _ I h) (fun v s1 h1=>wpAny_mono h1 (fun itv s2 h2=>?_) fun e s z=>(xe e s z).elim) fun e s z=>(xe e s z).elim;obtain ⟨it,fp,tn,J,H2,e,I2,T,st2,f2,W,⟨m0,w0⟩,turn⟩:=h2;subst e;have loop:=mv (τ:=St) (val:=fun z=>z) (nx:=fun z=>z) hc hxe (fun Z=>Z) hDx hDc hDp (scope:=scope) (pos:=pos) hbe hk hk2 hcl.tg hcl.fs hP T (fpx f2).1 (fpx f2).2 (R:=fun r s₆=>match r with|.ok _=>rO Y D P Fin s₆|.error _=>False) (fun ys its k t H s I4 rv hz fin=>⟨ys,its,k,t,H,I4,rv,hz,fin⟩) turn I2 rv hz st2 (fun b hb=>(f2 b hb).1) w0;exact gC hk loop (T.self _ 0 _ _ _ st2 loop)
  | cons r2 rs ih =>
    intro c r k hk hcl hG P hP σ H s ys its kk Fin I rv hz h;obtain ⟨c2,hk2,hcl2,hG2⟩:∃ c2,G[k+1]?=some c2∧PCl Y c2 r2∧Paired (PCl Y) (G.drop (k+1+1)) rs:=by
      cases e:G.drop (k+1) with
      | nil=>rw [e] at hG;cases hG
      | cons c2 l =>
        rw [e] at hG;have e1:G[k+1]?=some c2:=by
          have:=congrArg (·[0]?) e;simpa using this
        have e2:G.drop (k+1+1)=l:=by rw [← List.drop_drop,e];rfl
        cases hG with
        | cons a b=>exact ⟨c2,e1,a,by rw [e2];exact b⟩
    obtain ⟨tg,iter,ifs,as⟩:=c;have as0:as=0:=hcl.as;subst as0;obtain ⟨tg2,iter2,ifs2,as2⟩:=c2;have as20:as2=0:=hcl2.as;subst as20;refine wpAny_mono (hcl.it _ s σ H _ I h) (fun v s1 h1=>wpAny_mono h1 (fun itv s2 h2=>?_) fun e s z=>(xe e s z).elim) fun e s z=>(xe e s z).elim;obtain ⟨it,fp,tn,J,H2,e,I2,T,st2,f2,W,⟨m0,w0⟩,turn⟩:=h2;subst e;have loop:=o0 (τ:=St) (val:=fun z=>z) (nx:=fun z=>z) hc hxe (fun Z=>Z) hDx hDc hDp (scope:=scope) (pos:=pos) hk hk2 (hcl2.st _) hcl.tg hcl.fs hP (ih _ r2 (k+1) hk2 hcl2 hG2) T (fpx f2).1 (fpx f2).2 (R:=fun r s₆=>match r with|.ok _=>rO Y D P Fin s₆|.error _=>False) (fun ys its k t H s I4 rv hz fin=>⟨ys,its,k,t,H,I4,rv,hz,fin⟩) turn I2 rv hz st2 (fun b hb=>(f2 b hb).1) w0;exact gC hk loop (T.self _ 0 _ _ _ st2 loop)
abbrev mM (cap:List (Option Nat)) (g:TG) (tt:TT) (r2:TI × TG × TT) (rs:List (TI × TG × TT)) (te:TE) (σ:St) (Q:VK) (J:It) (H1:Hp):Prop:=∃ W:Nat→Nat→List V→Hp→Prop,(∃ m,W 0 m [] H1)∧∀ i m ys H,W i m ys H →
  (J.stop i H∧∀ p,H p=none→Q (.ref p) (upd H p (.lst ys))) ∨
  (J.go i H∧∀ x H',J.yld i H x H'→g x (bJ cap σ) H' fun σ2 H2=>tt σ2 H2 fun b H3=>if b=true then r2.1 σ2 H3 (LcT rs r2.2.1 r2.2.2 te ys σ2 fun ys' _ H4=>∃ m',m' < m∧W (i+1) m' ys' H4) else ∃ m',m' < m∧W (i+1) m' ys H3)
def tN (cap:List (Option Nat)) (wi:TI) (g:TG) (tt:TT) (r2:TI × TG × TT) (rs:List (TI × TG × TT)) (te:TE):TE:=fun σ H Q=>wi σ H (mM cap g tt r2 rs te σ Q)
section
variable {X:Cx}
theorem ow {elt tg iter:Expr} {ifs:List Expr} {G:List Comprehension} {r2:TI × TG × TT} {rs:List (TI × TG × TT)} {scope:Scope} {pos:Pos} {cl:List (Str × Addr)} {NY:List Str} {cap:List (Option Nat)} {wi:TI} {g:TG} {tt:TT} {te:TE} (hc:X.calm=true) (hi:PI X tg iter wi)
    (hclos:closureFor scope X.env=pure cl) (hci:CellsIn X.env cl) (hcap:CapOk X.env (relabel scope X.env) X.N NY cap)
    (hb:∀ fp s H C,PG (aL X scope cl NY fp s H C) tg g∧e_ (aL X scope cl NY fp s H C) ifs tt∧Paired (PCl (aL X scope cl NY fp s H C)) G (r2 :: rs)∧PE (aL X scope cl NY fp s H C) elt te)
    (hkind:scope.kind=.function:=by rfl) (hnc:(scope.names.all fun y=>y.2 != .cell)=true:=by rfl)
    (hnames:(scope.names.all fun y=>y.2 != .local || scope.names.lookup y.1 == some .local)=true:=by rfl)
    (hhas:((relabel scope X.env).names.all fun p=>(p.2 != .cell && p.2 != .free) || (cl.lookup p.1).isSome)=true:=by rfl)
    (hs:∀ x,foldedSetIterable iter X.env x=pure x:=by intro _;rfl) :
    PE X (.ListComp elt (⟨tg,iter,ifs,0⟩ :: G) scope pos) (tN cap wi g tt r2 rs te):=by
  intro pins s σ H Q I h;rw [eval_ListComp];refine wpAny_comprehension_free (use:=none) rfl hs hclos hkind (mL hnames) (wpAny_mono (hi pins s σ H _ I h) (fun v s1 h1=>wpAny_mono h1 (fun itv s2 h2=>?_) fun _ _ e=>e) fun _ _ e=>e);obtain ⟨it,fp,tn,J,H2,e,I2,T,st2,f2,W,⟨m0,w0⟩,turn⟩:=h2;subst e;refine wpAny_newObj_type (wpAny_newFunctionEnv (pE hnc) (by intro y hy;simp at hy) (fun h₁ hns₁ hsb₁=>?_) hkind);dsimp only at hns₁ hsb₁ ⊢;obtain ⟨hC,B,hD⟩:=I2.newC hci hkind hhas hns₁ fun b o hb e=>hsb₁.extBut b o hb (aaf _ e);generalize (s2.heap.push { cls:=.type "list",dict:=none,data:=.seq ([]:List Value).toArray }).objs.size=C at hC B ⊢;obtain ⟨hbg,hbt,hbG,hbe⟩:=hb fp s2 H2 C;obtain ⟨c2,G',eG,hcl2,hG'⟩:∃ c2 G',G=c2 :: G'∧PCl (aL X scope cl NY fp s2 H2 C) c2 r2∧Paired (PCl (aL X scope cl NY fp s2 H2 C)) G' rs:=by
    cases hbG with
    | cons a b=>exact ⟨_,_,rfl,a,b⟩
  obtain ⟨tg2,iter2,ifs2,as2⟩:=c2;have as20:as2=0:=hcl2.as;subst as20;have stW:=T.keep _ _ h₁ st2 fun b _ o e=>B.old b o e;have fpl:=T.lt st2;have hDc:=B.neD I2.cellLt (aah _) hD fun v z=>by cases z
  have loop:=o0 (τ:=Unit) (val:=fun _=>bJ cap σ) (nx:=fun _=>()) (Y:=aL X scope cl NY fp s2 H2 C) hc rfl (fun Z=>I2.recap f2 B hcap ee Z) (.inr (aah _)) hDc (fun p hp=>by cases hp) (elt:=elt) (te:=te) (G:=⟨tg,iter,ifs,0⟩ :: G) (scope:=scope) (pos:=pos) (k:=0) rfl (show (⟨tg,iter,ifs,0⟩ :: G:List Comprehension)[1]?=some ⟨tg2,iter2,ifs2,0⟩ by rw [eG];rfl) (hcl2.st _) hbg hbt (P:=[]) (fun p hp=>by cases hp)
    (oU (Y:=aL X scope cl NY fp s2 H2 C) hc rfl (.inr (aah _)) hDc (fun p hp=>by cases hp) hbe rs _ r2 1 (by rw [eG];rfl) hcl2 (by rw [eG];exact hG')) T
    (fun b hb=>abB (fpl b hb)) (fun hn=>I2.fps f2 fpl B (fun p hp=>by rw [aaI.mp hp];exact aah _) hn) (R:=compPost (model X.prog X.w) X.A X.xe none (EP X pins σ Q) (.ref s2.heap.objs.size) C) (fun ys its k _ H s I4 rv hz fin=>I2.lstEnd f2 (aah _) (abz hC) rfl I4 rv hz fin)
    (W:=fun i m ys _ H=>W i m ys H) (fun i m ys _ H=>turn i m ys H) (t:=()) (I2.blk f2 fpl B hcap ee (fun p hp=>by rw [aaI.mp hp];exact ⟨hD,aah _,aaz hC,fun v z=>by cases z⟩) (t':=s2.toks+([]:List (Str × Value)).length)) .nil (aaQ _) stW (fun b hb=>(f2 b hb).1) w0
  exact codeAny_compStart_list loop (T.self _ 0 _ _ _ stW loop)
end
abbrev qC (g2:TG) (tt2:TT) (te:TE) (ys:List V) (σ2:St) (Fin:List V→Hp→Prop) (J2:It) (H4:Hp):Prop:=lC g2 tt2 te ys σ2 (fun ys _ H=>Fin ys H) J2 H4
abbrev qD (cap:List (Option Nat)) (g:TG) (tt:TT) (wi2:TI) (g2:TG) (tt2:TT) (te:TE) (σ:St) (Q:VK) (J:It) (H1:Hp):Prop:=mM cap g tt (wi2,g2,tt2) [] te σ Q J H1
def tP (cap:List (Option Nat)) (wi:TI) (g:TG) (tt:TT) (wi2:TI) (g2:TG) (tt2:TT) (te:TE):TE:=fun σ H Q=>wi σ H (qD cap g tt wi2 g2 tt2 te σ Q)
abbrev tz (cap:List (Option Nat)) (g:TG) (tt:TT) (wi2:TI) (g2:TG) (tt2:TT) (wi3:TI) (g3:TG) (tt3:TT) (wi4:TI) (g4:TG) (tt4:TT) (te:TE) (σ:St) (Q:VK) (J:It) (H1:Hp):Prop:=mM cap g tt (wi2,g2,tt2) [(wi3,g3,tt3),(wi4,g4,tt4)] te σ Q J H1
def tO (cap:List (Option Nat)) (wi:TI) (g:TG) (tt:TT) (wi2:TI) (g2:TG) (tt2:TT) (wi3:TI) (g3:TG) (tt3:TT) (wi4:TI) (g4:TG) (tt4:TT) (te:TE):TE:=fun σ H Q=>wi σ H (tz cap g tt wi2 g2 tt2 wi3 g3 tt3 wi4 g4 tt4 te σ Q)
section
variable {X:Cx}
theorem qX {elt tg iter tg2 iter2:Expr} {ifs ifs2:List Expr} {scope:Scope} {pos:Pos} {cl:List (Str × Addr)} {NY:List Str} {cap:List (Option Nat)} {wi wi2:TI} {g g2:TG} {tt tt2:TT} {te:TE} (hc:X.calm=true) (hi:PI X tg iter wi)
    (hclos:closureFor scope X.env=pure cl) (hci:CellsIn X.env cl) (hcap:CapOk X.env (relabel scope X.env) X.N NY cap)
    (hb:∀ fp s H C,PG (aL X scope cl NY fp s H C) tg g∧e_ (aL X scope cl NY fp s H C) ifs tt∧PI (aL X scope cl NY fp s H C) tg2 iter2 wi2∧PG (aL X scope cl NY fp s H C) tg2 g2∧e_ (aL X scope cl NY fp s H C) ifs2 tt2∧PE (aL X scope cl NY fp s H C) elt te)
    (hkind:scope.kind=.function:=by rfl) (hnc:(scope.names.all fun y=>y.2 != .cell)=true:=by rfl)
    (hnames:(scope.names.all fun y=>y.2 != .local || scope.names.lookup y.1 == some .local)=true:=by rfl)
    (hhas:((relabel scope X.env).names.all fun p=>(p.2 != .cell && p.2 != .free) || (cl.lookup p.1).isSome)=true:=by rfl)
    (hs:∀ x,foldedSetIterable iter X.env x=pure x:=by intro _;rfl) (hs2:∀ E x,foldedSetIterable iter2 E x=pure x:=by intro _ _;rfl) :
    PE X (.ListComp elt [⟨tg,iter,ifs,0⟩,⟨tg2,iter2,ifs2,0⟩] scope pos) (tP cap wi g tt wi2 g2 tt2 te) :=
  ow (r2:=(wi2,g2,tt2)) (rs:=[]) hc hi hclos hci hcap (fun fp s H C=>by obtain ⟨hbg,hbt,i2,t2,f2,hbe⟩:=hb fp s H C;exact ⟨hbg,hbt,(.cons ⟨rfl,i2,t2,f2,hs2⟩ .nil),hbe⟩) hkind hnc hnames hhas hs
theorem qW {elt tg iter tg2 iter2 tg3 iter3 tg4 iter4:Expr} {ifs ifs2 ifs3 ifs4:List Expr} {scope:Scope} {pos:Pos} {cl:List (Str × Addr)} {NY:List Str} {cap:List (Option Nat)} {wi wi2 wi3 wi4:TI} {g g2 g3 g4:TG} {tt tt2 tt3 tt4:TT} {te:TE} (hc:X.calm=true) (hi:PI X tg iter wi)
    (hclos:closureFor scope X.env=pure cl) (hci:CellsIn X.env cl) (hcap:CapOk X.env (relabel scope X.env) X.N NY cap)
    (hb:∀ fp s H C,PG (aL X scope cl NY fp s H C) tg g∧e_ (aL X scope cl NY fp s H C) ifs tt∧PI (aL X scope cl NY fp s H C) tg2 iter2 wi2∧PG (aL X scope cl NY fp s H C) tg2 g2∧e_ (aL X scope cl NY fp s H C) ifs2 tt2∧PI (aL X scope cl NY fp s H C) tg3 iter3 wi3∧PG (aL X scope cl NY fp s H C) tg3 g3∧e_ (aL X scope cl NY fp s H C) ifs3 tt3∧PI (aL X scope cl NY fp s H C) tg4 iter4 wi4∧PG (aL X scope cl NY fp s H C) tg4 g4∧e_ (aL X scope cl NY fp s H C) ifs4 tt4∧PE (aL X scope cl NY fp s H C) elt te)
    (hkind:scope.kind=.function:=by rfl) (hnc:(scope.names.all fun y=>y.2 != .cell)=true:=by rfl)
    (hnames:(scope.names.all fun y=>y.2 != .local || scope.names.lookup y.1 == some .local)=true:=by rfl)
    (hhas:((relabel scope X.env).names.all fun p=>(p.2 != .cell && p.2 != .free) || (cl.lookup p.1).isSome)=true:=by rfl)
    (hs:∀ x,foldedSetIterable iter X.env x=pure x:=by intro _;rfl) (hs2:∀ E x,foldedSetIterable iter2 E x=pure x:=by intro _ _;rfl) (hs3:∀ E x,foldedSetIterable iter3 E x=pure x:=by intro _ _;rfl) (hs4:∀ E x,foldedSetIterable iter4 E x=pure x:=by intro _ _;rfl) :
    PE X (.ListComp elt [⟨tg,iter,ifs,0⟩,⟨tg2,iter2,ifs2,0⟩,⟨tg3,iter3,ifs3,0⟩,⟨tg4,iter4,ifs4,0⟩] scope pos) (tO cap wi g tt wi2 g2 tt2 wi3 g3 tt3 wi4 g4 tt4 te) :=
  ow (r2:=(wi2,g2,tt2)) (rs:=[(wi3,g3,tt3),(wi4,g4,tt4)]) hc hi hclos hci hcap (fun fp s H C=>by obtain ⟨hbg,hbt,i2,t2,f2,i3,t3,f3,i4,t4,f4,hbe⟩:=hb fp s H C;exact ⟨hbg,hbt,(.cons ⟨rfl,i2,t2,f2,hs2⟩ (.cons ⟨rfl,i3,t3,f3,hs3⟩ (.cons ⟨rfl,i4,t4,f4,hs4⟩ .nil))),hbe⟩) hkind hnc hnames hhas hs
end
open PySem PySem.Spec PyProof.Rows
section
variable {M:Model} {A:Around} {E:Value→Shared→Prop} {s:Shared}
structure Lft (l:List Env) (e:Addr) (x:List Addr) (h h':Heap):Prop where
  keep:∀ b o,b∉l.filterMap (·.frame)→b≠e→b∉x→h.get? b=some o→h'.get? b=some o
  slot:∀ b o,b∈l.filterMap (·.frame)→h.get? b=some o→∃ sl,h'.get? b=some { o with slots:=sl }
end
section
variable {P:Program} {w:World} {K:aaa} {mg:Str→Option Value} {base:Heap} {N:List Str} {qual:Str} {scope:Scope} {f:Addr} {cd:Value} {A:Around} {outer:List Env} {s0:Shared} {H0:Hp} {E:XK}
end
structure EC (K:aaa) (C:Addr):Prop where
  ex:∃ nm q N bs bm hdct sn sub ab col dd k0 k1 k2 k3 k5 B newId initId bmB mN,ExcBaseFacts B newId initId bmB∧bm.contains (.type "BaseException")=true∧mN ("__init__":Str)=none ∧
    ∀ h,K.In h→h.get? C=some (excClassObj nm q C N bs bm hdct sn sub ab col dd k0 k1 k2 k3 k5 newId)∧h.Ns N mN∧OwnTail h bmB bm
section
variable {X:Cx} {pins0 pins:List (Addr × Obj)} {Cat:St→Addr→Hp→Prop} {σ:St} {H:Hp} {s:Shared}
end
section
variable {M:Model} {A:Around} {E:Value→Shared→Prop} {s:Shared}
end
structure Und (K:aaa) (C P:Addr):Prop where
  ex:∃ nm q N bs bm hdct sn sub ab col dd k0 k1 k2 k3 k5 newId nm' q' N' bs' bm' hdct' sn' sub' ab' col' dd' k0' k1' k2' k3' k5' newId',(Value.ref C :: bm).contains (.ref P)=true∧bm'.contains (.type "BaseException")=true ∧
    ∀ h,K.In h→h.get? C=some (excClassObj nm q C N bs bm hdct sn sub ab col dd k0 k1 k2 k3 k5 newId)∧h.get? P=some (excClassObj nm' q' P N' bs' bm' hdct' sn' sub' ab' col' dd' k0' k1' k2' k3' k5' newId')
section
variable {X:Cx} {pins:List (Addr × Obj)} {σ:St} {H:Hp} {s:Shared}
end
section
variable {M:Model} {A:Around} {E:Value→Shared→Prop} {s:Shared}
end
section
variable {X:Cx} {pins:List (Addr × Obj)} {σ:St} {H:Hp} {s:Shared}
end
open PySem PySem.Spec PyProof.Rows
structure Lkp (M:Model) (h:Heap) (C:Addr):Prop where
  ga:acB M h (typeLookup (.ref C) "__getattribute__") (some (.builtin "BaseException.__getattribute__"))
  no:acB M h (typeLookup (.ref C) "__getattr__") none
  cls:acB M h (typeLookup (.ref C) "__class__") (some (.builtin "object.__class__"))
  be:acB M h (isSubtype (.ref C) (.type "BaseException")) true
  obj:acB M h (isSubtype (.ref C) (.type (".".intercalate ("object.__class__".cutAt '.').dropLast))) true
section
variable {prog:Program} {w:World} {A:Around} {E:Value→Shared→Prop} {h:Heap} {g:Array GenState} {d:Drawn} {t:Nat} {os:OsState} {a C:Addr} {o:Obj}
end
structure ExC (K:aaa) (C:Addr):Prop where
  lk:∀ (M:Model) (h:Heap),K.In h→Lkp M h C
  cl:(PySem.W.clsIn K C).isSome=true
  sl:∃ B,Slot B "__getattribute__" "BaseException.__getattribute__"
open PySem PySem.Spec PyProof.Rows
theorem dS:∀ {ns:List Int} {its:List Value},Vals (ns.map V.int) its→∃ ts:List (Int × Tok),its=ts.map (fun p=>Value.int p.1 p.2)∧ts.map (·.1)=ns
  | [],_,.nil=>⟨[],rfl,rfl⟩
  | i :: r,_,.cons h t=>by
    obtain ⟨k,rfl⟩:=(show ∃ k,_=Value.int i k from h)
    obtain ⟨ts,e1,e2⟩:=dS t;exact ⟨(i,k) :: ts,by rw [e1];rfl,by rw [aad,e2]⟩
open PySem PySem.Spec PyProof.Rows
open PySem PySem.Spec PyProof.Rows
section
variable {K:aaa} {C Pa N N':Addr} {nm nm' q q':Str} {bs bs' sub sub':List Value} {hdct hdct':Bool} {sn sn':List Str} {ab ab':Bool} {col col':Option Bool} {dd dd':Option Addr} {k0 k1 k2 k3 k5 k0' k1' k2' k3' k5' oc oc':Option Value}
  {c1 c2:Value} {od od':Option Addr} {es es':Array DictEntry} {n n':Nat} {sl sl':Array (Option Value)}
end
end L2
namespace L2
open PySem
open PySem PySem.Spec PyProof.Rows
open PySem PySem.Spec PyProof.Rows
section
variable {X:Cx}
end
open PySem PySem.Spec PyProof.Rows
section
variable {X:Cx}
theorem gn {ts:List (Int × Tok)} {j:Nat} (h:j < ts.length):numAt ts.toArray j=(ts[j]).1:=by
  unfold numAt;simp [h]
theorem mJ {ts:List (Int × Tok)} {k:Nat} {v:Value} (hk:k < ts.length) (hv:(intItems ts.toArray)[k]?=some v):∃ t,v=.int (numAt ts.toArray k) t:=by
  unfold intItems at hv;rw [gn hk];have e:((ts.toArray.map fun p=>Value.int p.1 p.2))[k]?=some (Value.int (ts[k]).1 (ts[k]).2):=by simp [hk]
  have hv':((ts.toArray.map fun p=>Value.int p.1 p.2))[k]?=some v:=hv;rw [e] at hv';exact ⟨_,(aas hv').symm⟩
theorem dL (hc:X.calm=true):bz X (.builtin "min") (fun xs H Q=>∃ (p:Addr) (ns:List Int),xs=[.ref p]∧SqL X.K H p (ns.map V.int)∧ns≠[]∧∀ m∈ns,(∀ x∈ns,m≤x)→Q (.int m) H):=by
  intro pins s σ H xs us Q I r h;obtain ⟨p,ns,rfl,hq,hne,q⟩:=h;obtain ⟨u,rfl,rx⟩:=cn r;cases rx;obtain ⟨its,r',pl,hz⟩:=I.list hq;obtain ⟨ts,e1,e2⟩:=dS r';subst e1;have el:(ts.map (fun p=>Value.int p.1 p.2)).toArray=intItems ts.toArray:=by unfold intItems;simp
  have hl:0 < ts.length:=by
    rw [← aab (f:=(·.1)),e2];exact acC.mpr hne
  refine min_intList (xs:=ts.toArray) (I.ok.hd hc) (by rw [← el];exact pl.isList) (by simpa using hl) fun v h' tk hv hk=>?_;have sz:ts.toArray.size=ts.length:=by simp
  rw [sz] at hv;obtain ⟨b1,b2⟩:=argBest_lt (numAt ts.toArray) (ts.length - 1);revert b1 b2 hv;generalize argBest (fun i j=>decide (numAt ts.toArray i < numAt ts.toArray j)) (ts.length - 1)=k;intro hv b1 b2;have kl:k < ts.length:=by lia
  obtain ⟨t,rfl⟩:=mJ kl hv;refine ⟨.int (numAt ts.toArray k),H,I.kept (t':=tk) hk,⟨t,rfl⟩,q _ ?_ fun x hx=>?_⟩
  · rw [gn kl,← e2];exact aal.mpr ⟨_,abe kl,rfl⟩
  · rw [← e2] at hx;obtain ⟨y,hy,rfl⟩:=aal.mp hx;obtain ⟨j,hj,rfl⟩:=List.getElem_of_mem hy;have:=b2 j (by lia);rw [gn hj] at this;exact this
theorem dO (hc:X.calm=true):bz X (.builtin "max") (fun xs H Q=>∃ (p:Addr) (ns:List Int),xs=[.ref p]∧SqL X.K H p (ns.map V.int)∧ns≠[]∧∀ m∈ns,(∀ x∈ns,x≤m)→Q (.int m) H):=by
  intro pins s σ H xs us Q I r h;obtain ⟨p,ns,rfl,hq,hne,q⟩:=h;obtain ⟨u,rfl,rx⟩:=cn r;cases rx;obtain ⟨its,r',pl,hz⟩:=I.list hq;obtain ⟨ts,e1,e2⟩:=dS r';subst e1;have el:(ts.map (fun p=>Value.int p.1 p.2)).toArray=intItems ts.toArray:=by unfold intItems;simp
  have hl:0 < ts.length:=by
    rw [← aab (f:=(·.1)),e2];exact acC.mpr hne
  refine max_intList (xs:=ts.toArray) (I.ok.hd hc) (by rw [← el];exact pl.isList) (by simpa using hl) fun v h' tk hv hk=>?_;have sz:ts.toArray.size=ts.length:=by simp
  rw [sz] at hv;obtain ⟨b1,b2⟩:=argBest_gt (numAt ts.toArray) (ts.length - 1);revert b1 b2 hv;generalize argBest (fun i j=>decide (numAt ts.toArray i > numAt ts.toArray j)) (ts.length - 1)=k;intro hv b1 b2;have kl:k < ts.length:=by lia
  obtain ⟨t,rfl⟩:=mJ kl hv;refine ⟨.int (numAt ts.toArray k),H,I.kept (t':=tk) hk,⟨t,rfl⟩,q _ ?_ fun x hx=>?_⟩
  · rw [gn kl,← e2];exact aal.mpr ⟨_,abe kl,rfl⟩
  · rw [← e2] at hx;obtain ⟨y,hy,rfl⟩:=aal.mp hx;obtain ⟨j,hj,rfl⟩:=List.getElem_of_mem hy;have:=b2 j (by lia);rw [gn hj] at this;exact this
end
open PySem PySem.Spec PyProof.Rows
section
variable {prog:Program} {w:World} {A:Around} {E:Value→Shared→Prop} {s:Shared} {I:Addr} {fp wr:List Addr} {G:Array GenState→Array GenState→Prop} {n:Nat} {P:Nat→Value→Prop} {St:Nat→Shared→Prop}
end
end L2
set_option maxHeartbeats 1000000
namespace L2
open PySem PySem.Spec PyProof.Rows
section
variable {X:Cx} {pos:Pos} {t u:TS}
end
open PySem PySem.Spec PyProof.Rows
section
variable {X:Cx}
end
open PySem PySem.Spec PyProof.Rows
section
variable {X:Cx}
end
end L2
namespace PySem
open Builtin Builtin.Str Builtin.Int
section
variable {prog:Program} {w:World} {A:Around} {E:Value→Shared→Prop} {s:Shared} {x:Str} {t:Tok} {Q:Value→Shared→Prop}
  {I:Addr} {fp wr:List Addr} {G:Array GenState→Array GenState→Prop} {n:Nat} {P:Nat→Value→Prop} {St:Nat→Shared→Prop}
end
end PySem
namespace L2
open PySem PySem.Spec PyProof.Rows
section
variable {X:Cx}
end
open PySem PySem.Spec PyProof.Rows
section
variable {X:Cx}
end
open PySem PySem.Spec PyProof.Rows
section
variable {X:Cx} {pins:List (Addr × Obj)} {σ:St} {H:Hp} {s:Shared} {A:Around} {Q:Value→Shared→Prop} {E:Value→Shared→Prop} {b:Bool}
theorem kW {x:V} {u t:Value} {tp:Addr} {dd:Option Addr} {its:List Value} {n₀:Nat} {sl:Array (Option Value)} (I:Inv X pins σ H s) (rx:RelV x u) (ty:TyOf X.K H x t) (htp:s.heap.get? tp=some ⟨.type "tuple",dd,.seq its.toArray n₀,sl⟩) (e:PySem.W.kitAny X.K t its=some b) (h:∀ tk,Q (.bool b) { s with toks:=tk }) :
    wpAny (model X.prog X.w) A (call (.builtin "isinstance") [u,.ref tp]) Q E s:=by
  cases ty with
  | non=>cases (show u=Value.none from rx);exact aa8 PySem.W.kitx_none I.kIn True.intro htp e (fun z=>nomatch z) h
  | bl y=>cases (show u=Value.bool y from rx);exact aa8 PySem.W.kitx_bool I.kIn True.intro htp e (fun z=>nomatch z) h
  | int i=>obtain ⟨t,q⟩:=(show ∃ t,u=Value.int i t from rx);cases q;exact aa8 PySem.W.kitx_int I.kIn True.intro htp e (fun z=>nomatch z) h
  | str y=>obtain ⟨t,q⟩:=(show ∃ t,u=Value.str y t from rx);cases q;exact aa8 PySem.W.kitx_str I.kIn True.intro htp e (fun z=>nomatch z) h
  | flt y=>obtain ⟨t,q⟩:=(show ∃ t,u=Value.float y t from rx);cases q;exact aa8 PySem.W.kitx_float I.kIn True.intro htp e (fun z=>nomatch z) h
  | @lst a xs ea =>
    cases (show u=Value.ref a from rx);obtain ⟨_,_,n,_,h1⟩:=(show ObjOk X.prog X.w H s.heap a (.lst xs) from I.hok a _ ea)
    exact aa8 acn I.kIn ⟨_,h1,rfl⟩ htp e (fun z=>nomatch z) h
  | @frz a ob xs ea =>
    cases (show u=Value.ref a from rx);obtain ⟨_,_,_,n,_,h1⟩:=(show ObjOk X.prog X.w H s.heap a (.frz ob (.lst xs)) from I.hok a _ ea)
    exact aa8 acn I.kIn ⟨_,h1,rfl⟩ htp e (fun z=>nomatch z) h
  | @tup a xs ea =>
    cases (show u=Value.ref a from rx);obtain ⟨_,_,_,p⟩:=(show ObjOk X.prog X.w H s.heap a (.tup xs) from I.hok a _ ea)
    obtain ⟨o,h1,h2,_⟩:=p;exact aa8 PySem.W.kitx_tuple I.kIn ⟨o,h1,h2⟩ htp e (fun z=>nomatch z) h
  | @dK a kvs ea =>
    cases (show u=Value.ref a from rx);obtain ⟨_,_,vs,_,p⟩:=(show ObjOk X.prog X.w H s.heap a (.dK kvs) from I.hok a _ ea)
    obtain ⟨o,es,ep,h1,h2,_⟩:=p;exact aa8 ab0 I.kIn ⟨o,h1,h2.1⟩ htp e (fun z=>nomatch z) h
  | @dT a kvs ea =>
    cases (show u=Value.ref a from rx);obtain ⟨_,_,xs,_,o,es,ep,h1,h2,_⟩:=(show ObjOk X.prog X.w H s.heap a (.dT kvs) from I.hok a _ ea)
    exact aa8 ab0 I.kIn ⟨o,h1,h2.1⟩ htp e (fun z=>nomatch z) h
  | @ins a C dx fs ea cl ha hn htk hm =>
    cases (show u=Value.ref a from rx);obtain ⟨mA,O,_⟩:=mq I.hok ea;obtain ⟨od,J,_⟩:=O.look;exact aa8 (PySem.W.kitx_own (cl.get _) cl.hd ha hn htk hm) I.kIn J htp e (fun z=>nomatch z) h
end
section
variable {X:Cx} {a b c d:Expr} {ta tb tc td:TE} {pos:Pos}
theorem lE:∀ (ns:List String) {its:List Value},Vals (ns.map V.ty) its→its=ns.map Value.type
  | [],_,.nil=>rfl
  | n :: ns,_,.cons h t=>by rw [show _=Value.type n from h,lE ns t];rfl
theorem eX {K:aaa} (hK:X.K=K):bz X (.builtin "isinstance") (fun xs H Q=>∃ (x:V) (tp:Addr) (t:Value) (ns:List String) (b:Bool),xs=[x,.ref tp]∧TyOf K H x t∧H tp=some (.tup (ns.map V.ty))∧PySem.W.kitAny K t (ns.map Value.type)=some b∧Q (.bl b) H):=by
  subst hK;intro pins s σ H xs us Q I r h;obtain ⟨x,tp,t,ns,b,rfl,ty,ht,hk,q⟩:=h;obtain ⟨u1,u2,rfl,r1,r2⟩:=ja r;cases r2;obtain ⟨_,its,rv,ot,g1,g2,k,g3⟩:=(show ObjOk X.prog X.w H s.heap tp (.tup (ns.map V.ty)) from I.hok tp _ ht)
  have eits:its=ns.map Value.type:=lE ns rv;subst eits;obtain ⟨oc,od,dat,sl⟩:=ot;cases (show oc=_ from g2);cases (show dat=_ from g3);exact kW I r1 ty g1 hk fun tk=>⟨.bl b,H,I.tok tk,rfl,q⟩
def pL (r r' r'':R2) (ta tb tc td:TE):TE:=fun σ H Q=>ta σ H fun x H1=>tb σ H1 fun y H2=>r x y H2 fun z H3=>∃ k,z=.bl k ∧
  (if k=true then tc σ H3 fun w' H4=>r' y w' H4 fun z' H5=>∃ k',z'=.bl k'∧(if k'=true then td σ H5 fun w'' H6=>r'' w' w'' H6 Q else Q (.bl false) H5) else Q (.bl false) H3)
end
section
variable {X:Cx}
end
open PySem PySem.Spec PyProof.Rows
section
variable {X:Cx} {o e:Expr} {es:List Expr} {to:TE} {t:TA} {name:Str} {apos cpos:Pos} {T id:String} {r:V→List V→Hp→VK→Prop} {K:aaa}
end
open PySem PySem.Spec PyProof.Rows
structure Trn (J:It) (n:Nat) (Kp:Hp→Prop) (item:Nat→V→Hp→Hp→Prop):Prop where
  go:∀ i H,i < n→Kp H→J.go i H
  stop:∀ H,Kp H→J.stop n H
  yld:∀ i H x H',i < n→Kp H→J.yld i H x H'→item i x H H'
theorem Trn.list {K:aaa} {a:Addr} {xs:List V}:Trn (Itl K a) xs.length (fun H=>SqL K H a xs) (fun i x H H'=>H'=H∧xs[i]?=some x) :=
  ⟨fun i H hi q=>⟨xs,xs[i],q,by simp [hi]⟩,fun H q=>⟨xs,q,aah _⟩,fun i H x H' hi q y=>⟨y.1,y.2 xs q⟩⟩
theorem Trn.tup {K:aaa} {a:Addr} {xs:List V}:Trn (Itt K a) xs.length (fun H=>SqT K H a xs) (fun i x H H'=>H'=H∧xs[i]?=some x) :=
  ⟨fun i H hi q=>⟨xs,xs[i],q,by simp [hi]⟩,fun H q=>⟨xs,q,aah _⟩,fun i H x H' hi q y=>⟨y.1,y.2 xs q⟩⟩
theorem Trn.range {lo:Int} {n:Nat}:Trn (Itr lo n) n (fun _=>True) (fun i x H H'=>H'=H∧x=.int (lo+i)) :=
  ⟨fun i H hi _=>hi,fun H _=>aah _,fun i H x H' hi _ y=>y⟩
theorem Trn.str {z:Str}:Trn (Its z) z.cps.size (fun _=>True) (fun i x H H'=>H'=H∧∃ c,z.cps[i]?=some c∧x=.str ⟨#[c]⟩) :=
  ⟨fun i H hi _=>hi,fun H _=>aah _,fun i H x H' hi _ y=>y⟩
theorem cN {J:It} {n:Nat} {Kp:Hp→Prop} {item:Nat→V→Hp→Hp→Prop} (T:Trn J n Kp item) {cap:List (Option Nat)} {g:TG} {tt:TT} {te:TE} {σ:St} {H:Hp} {Q:VK} (Pv:Nat→List V→Hp→Prop) (h0:Pv 0 [] H) (hk:∀ i ys H,i≤n→Pv i ys H→Kp H∧ys.length < sizeLine)
    (hs:∀ i x ys H H',i < n→item i x H H'→Pv i ys H→∀ Nx:List V→Hp→Prop,(∀ ys' H2,Pv (i+1) ys' H2→Nx ys' H2)→g x (bJ cap σ) H' fun σ2 H2=>tt σ2 H2 fun b H3=>if b=true then te σ2 H3 fun v H4=>Nx (ys++[v]) H4 else Nx ys H3)
    (hd:∀ ys H,Pv n ys H→∀ p,H p=none→Q (.ref p) (upd H p (.lst ys))):tE cap g tt te σ Q J H:=by
  refine ⟨fun i m ys H=>m=n - i∧i≤n∧Pv i ys H,⟨n,by simp,aaQ _,h0⟩,?_⟩;rintro i m ys H ⟨rfl,hi,p⟩;by_cases hlt:i < n
  · refine .inr ⟨T.go i H hlt (hk i ys H hi p).1,(hk i ys H hi p).2,fun x H' y=>?_⟩;exact hs i x ys H H' hlt (T.yld i H x H' hlt (hk i ys H hi p).1 y) p (fun ys' H4=>∃ m',m' < n - i∧m'=n - (i+1)∧i+1≤n∧Pv (i+1) ys' H4) fun ys' H2 h=>⟨_,by lia,rfl,hlt,h⟩
  · have e:i=n:=by lia
    subst e;exact .inl ⟨T.stop H (hk _ ys H hi p).1,hd ys H p⟩
theorem rn {J:It} {n:Nat} {Kp:Hp→Prop} {item:Nat→V→Hp→Hp→Prop} (T:Trn J n Kp item) {cap:List (Option Nat)} {g:TG} {tt:TT} {wi2:TI} {g2:TG} {tt2:TT} {te:TE} {σ:St} {H:Hp} {Q:VK} (Pv:Nat→List V→Hp→Prop) (h0:Pv 0 [] H) (hk:∀ i ys H,i≤n→Pv i ys H→Kp H)
    (hs:∀ i x ys H H',i < n→item i x H H'→Pv i ys H→∀ Nx:List V→Hp→Prop,(∀ ys' H2,Pv (i+1) ys' H2→Nx ys' H2)→g x (bJ cap σ) H' fun σ2 H2=>tt σ2 H2 fun b H3=>if b=true then wi2 σ2 H3 (qC g2 tt2 te ys σ2 Nx) else Nx ys H3)
    (hd:∀ ys H,Pv n ys H→∀ p,H p=none→Q (.ref p) (upd H p (.lst ys))):qD cap g tt wi2 g2 tt2 te σ Q J H:=by
  refine ⟨fun i m ys H=>m=n - i∧i≤n∧Pv i ys H,⟨n,by simp,aaQ _,h0⟩,?_⟩;rintro i m ys H ⟨rfl,hi,p⟩;by_cases hlt:i < n
  · refine .inr ⟨T.go i H hlt (hk i ys H hi p),fun x H' y=>?_⟩;exact hs i x ys H H' hlt (T.yld i H x H' hlt (hk i ys H hi p) y) p (fun ys' H4=>∃ m',m' < n - i∧m'=n - (i+1)∧i+1≤n∧Pv (i+1) ys' H4) fun ys' H2 h=>⟨_,by lia,rfl,hlt,h⟩
  · have e:i=n:=by lia
    subst e;exact .inl ⟨T.stop H (hk _ ys H hi p),hd ys H p⟩
theorem rl {J:It} {n:Nat} {Kp:Hp→Prop} {item:Nat→V→Hp→Hp→Prop} (T:Trn J n Kp item) {g2:TG} {tt2:TT} {te:TE} {ys:List V} {σ:St} {H:Hp} {Fin:List V→Hp→Prop} (Pv:Nat→List V→St→Hp→Prop) (h0:Pv 0 ys σ H) (hk:∀ i ys σ H,i≤n→Pv i ys σ H→Kp H∧ys.length < sizeLine)
    (hs:∀ i x ys σ H H',i < n→item i x H H'→Pv i ys σ H→∀ Nx:List V→St→Hp→Prop,(∀ ys' σ' H2,Pv (i+1) ys' σ' H2→Nx ys' σ' H2)→g2 x σ H' fun σ3 H5=>tt2 σ3 H5 fun b H6=>if b=true then te σ3 H6 fun v H7=>Nx (ys++[v]) σ3 H7 else Nx ys σ3 H6)
    (hd:∀ ys σ H,Pv n ys σ H→Fin ys H):qC g2 tt2 te ys σ Fin J H:=by
  refine ⟨fun i m ys σ H=>m=n - i∧i≤n∧Pv i ys σ H,⟨n,by simp,aaQ _,h0⟩,?_⟩;rintro i m ys σ H ⟨rfl,hi,p⟩;by_cases hlt:i < n
  · refine .inr ⟨T.go i H hlt (hk i ys σ H hi p).1,(hk i ys σ H hi p).2,fun x H' y=>?_⟩;exact hs i x ys σ H H' hlt (T.yld i H x H' hlt (hk i ys σ H hi p).1 y) p (fun ys' σ' H4=>∃ m',m' < n - i∧m'=n - (i+1)∧i+1≤n∧Pv (i+1) ys' σ' H4) fun ys' σ' H2 h=>⟨_,by lia,rfl,hlt,h⟩
  · have e:i=n:=by lia
    subst e;exact .inl ⟨T.stop H (hk _ ys σ H hi p).1,hd ys σ H p⟩
theorem ml {X:Cx} {K:aaa} (hK:X.K=K):IxR X (rIx K):=by subst hK;exact rE
open PySem PySem.Spec PyProof.Rows
open PySem PySem.Spec PyProof.Rows
section
variable {X:Cx}
end
open PySem PySem.Spec PyProof.Rows
section
variable {X:Cx} {a b c d e:Expr} {ta tb tc td te:TE} {pos:Pos}
end
end L2
namespace L2
open PySem PySem.Spec PyProof.Rows PySem.W
def cdO (c:Addr) (qual:Str):HO:=.ext fun h=>h.CodeRec (.ref c) qual
structure LTab (P:Addr) (qual:Str) (H:Hp) (ps:Array Value):Prop where
  tab:H P=some (.tbl ps)
  tri:TriplesOk ps.toList
  cds:∀ pos cv,codeAmong pos ps.toList=some cv→∃ c',cv=.ref c'∧H c'=some (cdO c' qual)
section
variable {X:Cx} {pins:List (Addr × Obj)} {σ:St} {H:Hp} {s:Shared}
end
section
variable {CX:CXT} {P:Program} {w:World} {K:aaa} {mg:Str→Option Value} {base:Heap} {k:Nat}
end
section
variable {X:Cx} {pins pl:List (Addr × Obj)} {σ:St} {H:Hp} {s:Shared}
end
section
variable {X:Cx}
end
end L2
namespace L2
open PySem PySem.Spec PyProof.Rows PySem.W
section
variable {X:Cx} {pins pl:List (Addr × Obj)} {σ:St} {H:Hp} {s:Shared}
end
section
variable {X:Cx}
end
end L2
namespace L2
open PySem PySem.Spec PyProof.Rows PySem.W
structure FunC (K:aaa) (x qual:Str) (st:Stmt) (f:Addr) (fd:FuncData) (c:Addr):Prop where
  ex:∃ (oc:Value) (od:Option Addr) (kV doc pm:Value) (an:Option Addr) (ct:Value) (osl:Array (Option Value)),
    fd=abo x qual (bR st) (bH st) (ao st) .none kV doc pm an (.ref c) ct∧K.lookup f=some ⟨oc,od,.func fd,osl⟩∧abL K (.ref c) qual=true
  kp:abk K (.ref f)=true
section
variable {P:Program} {w:World} {K:aaa} {mg:Str→Option Value} {base:Heap}
end
open PySem PySem.Spec PyProof.Rows
open PySem PySem.Spec PyProof.Rows
theorem qe {J:It} {n:Nat} {Kp:Hp→Prop} {item:Nat→V→Hp→Hp→Prop} (T:Trn J n Kp item) {g2:TG} {tt2:TT} {te:TE} {ys:List V} {σ:St} {H:Hp} {Fin:List V→St→Hp→Prop} (Pv:Nat→List V→St→Hp→Prop) (h0:Pv 0 ys σ H) (hk:∀ i ys σ H,i≤n→Pv i ys σ H→Kp H∧ys.length < sizeLine)
    (hs:∀ i x ys σ H H',i < n→item i x H H'→Pv i ys σ H→∀ Nx:List V→St→Hp→Prop,(∀ ys' σ' H2,Pv (i+1) ys' σ' H2→Nx ys' σ' H2)→g2 x σ H' fun σ3 H5=>tt2 σ3 H5 fun b H6=>if b=true then te σ3 H6 fun v H7=>Nx (ys++[v]) σ3 H7 else Nx ys σ3 H6)
    (hd:∀ ys σ H,Pv n ys σ H→Fin ys σ H):lC g2 tt2 te ys σ Fin J H:=by
  refine ⟨fun i m ys σ H=>m=n - i∧i≤n∧Pv i ys σ H,⟨n,by simp,aaQ _,h0⟩,?_⟩;rintro i m ys σ H ⟨rfl,hi,p⟩;by_cases hlt:i < n
  · refine .inr ⟨T.go i H hlt (hk i ys σ H hi p).1,(hk i ys σ H hi p).2,fun x H' y=>?_⟩;exact hs i x ys σ H H' hlt (T.yld i H x H' hlt (hk i ys σ H hi p).1 y) p (fun ys' σ' H4=>∃ m',m' < n - i∧m'=n - (i+1)∧i+1≤n∧Pv (i+1) ys' σ' H4) fun ys' σ' H2 h=>⟨_,by lia,rfl,hlt,h⟩
  · have e:i=n:=by lia
    subst e;exact .inl ⟨T.stop H (hk _ ys σ H hi p).1,hd ys σ H p⟩
open PySem PySem.Spec PyProof.Rows
open PySem PySem.Spec PyProof.Rows
section
variable {prog:Program} {w:World} {A:Around} {E:Value→Shared→Prop} {s:Shared}
end
def Ent (P:Program) (w:World) (d:Addr) (o:Obj) (u:HO) (n:Nat) (rw:Nat→V→V→Hp→Prop) (es:Array DictEntry) (ep:Nat):Prop :=
  o.data=.dict es ep∧es.size=n∧∀ H h,HOk P w H h→H d=some (.frz o u)→h.get? d=some o∧∀ i e,es[i]?=some e→∃ k y,RelV k e.key∧RelV y e.val∧rw i k y H
theorem dD {J:It} {n:Nat} {Kp:Hp→Prop} {item:Nat→V→Hp→Hp→Prop} (T:Trn J n Kp item) {g:TG} {tb:TS} {D:Ends} {σ:St} {H:Hp} (Pv:Nat→St→Hp→Prop) (h0:Pv 0 σ H) (hk:∀ i σ H,i≤n→Pv i σ H→Kp H)
    (hs:∀ i x σ H H',i < n→item i x H H'→Pv i σ H→g x σ H' fun σ2 H2=>tb { D with nx:=Pv (i+1),ct:=Pv (i+1),bk:=D.nx } σ2 H2) (hd:∀ σ H,Pv n σ H→D.nx σ H) :
    ∃ W:Nat→Nat→St→Hp→Prop,(∃ m,W 0 m σ H)∧∀ i m σ H,W i m σ H →
      (J.stop i H∧D.nx σ H)∨(J.go i H∧∃ N:St→Hp→Prop,(∀ σ' H',N σ' H'→∃ m',m' < m∧W (i+1) m' σ' H')∧∀ x H',J.yld i H x H'→g x σ H' fun σ2 H2=>tb { D with nx:=N,ct:=N,bk:=D.nx } σ2 H2):=by
  refine ⟨fun i m σ H=>m=n - i∧i≤n∧Pv i σ H,⟨n,by simp,aaQ _,h0⟩,?_⟩;rintro i m σ H ⟨rfl,hi,p⟩;have q:=hk i σ H hi p;by_cases hlt:i < n
  · exact .inr ⟨T.go i H hlt q,Pv (i+1),fun σ' H' p'=>⟨n - (i+1),by lia,rfl,hlt,p'⟩,fun x H' y=>hs i x σ H H' hlt (T.yld i H x H' hlt q y) p⟩
  · have e:i=n:=by lia
    subst e;exact .inl ⟨T.stop H q,hd σ H p⟩
def pF (H:Hp) (d:Addr):Prop:=∀ o v,H d≠some (.frz o v)
def rT (t:TE):TE:=fun σ H Q=>t σ H fun v H'=>∃ d o u,pF H d∧H' d=some (.frz o u)∧Q v (upd H' d u)
theorem pX {X:Cx} {e:Expr} {t:TE} (he:PE X e t):PE X e (rT t):=by
  intro pins s σ H Q I h;refine thn (he pins s σ _ _ I h) fun u s1 ⟨v,H1,I2,r,d,o,u',nf,e1,q⟩=>⟨v,upd H1 d u',?_,r,q⟩
  have hf:∀ o v,X.H₀ d≠some (.frz o v):=fun o v q=>nf _ _ (I.base.frzs d o v q);exact I2.retype e1 (fun _ z=>nomatch z) (fun _ z=>nomatch z) (fun _ z=>nomatch z) hf (show ObjOk X.prog X.w H1 s1.heap d (.frz o u') from I2.hok d _ e1).2
end L2
namespace PySem
open Sem (wp)
namespace F
theorem lk_list_keys:typeLookup (.type "list") "keys" = pure none:=by rw [typeLookup_type,builtinLookup_eq_fast];kernel_rfl
end F
section
variable {prog:Program} {w:World} {A:Around} {E:Value→Shared→Prop} {h:Heap} {g:Array GenState} {d:Drawn} {t:Nat} {os:OsState} {a:Addr} {xs:Array Value} {k:Nat}
theorem gw {Q:Option Value→Shared→Prop} (hh:A.handled=none) (hx:h.get? a=some { cls:=.type "list",dict:=none,data:=.seq xs k,slots:=#[] })
    (hQ:∀ h' t',(∀ b o,h.get? b=some o→h'.get? b=some o)→Q none ⟨h',g,d,t',os⟩) :
    wpAny (model prog w) A (getAttr? (.ref a) "keys") Q E ⟨h,g,d,t,os⟩:=by
  have hT:∀ tk',(⟨h,g,d,tk',os⟩:Shared).TypeIs (.ref a) "list":=fun _=>⟨_,hx,rfl⟩
  have f1:=sub_AttributeError;have f3:=F.slot_list_getattribute.lookup;have f4:=F.slot_list_getattribute.bind (.ref a);have f5:=am_list_getattr_none;unfold getAttr? getAttrBy?
  repeat (any_goals (first|assumption|exact hT _|((with_reducible show wpAny _ _ (call (Value.builtin "list.__getattribute__") _ _) _ _ _);refine call_meets F.slot_list_getattribute (hT _) am_entry_list_getattribute (F.args_list_getattribute_2 _ _) (meets_getattribute_miss_list a xs k #[] "keys" _ F.lk_list_keys (by decide +kernel)) ⟨hx,hh,fun h' tk' e hx'=>?_⟩)|wp_step))
  obtain ⟨t',u',he⟩:=hx'.there;show wpAny _ _ (getattributeRaised _ _ _ _ _ _ _) _ _ _;unfold getattributeRaised
  repeat (any_goals (first|assumption|wp_step))
  exact hQ h' tk' hx'.of.1
end
end PySem
namespace L2
open PySem PySem.Spec PyProof.Rows
section
variable {prog:Program} {w:World} {A:Around} {E:Value→Shared→Prop} {s:Shared}
theorem mO {it l d:Addr} {items:List Value} {Q:Value→Shared→Prop} (hh:A.handled=none) (hu:A.units+1 < cLine) (hdi:d≠it) (hli:l≠it) (hld:l≠d) (h₀:Heap) (xs:List (Addr × List Key × Addr × Value)) (hx:items=xs.map fun x=>.ref x.1) (hsz:xs.length≤1000)
    (hT:∀ x∈xs,x.1≠it∧x.1≠d∧x.2.2.1≠it∧x.2.2.1≠d∧IsTup h₀ x.1 #[.ref x.2.2.1,x.2.2.2]∧(tupleKind (av prog w)).is h₀ x.2.1 x.2.2.1)
    (hQ:∀ h' t',h'.DictOfH (tupleKind (av prog w)) d (a7 [] (xs.map (·.2)))→(∀ b o,b≠it→b≠d→h₀.get? b=some o→h'.get? b=some o)→Q .none { s with heap:=h',toks:=t' }) :
    ∀ (k i:Nat) (h:Heap) (t:Nat),k+i=xs.length→h.IsListIter it l i→h.IsList l items.toArray→h.DictOfH (tupleKind (av prog w)) d (a7 [] ((xs.map (·.2)).take i))→(∀ b o,b≠it→b≠d→h₀.get? b=some o→h.get? b=some o) →
      codeAny (model prog w) A (.builtin "dict.update.loop" ⟨[.ref d,.ref it,rawInt i,.none],[]⟩) (wants Q E) { s with heap:=h,toks:=t }:=by
  have hlen:items.length=xs.length:=by rw [hx,aab]
  have kis:∀ {h h':Heap} {ks:List Key} {a:Addr},(tupleKind (av prog w)).is h ks a→(∀ o,h.get? a=some o→h'.get? a=some o)→(tupleKind (av prog w)).is h' ks a:=fun {h h' ks a} z kp=>by
    obtain ⟨o,its,n,h1,h2⟩:=z;exact ⟨o,its,n,kp _ h1,h2⟩
  intro k
  induction k with
  | zero =>
    intro i h t hk hit hl hd kp;have hi:i=xs.length:=by lia
    refine codeAny_builtin dF ?_;rw [Around.under_plainId dv];unfold Builtin.«dict.update.loop»;show wpAny _ _ (pyNext (.ref it) >>= _) _ _ _;refine wpAny_bind (wpAny_pyNext_list_end (A:=A.in1) (s:={ s with heap:=h,toks:=t }) hh hit hl (by simp;lia) fun h' eb=>wpAny_bind (wpAny_pure (wpAny_pure (hQ h' t ?_ fun b o b2 b3 z=>eb b o b2 (kp b o b2 b3 z)))));rw [aaY (by simp;lia)] at hd;obtain ⟨o,es,ep,ho,h1,h2,h3,h4,h5⟩:=hd;have eb':∀ b o,b≠it→h.get? b=some o→h'.get? b=some o:=fun b o hb e=>eb b o hb e;refine ⟨o,es,ep,eb' _ _ hdi ho,h1,h2,h3,fun x hx'=>?_,h5⟩;have hm:∀ y∈a7 [] (xs.map (·.2)),∃ z∈xs,z.2.2.1=y.2.1:=by
      have key:∀ (more acc:List (List Key × Addr × Value)),(∀ y∈acc,∃ z∈xs,z.2.2.1=y.2.1)→(∀ y∈more,∃ z∈xs,z.2.2.1=y.2.1)→∀ y∈a7 acc more,∃ z∈xs,z.2.2.1=y.2.1:=by
        intro more
        induction more with
        | nil=>intro acc h1 _;exact h1
        | cons m r ih =>
          intro acc h1 h2;refine ih (storedH acc m.1 m.2.1 m.2.2) (fun y hy=>?_) fun y hy=>h2 y (aak _ hy);unfold storedH at hy;split at hy
          · obtain ⟨z,hz,rfl⟩:=aal.mp hy;obtain ⟨z',hz',e⟩:=h1 z hz;refine ⟨z',hz',?_⟩;unfold putAt;split <;> exact e
          · rcases aax.mp hy with hy|hy
            · exact h1 y hy
            · rw [aaI.mp hy];exact h2 m aaq
      refine key _ _ (fun y hy=>by simp at hy) fun y hy=>?_;obtain ⟨z,hz,rfl⟩:=aal.mp hy;exact ⟨z,hz,rfl⟩
    obtain ⟨z,hz,e⟩:=hm x hx';refine kis (h4 x hx') fun o e2=>eb' _ _ ?_ e2;rw [← e];exact (hT z hz).2.2.1
  | succ k ih =>
    intro i h t hk hit hl hd kp;have hlt:i < xs.length:=by lia
    have hxi:xs[i]?=some xs[i]:=aac hlt;have hii:items.toArray[i]?=some (.ref xs[i].1):=by rw [hx];simp [hlt]
    obtain ⟨n1,n2,n3,n4,hP,hK⟩:=hT xs[i] (abe hlt);refine codeAny_builtin dF ?_;rw [Around.under_plainId dv];unfold Builtin.«dict.update.loop»;show wpAny _ _ (pyNext (.ref it) >>= _) _ _ _;refine wpAny_bind (wpAny_pyNext_list_item (A:=A.in1) (s:={ s with heap:=h,toks:=t }) hit hl hii fun h' hit' sb=>?_);have sb:aaU it h h':=sb;refine wpAny_bind (wpAny_holding ?_);refine wpAny_bind (wpAny_tryCatch ?_);obtain ⟨oT,hoT,hcT,kT,hdT⟩:=hP;have hT':h'.get? xs[i].1=some oT:=(sb.2 _ n1).trans (kp _ _ n1 n2 hoT);unfold Builtin.Dict.pairItems;refine wpAny_bind (wpAny_typeOf (T:="tuple") ⟨_,hT',hcT⟩ ?_);rw [if_pos (by decide +kernel)];unfold seqItems?;refine wpAny_bind (wpAny_bind (wpAny_load hT' ?_));rw [hdT];refine wpAny_pure (wpAny_pure ?_);have hd':h'.DictOfH (tupleKind (av prog w)) d (a7 [] ((xs.map (·.2)).take i)):=by
      obtain ⟨o,es,ep,ho,h1,h2,h3,h4,h5⟩:=hd;refine ⟨o,es,ep,(sb.2 d hdi).trans ho,h1,h2,h3,fun x hx'=>?_,h5⟩;obtain ⟨o1,i1,n1,g1,g2⟩:=h4 x hx';by_cases c:x.2.1=it
      · obtain ⟨ol,hol,hcl,_⟩:=hit;rw [c,hol] at g1;cases g1;rw [g2.1] at hcl;exact absurd hcl (by decide)
      · exact ⟨o1,i1,n1,(sb.2 _ c).trans g1,g2⟩
    have hK':(tupleKind (av prog w)).is h' xs[i].2.1 xs[i].2.2.1:=kis hK fun o e=>(sb.2 _ n3).trans (kp _ _ n3 n4 e);refine wpAny_holding (wpAny_dictSet_heap (knd:=tupleKind (av prog w)) (s:={ s with heap:=h',toks:=t }) (k:=xs[i].2.1) (by show A.units+1 < cLine;lia) hK' hd' (fun h2 hd2 hs2=>wpAny_pure ⟨Code.quiet_builtin _ (by decide +kernel),?_⟩) ?_)
    · have hs2:aaU d h' h2:=hs2;have e2:(xs.map (·.2))[i]?=some xs[i].2:=by rw [aap,hxi];rfl
      rw [← iT [] (xs.map (·.2)) i _ e2] at hd2;refine ih (i+1) h2 _ (by lia) ?_ ?_ hd2 ?_
      · exact hit'.at fun o x=>(hs2.2 it (abF hdi)).trans x
      · exact hl.at fun o x=>(hs2.2 l hld).trans ((sb.2 l hli).trans x)
      · exact fun b o b2 b3 z=>(hs2.2 b b3).trans ((sb.2 b b2).trans (kp b o b2 b3 z))
    · have mlen:∀ (more acc:List (List Key × Addr × Value)),(a7 acc more).length≤acc.length+more.length:=by
        intro more
        induction more with
        | nil=>intro acc;exact aah _
        | cons m r ih =>
          intro acc;have a1:=ih (storedH acc m.1 m.2.1 m.2.2);have a2:=fD acc m.1 m.2.1 m.2.2;show (a7 (storedH acc m.1 m.2.1 m.2.2) r).length≤_;rw [aaN];lia
      have:=mlen ((xs.map (·.2)).take i) [];rw [aaJ,aab,abR] at this;have:=aB hsz;lia
theorem fM {l:Addr} {n:Nat} (xs:List (Addr × List Key × Addr × Value)) {Q:Value→Shared→Prop} (hh:A.handled=none) (hu:A.units+3 < cLine) (hl:s.heap.get? l=some { cls:=.type "list",dict:=none,data:=.seq (xs.map fun x=>Value.ref x.1).toArray n,slots:=#[] }) (hsz:xs.length≤1000)
    (hT:∀ x∈xs,IsTup s.heap x.1 #[.ref x.2.2.1,x.2.2.2]∧(tupleKind (av prog w)).is s.heap x.2.1 x.2.2.1)
    (h:∀ h' t',h'.DictOfH (tupleKind (av prog w)) s.heap.objs.size (a7 [] (xs.map (·.2)))→(∀ b o,s.heap.get? b=some o→h'.get? b=some o)→Q (.ref s.heap.objs.size) { s with heap:=h',toks:=t' }) :
    wpAny (model prog w) A (call (.type "dict") [.ref l]) Q E s:=by
  refine callType_codes (Q₁:=fun obj s₁=>obj=.ref s.heap.objs.size∧s₁={ s with heap:=s.heap.push { cls:=.type "dict",data:=.dict #[] } }) F.kt_called_dict (F.kt_typeCall_dict_1 _) F.entry_dict_init (kt_code_dict_new _ ⟨rfl,rfl⟩) ?_;rintro obj s₁ ⟨rfl,rfl⟩;have hnew:(s.heap.push { cls:=.type "dict",data:=.dict #[] }).DictOf (av prog w) s.heap.objs.size []:=Heap.DictOf.new s.heap;have kp:∀ b o,s.heap.get? b=some o→(s.heap.push { cls:=.type "dict",data:=.dict #[] }).get? b=some o:=fun b o q=>aaf _ q;have hll:l < s.heap.objs.size:=aan hl;have hl':=kp _ _ hl;refine ⟨hnew.typeIs,F.args_dict_init_2 _ _,?_⟩;unfold Builtin.«dict.__init__»;refine wpAny_bind ?_;unfold Builtin.Dict.selfAndRest;refine wpAny_bind (wpAny_notOrdered_dict hnew.typeIs ?_);show wpAny _ _ (pure (s.heap.objs.size,[Value.ref l])) _ _ _;refine wpAny_pure ?_;show wpAny _ _ (abI "dict.__init__" s.heap.objs.size (.ref l) [] .none) _ _ _;unfold abI;refine wpAny_bind (wpAny_typeOf (T:="list") ⟨_,hl',rfl⟩ ?_);rw [if_pos (by decide +kernel)];refine wpAny_bind (gw (A:=A.in1.in1) hh hl' fun h1 t1 k1=>?_);rw [if_pos (by rfl)];refine wpAny_bind (wpAny_rule ?_);have hl1:=k1 _ _ hl';have iL:h1.IsList l (xs.map fun x=>Value.ref x.1).toArray:=⟨_,hl1,rfl,_,rfl⟩
  refine wpAny_bind (wpAny_pyIter_list (s:={ s with heap:=h1,toks:=t1 }) iL (wpAny_pure ⟨Code.quiet_builtin _ (by decide +kernel),?_⟩));have k2:∀ b o,s.heap.get? b=some o→h1.get? b=some o:=fun b o q=>k1 _ _ (kp _ _ q);have dlt:s.heap.objs.size < h1.objs.size:=aan (k1 _ _ (aao _ rfl));have lt1:∀ b,b < s.heap.objs.size→b≠h1.objs.size∧b≠s.heap.objs.size:=fun b hb=>⟨aaz (acs hb dlt),aaz hb⟩
  refine mO (A:=A.in1) (s:={ s with heap:=h1,toks:=t1 }) (l:=l) (items:=xs.map fun x=>Value.ref x.1) (Q:=fun r s₂=>r=.none∧Q (.ref s.heap.objs.size) s₂) hh (by show A.units+1+1 < cLine;lia) (aaz dlt) (lt1 l hll).1 (lt1 l hll).2 s.heap xs rfl hsz (fun x hx=>?_) (fun h2 t2 hd2 kk=>⟨rfl,h h2 t2 hd2 fun b o q=>kk b o (lt1 b (aan q)).1 (lt1 b (aan q)).2 q⟩) xs.length 0 _ t1 (by lia) ⟨_,aao _ rfl,rfl,rfl⟩ (iL.at fun o x=>aaf _ x) ?_ fun b o _ _ q=>aaf _ (k2 _ _ q)
  · obtain ⟨hP,hK⟩:=hT x hx;have p1:x.1 < s.heap.objs.size:=by obtain ⟨o,e,_⟩:=hP;exact aan e
    have p2:x.2.2.1 < s.heap.objs.size:=by obtain ⟨o,_,_,e,_⟩:=hK;exact aan e
    exact ⟨(lt1 _ p1).1,(lt1 _ p1).2,(lt1 _ p2).1,(lt1 _ p2).2,hP,hK⟩
  · rw [List.take_zero];refine ⟨_,#[],0,aaf _ (k1 _ _ (aao _ rfl)),⟨rfl,rfl,rfl⟩,rfl,rfl,fun x hx=>by simp [a7] at hx,by simp [a7]⟩
end
abbrev PrT:=Addr × Addr × List Key × V
def kh (H:Hp) (b:PrT):Prop:=H b.1=some (.tup [.ref b.2.1,b.2.2.2])∧H b.2.1=some (.tup (b.2.2.1.map kV))
theorem pC {P:Program} {w:World} {H:Hp} {h:Heap} (ok:HOk P w H h):∀ {bs:List PrT} {ws:List Value},Vals (bs.map fun b=>V.ref b.1) ws→(∀ b∈bs,kh H b)→∃ xs:List (Addr × List Key × Addr × Value),ws=xs.map (fun x=>Value.ref x.1)∧KT H (bs.map (·.2.2)) (xs.map (·.2))∧∀ x∈xs,IsTup h x.1 #[.ref x.2.2.1,x.2.2.2]∧(tupleKind (av P w)).is h x.2.1 x.2.2.1
  | [],_,r,_=>by rw [abn] at r;cases r;exact ⟨[],rfl,.nil,fun x hx=>nomatch hx⟩
  | b :: bs,_,r,hk=>by
    rw [aad] at r;cases r with
    | @cons x y as cs h1 t =>
      obtain ⟨xs,e,q,al⟩:=pC ok t (fun b hb=>hk b (aak _ hb));obtain ⟨k1,k2⟩:=hk b aaq;have e1:y=Value.ref b.1:=h1;subst e1;obtain ⟨_,its,rv,pt⟩:=(show ObjOk P w H h b.1 (.tup [.ref b.2.1,b.2.2.2]) from ok _ _ k1)
      obtain ⟨u1,u2,rfl,r1,r2⟩:=ja rv;have r1:u1=Value.ref b.2.1:=r1;subst r1;refine ⟨(b.1,b.2.2.1,b.2.1,u2) :: xs,by rw [e];rfl,.cons ⟨rfl,k2,r2⟩ q,fun x hx=>?_⟩;rcases aai.mp hx with rfl|hx
      · exact ⟨pt,fz ok k2⟩
      · exact al x hx
theorem lz {X:Cx} (hc:X.calm=true) (hu:X.A.units+64 < cLine):bz X (.type "dict") (fun xs H Q=>∃ (l:Addr) (bs:List PrT),xs=[.ref l]∧H l=some (.lst (bs.map fun b=>V.ref b.1))∧(∀ b∈bs,kh H b)∧bs.length≤1000∧∀ d,H d=none→Q (.ref d) (upd H d (.dT (bD [] (bs.map (·.2.2)))))):=by
  intro pins s σ H xs us Q I r h;obtain ⟨l,bs,rfl,hl,hb,hz,q⟩:=h;obtain ⟨u,rfl,rx⟩:=cn r;cases rx;obtain ⟨z,its,n,rv,gl⟩:=(show ObjOk X.prog X.w H s.heap l (.lst _) from I.hok l _ hl)
  obtain ⟨ys,rfl,rk,al⟩:=pC I.hok rv hb;have ly:=aar rk;rw [aab,aab] at ly;refine fM ys (I.ok.hd hc) (by lia) gl (by lia) al fun h' t' dd hk=>?_;refine ⟨.ref s.heap.objs.size,_,I.laid (a:=s.heap.objs.size) (o:=.dT (bD [] (bs.map (·.2.2)))) (t':=t') hk (aah _) ?_,rfl,q _ (I.hok.fresh (aah _))⟩;have h1:=eg (bs.map (·.2.2)) [];rw [abR,aab] at h1;have:=aB hz;obtain ⟨o,es,ep,ho,g1,g2,g3,_,g5⟩:=dd;have hb':sysModules < s.heap.objs.size:=I.big;refine ⟨by lia,by simpa using abB hb',_,(KT.merge rk .nil).keeps fun c ys ec=>?_,o,es,ep,ho,g1,g2,g3,g5⟩;rw [ak (fun e=>?_)]
  · exact ec
  · rw [e,I.hok.fresh (aah _)] at ec;cases ec
open PySem PySem.Spec PyProof.Rows
section
variable {X:Cx}
end
structure FunD (K:aaa) (x qual:Str) (st:Stmt) (f:Addr) (fd:FuncData) (tD:Addr):Prop where
  ex:∃ (oc:Value) (od:Option Addr) (kV doc pm:Value) (an:Option Addr) (cdv ct:Value) (osl:Array (Option Value)),
    fd=abo x qual (bR st) (bH st) (ao st) (.ref tD) kV doc pm an cdv ct∧K.lookup f=some ⟨oc,od,.func fd,osl⟩∧abL K cdv qual=true
  kp:abk K (.ref f)=true
section
variable {P:Program} {w:World} {K:aaa} {mg:Str→Option Value} {base:Heap}
end
open PySem PySem.Spec PyProof.Rows
def Itd (hi:Int) (n:Nat):It:=⟨fun i _=>i < n,fun i H x H'=>H'=H∧x=.int (hi - i),fun i _=>n≤i⟩
theorem Trn.down {hi:Int} {n:Nat}:Trn (Itd hi n) n (fun _=>True) (fun i x H H'=>H'=H∧x=.int (hi - i)) :=
  ⟨fun i H hi _=>hi,fun H _=>aah _,fun i H x H' hi _ y=>y⟩
theorem mS {P:Program} {w:World} {K:aaa} {tg:Expr} (it:Addr) (hi:Int) (n:Nat):Turn P w K tg (Itd hi n) [it] it (fun i h=>IsRangeIter h it (hi+(i:Nat) * (-1)) ((n:Int) - (i:Nat)) (-1)) where
  mem:=by simp
  obj:=fun i h st b hb=>by
    have e:b=it:=by simpa using hb
    subst e;exact ⟨_,st,fun v z=>by
      have z':Data.fields _=Data.cell v:=z;cases z'⟩
  keep:=fun i h h' st k=>k it (by simp) _ st
  item:=by
    intro X hP hw hK hc i pins s σ H E I hf st hg;subst hP hw hK;obtain ⟨f0,f1,f2,f3,f4,f5⟩:=hf it (by simp);have W:=Walks.range (prog:=X.prog) (w:=X.w) (I.ok.hd hc) it hi (-1) n;refine W.item i s _ _ hg st fun v h' tk hv st' kk=>?_;obtain ⟨t,rfl⟩:=hv;have I1:Inv X pins σ H { s with heap:=h',toks:=tk }:=I.turned (fun b o hb e=>kk b o (by simpa using hb) e) f0 f1 f3 f4 f5;refine ⟨_,rfl,gz (s:={ s with heap:=h',toks:=tk }) (n:="range_iterator") st' rfl rfl (by decide) ⟨.int (hi - i),H,I1,⟨t,?_⟩,⟨rfl,rfl⟩,st',fun b hb=>(hf b hb).1⟩⟩;congr 1;lia
  done:=by
    intro X hP hw hK hc i pins s σ H E I hf st hg;subst hP hw hK;obtain ⟨f0,f1,f2,f3,f4,f5⟩:=hf it (by simp);exact wpAny_pyNext_range_end (I.ok.hd hc) st (by have : n≤i:=hg;lia) fun h' eb=>⟨rfl,I.turned (t':=s.toks) (fun b o hb e=>eb b o hb e) f0 f1 f3 f4 f5⟩
  self:=fun _ _ _ _ _ st h=>wpAny_pyIter_rangeiter st h
theorem dt (a b:Int):abJ a b (-1)=if a > b then a - b else 0:=by
  unfold abJ;rw [if_neg (by decide)];split
  · rw [show -(-1:Int)=1 by decide,Int.ediv_one];lia
  · rfl
section
variable {X:Cx} {tg:Expr}
def sP (ta:TA):TI:=fun σ H R=>ta σ H fun vs H1=>∃ i j:Int,vs=[.int i,.int j,.int (-1)]∧(-1000≤i∧i≤1000∧-1000≤j∧j≤1000)∧R (Itd i (i - j).toNat) H1
theorem gZ {a b c:Expr} {ta:TA} {p pos:Pos} (hg:Gl X "range") (hm:X.mg "range" = none) (ha:PA X [a,b,c] ta) (hs:starEach [a,b,c] X.env=[(false,eval a X.env),(false,eval b X.env),(false,eval c X.env)]:=by rfl) (hs2:starEach [b,c] X.env=[(false,eval b X.env),(false,eval c X.env)]:=by rfl) :
    PI X tg (.Call (.Name "range" p) [a,b,c] [] pos) (sP ta):=by
  intro pins s σ H R I h;refine Call_ (eh I hg hm boot_range (abc (thn (ha pos pins s σ H _ I h) fun us s1 ⟨vs,H1,I1,r1,q1⟩=>?_) (by rw [hs,hs2]) (by rw [hs2];rfl)));obtain ⟨i,j,e,⟨q1,q2,q3,q4⟩,q⟩:=q1;subst e;cases r1 with
  | cons r rr =>
    cases rr with
    | cons r' rr =>
      cases rr with
      | cons r'' rr =>
        cases rr;obtain ⟨t,rfl⟩:=r;obtain ⟨t',rfl⟩:=r';obtain ⟨t'',rfl⟩:=r'';have hsm:Builtin.Range.small i j (-1)=true:=by
          unfold Builtin.Range.small Builtin.Range.rangeFitsLong;rw [dt];simp only [aa4,decide_eq_true_eq,Bool.or_eq_true,beq_iff_eq];refine ⟨⟨⟨⟨?_,?_⟩,?_⟩,?_⟩,?_⟩
          · lia
          · lia
          · decide
          · split <;> lia
          · right;rw [if_neg (by decide)];simp only [aa4,decide_eq_true_eq];lia
        refine call_range_3 (by decide) ?_ (Or.inl (PyProof.noPylong_small (by lia)));refine wpAny_pyIter_range (s:={ s1 with heap:=s1.heap.push { cls:=.type "range",data:=.fields #[.int i t,.int j t',.int (-1) t''] } }) (IsRange.new ..) hsm ?_;have I2:Inv X pins σ H1 { s1 with heap:=s1.heap.push { cls:=.type "range",data:=.fields #[.int i t,.int j t',.int (-1) t''] } }:=I1.kept (t':=s1.toks) fun b o e=>aaf _ e;refine ⟨(s1.heap.push { cls:=.type "range",data:=.fields #[.int i t,.int j t',.int (-1) t''] }).objs.size,[(s1.heap.push { cls:=.type "range",data:=.fields #[.int i t,.int j t',.int (-1) t''] }).objs.size],_,_,H1,rfl,
          I2.kept (t':=s1.toks) fun b o e=>aaf _ e,mS _ i (i - j).toNat,?_,fun b hb=>?_,q⟩
        · have e1:i+((0:Nat):Int) * (-1)=i:=by simp
          have e2:(((i - j).toNat:Nat):Int) - ((0:Nat):Int)=abJ i j (-1):=by rw [dt];split <;> lia
          show IsRangeIter _ _ (i+((0:Nat):Int) * (-1)) ((((i - j).toNat:Nat):Int) - ((0:Nat):Int)) (-1);rw [e1,e2];exact aao _ rfl
        · have e:b=(s1.heap.push { cls:=.type "range",data:=.fields #[.int i t,.int j t',.int (-1) t''] }).objs.size:=by simpa using hb
          subst e;exact I2.fpOk (aah _) (I2.hok.fresh (aah _))
end
open PySem PySem.Spec PyProof.Rows
theorem rm {J:It} {n:Nat} {Kp:Hp→Prop} {item:Nat→V→Hp→Hp→Prop} (T:Trn J n Kp item) {cap:List (Option Nat)} {g:TG} {tt:TT} {r2:TI × TG × TT} {rs:List (TI × TG × TT)} {te:TE} {σ:St} {H:Hp} {Q:VK} (Pv:Nat→List V→Hp→Prop) (h0:Pv 0 [] H) (hk:∀ i ys H,i≤n→Pv i ys H→Kp H)
    (hs:∀ i x ys H H',i < n→item i x H H'→Pv i ys H→∀ Nx:List V→Hp→Prop,(∀ ys' H2,Pv (i+1) ys' H2→Nx ys' H2)→g x (bJ cap σ) H' fun σ2 H2=>tt σ2 H2 fun b H3=>if b=true then r2.1 σ2 H3 (LcT rs r2.2.1 r2.2.2 te ys σ2 fun ys _ H=>Nx ys H) else Nx ys H3)
    (hd:∀ ys H,Pv n ys H→∀ p,H p=none→Q (.ref p) (upd H p (.lst ys))):mM cap g tt r2 rs te σ Q J H:=by
  refine ⟨fun i m ys H=>m=n - i∧i≤n∧Pv i ys H,⟨n,by simp,aaQ _,h0⟩,?_⟩;rintro i m ys H ⟨rfl,hi,p⟩;by_cases hlt:i < n
  · refine .inr ⟨T.go i H hlt (hk i ys H hi p),fun x H' y=>?_⟩;exact hs i x ys H H' hlt (T.yld i H x H' hlt (hk i ys H hi p) y) p (fun ys' H4=>∃ m',m' < n - i∧m'=n - (i+1)∧i+1≤n∧Pv (i+1) ys' H4) fun ys' H2 h=>⟨_,by lia,rfl,hlt,h⟩
  · have e:i=n:=by lia
    subst e;exact .inl ⟨T.stop H (hk _ ys H hi p),hd ys H p⟩
theorem mi {J:It} {n:Nat} {Kp:Hp→Prop} {item:Nat→V→Hp→Hp→Prop} (T:Trn J n Kp item) {g2:TG} {tt2:TT} {r:TI × TG × TT} {rs:List (TI × TG × TT)} {te:TE} {ys:List V} {σ:St} {H:Hp} {Fin:List V→St→Hp→Prop} (Pv:Nat→List V→St→Hp→Prop) (h0:Pv 0 ys σ H) (hk:∀ i ys σ H,i≤n→Pv i ys σ H→Kp H)
    (hs:∀ i x ys σ H H',i < n→item i x H H'→Pv i ys σ H→∀ Nx:List V→St→Hp→Prop,(∀ ys' σ' H2,Pv (i+1) ys' σ' H2→Nx ys' σ' H2)→g2 x σ H' fun σ3 H5=>tt2 σ3 H5 fun b H6=>if b=true then r.1 σ3 H6 (LcT rs r.2.1 r.2.2 te ys σ3 Nx) else Nx ys σ3 H6)
    (hd:∀ ys σ H,Pv n ys σ H→Fin ys σ H):LcT (r :: rs) g2 tt2 te ys σ Fin J H:=by
  refine ⟨fun i m ys σ H=>m=n - i∧i≤n∧Pv i ys σ H,⟨n,by simp,aaQ _,h0⟩,?_⟩;rintro i m ys σ H ⟨rfl,hi,p⟩;by_cases hlt:i < n
  · refine .inr ⟨T.go i H hlt (hk i ys σ H hi p),fun x H' y=>?_⟩;exact hs i x ys σ H H' hlt (T.yld i H x H' hlt (hk i ys σ H hi p) y) p (fun ys' σ' H4=>∃ m',m' < n - i∧m'=n - (i+1)∧i+1≤n∧Pv (i+1) ys' σ' H4) fun ys' σ' H2 h=>⟨_,by lia,rfl,hlt,h⟩
  · have e:i=n:=by lia
    subst e;exact .inl ⟨T.stop H (hk _ ys σ H hi p),hd ys σ H p⟩
end L2
namespace L2
open PySem PySem.Spec PyProof.Rows PySem.W
section
variable {prog:Program} {w:World} {A:Around} {E:Value→Shared→Prop} {s:Shared}
theorem kS (d:Addr) (hd:(d == sysModules)=false) :
    MeetsIn prog w (Builtin.«dict.__len__» ⟨[.ref d],[]⟩) (fun _ R s=>∃ o es ep,s.heap.get? d=some o∧o.data=.dict es ep∧R (.ok (.ret (.int (es.size:Nat) s.toks))) { s with toks:=s.toks+1 }) :=
  .of_wp fun A R s ⟨o,es,ep,ho,hdat,h⟩=>by
    show wpAny _ _ (dictSize d >>= _) _ _ s;unfold dictSize;refine wpAny_bind (wpAny_bind (wpAny_dictEntries ho hdat (wpAny_pure ?_)));show wpAny _ _ (Builtin.Dict.pendingCount d >>= _) _ _ s;refine wpAny_bind (wpAny_pendingCount_other hd ?_);refine wpAny_ret_mkInt ?_;rw [Nat.add_zero];exact h
theorem eW {d:Addr} {o:Obj} {es:Array DictEntry} {ep:Nat} {Q:Value→Shared→Prop} (hd:(d == sysModules)=false) (ho:s.heap.get? d=some o) (hc:o.ExactDict) (hdat:o.data=.dict es ep) (hfit:(es.size:Int) < 2 ^ 63)
    (h:Q (.int (es.size:Nat) (s.toks+1)) { s with toks:=s.toks+1+1 }):wpAny (model prog w) A (call (.builtin "len") [.ref d]) Q E s:=by
  have hT:s.TypeIs (.ref d) "dict":=⟨o,ho,hc.1⟩
  refine Calls.call_function_entry kind_len plain_len entry_len (args_len1 _) ?_;unfold Builtin.«len»;refine wpAny_bind (m:=oneArg "len" _) (wpAny_pure ?_);refine wpAny_bind (m:=callSpecial? (.ref d) (abg "__len__")) (wpAny_callSpecial?_slot (name:=abg "__len__") hT F.slot_dict_len
    (call_meetsIn F.slot_dict_len hT F.entry_dict_len (F.args_dict_len_1 _) (kS d hd) ⟨o,es,ep,ho,hdat,?_⟩))
  show wpAny _ _ _ _ _ { s with toks:=s.toks+1 };refine wpAny_bind (wpAny_holding (wpAny_pure ?_));refine wpAny_bind (wpAny_letGo ?_);show wpAny _ _ (if ((es.size:Nat):Int) < 0 then _ else _) _ _ _;rw [if_neg (by lia)];show wpAny _ _ (if ((es.size:Nat):Int) ≥ 2 ^ 63 then _ else _) _ _ _;rw [if_neg (by lia)];exact wpAny_bind (wpAny_mkInt (wpAny_pure ⟨_,rfl,h⟩))
end
theorem nO {X:Cx}:bz X (.builtin "len") (fun xs H Q=>∃ a kvs,xs=[V.ref a]∧Rd H a (.dT kvs)∧Q (.int kvs.length) H):=by
  intro pins s σ H xs us Q I r h;obtain ⟨a,kvs,rfl,ha,q⟩:=h;obtain ⟨u,rfl,ru⟩:=cn r;cases ru;obtain ⟨z,hd,xs,rel,o,es,ep,ho,c,dat,l,nd⟩:=j9 I.hok ha;have hs:es.size=kvs.length:=by rw [size_of_entries l,← aar rel]
  refine eW hd ho c dat (by rw [hs];rw [sizeLine_eq] at z;lia) ?_;rw [hs];exact ⟨.int kvs.length,H,I.tok _,⟨_,rfl⟩,q⟩
theorem cQ {X:Cx}:bz X (.builtin "len") (fun xs H Q=>∃ a n,xs=[V.ref a]∧((∃ ys,(SqL X.K H a ys∨SqT X.K H a ys)∧n=ys.length)∨∃ kvs,Rd H a (.dT kvs)∧n=kvs.length)∧Q (.int (n:Nat)) H):=by
  intro pins s σ H xs us Q I r h;obtain ⟨a,n,rfl,h|h,q⟩:=h
  · obtain ⟨ys,hy,rfl⟩:=h;exact aD pins s σ H _ us Q I r ⟨a,ys,rfl,hy,q⟩
  · obtain ⟨kvs,hy,rfl⟩:=h;exact nO pins s σ H _ us Q I r ⟨a,kvs,rfl,hy,q⟩
theorem mZ {X:Cx} {o i:Expr} {td ty:TE} {pos:Pos} (hu:X.A.units+1 < cLine) (hi:PE X i ty) (ho:PE X o td) (hm:behindInMarks .NotIn o=false):PT X (.Compare i [.NotIn] [o] pos) (tB (lK ty td)):=og (ni hu hi ho) hm
theorem Trn.keys {d:Addr} {o:Obj} {kvs:List (List Key × V)}:Trn (Itk d o kvs) kvs.length (fun H=>H d=some (.frz o (.dT kvs))) (fun i x H H'=>∃ b,x=.ref b∧H'=H∧∀ kv,kvs[i]?=some kv→H b=some (.tup (kv.1.map kV))) :=
  ⟨fun i H hi q=>⟨q,hi⟩,fun H q=>⟨q,aah _⟩,fun i H x H' hi q y=>y⟩
open PySem PySem.Spec PyProof.Rows
def sM (e l:Nat→Bool) (n m:Nat):Nat→Nat→Bool
  | _,0=>decide (n < m)
  | j,k+1=>if e j=true then sM e l n m (j+1) k else l j
section
open PySem.SeqAt
open PySem.AutoSeq1 (wpAny_loadPart')
open PySem.MeetsSeq PySem.MeetsSeq2 PySem.MeetsSeq3
end
inductive LtR (K:aaa) (H:Hp):Nat→V→V→Bool→Prop
  | int {n:Nat} {a b:Int}:LtR K H n (.int a) (.int b) (decide (a < b))
  | tup {n:Nat} {a b:Addr} {xs ys:List V} {e l:Nat→Bool} (ha:SqT K H a xs) (hb:SqT K H b ys) (h:∀ (j:Nat) x y,xs[j]?=some x→ys[j]?=some y→EqR K H n x y (e j)) (hl:∀ (j:Nat) x y,xs[j]?=some x→ys[j]?=some y→e j=false→LtR K H n x y (l j)) :
      LtR K H (n+1) (.ref a) (.ref b) (sM e l xs.length ys.length 0 (min xs.length ys.length))
section
variable {X:Cx} {pins:List (Addr × Obj)} {σ:St} {H:Hp} {s:Shared}
end
section
variable {X:Cx}
end
open PySem PySem.Spec PyProof.Rows
def Fq (K:aaa) (x:Str) (s:Stmt) (f:Addr):Prop:=aaE K mainGlobals x=some (some (.ref f))∧∃ fd,Fun K x x s f fd
theorem Fq.mk4 {K:aaa} {x:Str} {st:Stmt} {f:Addr} {oc:Value} {od an:Option Addr} {osl:Array (Option Value)} {kV doc pm cdv ct:Value} (a:aaE K mainGlobals x=some (some (.ref f))) (l:K.lookup f=some ⟨oc,od,.func (abo x x (bR st) (bH st) (ao st) .none kV doc pm an cdv ct),osl⟩)
    (c:abL K cdv x=true) (k:abk K (.ref f)=true):Fq K x st f:=⟨a,_,o4 l c k⟩
theorem Fq.use {K:aaa} {x:Str} {st:Stmt} {f:Addr} {h:Heap} {mg:Str→Option Value} (q:Fq K x st f) (X:K.In h) (G:h.Ns mainGlobals mg) {ps:List Str}
    (hb:∀ (kV doc pm:Value) (an:Option Addr) (cdv ct:Value) (us:List Value),us.length=ps.length→bindArgs (abo x x (bR st) (bH st) (ao st) .none kV doc pm an cdv ct) ⟨us,[]⟩=pure (ps.zip us)):∃ fd,Fun K x x st f fd∧Binds K fd ps []∧mg x=some (.ref f):=by
  obtain ⟨a,fd,F⟩:=q;exact ⟨fd,F,F.binds hb,PySem.W.mg_of X G a⟩
end L2
namespace L2
open PySem PySem.Spec PyProof.Rows PySem.SeqAt
inductive MK where
  | non|int (i:Int)|str (x:Str)|tup (ks:List Int)
  deriving DecidableEq
def bI (b:Bool):Int:=if b then 1 else 0
def gE (k:Int):Value→Bool
  | .int i _=>i == k
  | .bool b=>bI b == k
  | _=>false
theorem bo {k:Int} {v:Value} (h:gE k v=true):(∃ t,v=.int k t)∨∃ b,v=.bool b∧bI b=k:=by
  cases v with
  | int i t=>exact .inl ⟨t,by rw [beq_iff_eq.mp h]⟩
  | bool b=>exact .inr ⟨b,rfl,beq_iff_eq.mp h⟩
  | _=>exact nomatch h
section
variable {A:Around} {E:Value→Shared→Prop} {s:Shared} {prog:Program} {w:World}
theorem jr {b:Bool} {Q:Int→Shared→Prop} (h:Q (hashInt (bI b)) { s with toks:=s.toks+1 }):wpAny (model prog w) A (pyHash (.bool b)) Q E s:=by
  refine PySem.W.pyHash_slot (T:="bool") rfl PySem.F.slot_bool_hash entry_int_hash (args_int_hash _) (beq_builtin_none _) (.inl rfl) ?_;cases b
  · exact (show wpAny _ _ (do ret (← mkInt 0)) _ _ s from wpAny_bind (wpAny_mkInt (wpAny_pure ⟨_,_,rfl,h⟩)))
  · exact (show wpAny _ _ (do ret (← mkInt 1)) _ _ s from wpAny_bind (wpAny_mkInt (wpAny_pure ⟨_,_,rfl,h⟩)))
theorem kG {Q:Int→Shared→Prop} (h:Q (reduceHash 0xFCA86420) { s with toks:=s.toks+1 }):wpAny (model prog w) A (pyHash .none) Q E s :=
  PySem.W.pyHash_slot (T:="NoneType") rfl PySem.F.slot_NoneType_hash PySem.F.entry_NoneType_hash (PySem.F.args_NoneType_hash_1 _) (beq_builtin_none _) (.inl rfl) (wpAny_bind (wpAny_pure (wpAny_bind (wpAny_mkInt (wpAny_pure ⟨_,_,rfl,h⟩)))))
theorem uc {a b:Int} {u v:Value} {Q:Bool→Shared→Prop} (hu:gE a u=true) (hv:gE b v=true) (h:Q (decide (a=b)) s):wpAny (model prog w) A (PySem.eqBool u v) Q E s:=by
  have e:∀ x y:Int,(x == y)=decide (x=y):=fun x y=>rfl;rcases bo hu with ⟨t,rfl⟩|⟨x,rfl,rfl⟩
  · rcases bo hv with ⟨t',rfl⟩|⟨y,rfl,rfl⟩
    · exact EqAt.int_int a t b t' prog w E Q (by rw [e];exact h)
    · exact EqAt.int_bool a t y prog w E Q (by rw [e];exact h)
  · rcases bo hv with ⟨t',rfl⟩|⟨y,rfl,rfl⟩
    · exact EqAt.bool_int x b t' prog w E Q (by rw [e];exact h)
    · refine EqAt.bool_bool x y prog w E Q ?_;have : (x == y)=decide (bI x=bI y):=by cases x <;> cases y <;> rfl
      rw [this];exact h
def i5 (prog:Program) (w:World):PySem.KeyKind prog w Int where
  is:=gE
  hash:=hashInt
  inj:=fun v a b ha hb=>by
    rcases bo ha with ⟨t,rfl⟩|⟨x,rfl,rfl⟩
    · exact beq_iff_eq.mp hb
    · exact beq_iff_eq.mp hb
  byValue:=fun k v h=>by rcases bo h with ⟨t,rfl⟩|⟨x,rfl,rfl⟩ <;> rfl
  pyHash:=fun hv h=>by
    rcases bo hv with ⟨t,rfl⟩|⟨x,rfl,rfl⟩
    · exact wpAny_pyHash_int h
    · exact jr h
  eqBool:=fun hu hv h=>uc hu hv h
  «strs»:=fun k x t v h=>by simp [gE] at h
def isM (prog:Program) (w:World) (h:Heap):MK→Value→Prop
  | .non,v=>v=.none
  | .int i,v=>∃ t,v=.int i t
  | .str x,v=>∃ t,v=.str x t
  | .tup ks,v=>∃ a,v=.ref a∧IsTupleKey (i5 prog w) h ks a
def hM (w:World):MK→Int
  | .non=>reduceHash 0xFCA86420
  | .int i=>hashInt i
  | .str x=>hashStr w x
  | .tup ks=>reduceHash (abE (ks.map hashInt))
def dM:MK→Nat
  | .tup ks=>ks.length+1
  | _=>1
theorem isM.inj {h:Heap} {x y:MK} {v:Value} (hx:isM prog w h x v) (hy:isM prog w h y v):x=y:=by
  cases x with
  | non =>
    cases (show v=.none from hx);cases y with
    | non=>rfl
    | int i=>obtain ⟨t,e⟩:=hy;cases e
    | str i=>obtain ⟨t,e⟩:=hy;cases e
    | tup ks=>obtain ⟨a,e,_⟩:=hy;cases e
  | int i =>
    obtain ⟨t,rfl⟩:=hx;cases y with
    | non=>cases (show Value.int i t=.none from hy)
    | int i=>obtain ⟨t,e⟩:=hy;cases e;rfl
    | str i=>obtain ⟨t,e⟩:=hy;cases e
    | tup ks=>obtain ⟨a,e,_⟩:=hy;cases e
  | str i =>
    obtain ⟨t,rfl⟩:=hx;cases y with
    | non=>cases (show Value.str i t=.none from hy)
    | int i=>obtain ⟨t,e⟩:=hy;cases e
    | str i=>obtain ⟨t,e⟩:=hy;cases e;rfl
    | tup ks=>obtain ⟨a,e,_⟩:=hy;cases e
  | tup ks =>
    obtain ⟨a,rfl,ha⟩:=hx;cases y with
    | non=>cases (show Value.ref a=.none from hy)
    | int i=>obtain ⟨t,e⟩:=hy;cases e
    | str i=>obtain ⟨t,e⟩:=hy;cases e
    | tup ks=>obtain ⟨b,e,hb⟩:=hy;cases e;rw [ha.inj hb]
theorem isM.keeps {h h':Heap} {k:MK} {v:Value} {d:Addr} {o:Obj} {es ep} (x:isM prog w h k v) (ho:h.get? d=some o) (hd:o.data=.dict es ep) (hs:aaU d h h'):isM prog w h' k v:=by
  cases k with
  | tup ks=>obtain ⟨a,e,ha⟩:=x;exact ⟨a,e,ha.keeps ho hd hs⟩
  | _=>exact x
theorem isM.kept {h h':Heap} {k:MK} {v:Value} (x:isM prog w h k v) (hk:∀ b o,h.get? b=some o→h'.get? b=some o):isM prog w h' k v:=by
  cases k with
  | tup ks=>obtain ⟨a,e,o,items,n,g,r⟩:=x;exact ⟨a,e,o,items,n,hk _ _ g,r⟩
  | _=>exact x
theorem ge {k:MK} {v:Value} {Q:Int→Shared→Prop} (hu:A.units < cLine) (hk:isM prog w s.heap k v) (h:Q (hM w k) { s with toks:=s.toks+dM k }):wpAny (model prog w) A (pyHash v) Q E s:=by
  cases k with
  | non=>cases (show v=.none from hk);exact kG h
  | int i=>obtain ⟨t,rfl⟩:=hk;exact wpAny_pyHash_int h
  | str i=>obtain ⟨t,rfl⟩:=hk;exact wpAny_pyHash_str h
  | tup ks=>obtain ⟨a,rfl,ha⟩:=hk;exact wpAny_pyHash_tuple hu ha h
theorem cm {h:Heap} {ks:List Int} {a:Addr} (x:IsTupleKey (i5 prog w) h ks a):∃ its,h.IsTuple a its:=by
  obtain ⟨o,items,n,ho,hc,hd,hi⟩:=x;exact ⟨items,o,ho,hc,n,hd⟩
theorem gA {x y:MK} {u v:Value} {Q:Bool→Shared→Prop} (hu:A.units < cLine) (hx:isM prog w s.heap x u) (hy:isM prog w s.heap y v) (h:Q (decide (x=y)) s):wpAny (model prog w) A (PySem.eqBool u v) Q E s:=by
  have no:∀ {x y:MK},¬ x=y→decide (x=y)=false:=fun z=>decide_eq_false z;cases x with
  | non =>
    cases (show u=.none from hx);cases y with
    | non=>cases (show v=.none from hy);exact EqAt.same .none prog w E Q (by simpa using h)
    | int i=>obtain ⟨t,rfl⟩:=hy;rw [no (fun z=>by cases z)] at h;exact EqAt.none_int _ _ prog w E Q h
    | str i=>obtain ⟨t,rfl⟩:=hy;rw [no (fun z=>by cases z)] at h;exact EqAt.none_str _ _ prog w E Q h
    | tup ks=>obtain ⟨a,rfl,ha⟩:=hy;rw [no (fun z=>by cases z)] at h;obtain ⟨_,ht⟩:=cm ha;exact EqAt.none_tuple ht hu prog w E Q h
  | int i =>
    obtain ⟨t,rfl⟩:=hx;cases y with
    | non=>cases (show v=.none from hy);rw [no (fun z=>by cases z)] at h;exact EqAt.int_none _ _ prog w E Q h
    | int j =>
      obtain ⟨t',rfl⟩:=hy;refine EqAt.int_int _ _ _ _ prog w E Q ?_;have : (i == j)=decide (MK.int i=MK.int j):=by
        rw [show (i == j)=decide (i=j) from rfl];by_cases c:i=j
        · subst c;simp
        · rw [decide_eq_false c,no fun z=>c (by cases z;rfl)]
      rw [this];exact h
    | str i=>obtain ⟨t,rfl⟩:=hy;rw [no (fun z=>by cases z)] at h;exact EqAt.int_str _ _ _ _ prog w E Q h
    | tup ks=>obtain ⟨a,rfl,ha⟩:=hy;rw [no (fun z=>by cases z)] at h;obtain ⟨_,ht⟩:=cm ha;exact EqAt.int_tuple _ _ ht hu prog w E Q h
  | str i =>
    obtain ⟨t,rfl⟩:=hx;cases y with
    | non=>cases (show v=.none from hy);rw [no (fun z=>by cases z)] at h;exact EqAt.str_none _ _ prog w E Q h
    | int j=>obtain ⟨t',rfl⟩:=hy;rw [no (fun z=>by cases z)] at h;exact EqAt.str_int _ _ _ _ prog w E Q h
    | str j =>
      obtain ⟨t',rfl⟩:=hy;refine wpAny_eqBool_str ?_;have : decide (i=j)=decide (MK.str i=MK.str j):=by
        by_cases c:i=j
        · subst c;simp
        · rw [decide_eq_false c,no fun z=>c (by cases z;rfl)]
      rw [this];exact h
    | tup ks=>obtain ⟨a,rfl,ha⟩:=hy;rw [no (fun z=>by cases z)] at h;obtain ⟨_,ht⟩:=cm ha;exact EqAt.str_tuple _ _ ht hu prog w E Q h
  | tup ks =>
    obtain ⟨a,rfl,ha⟩:=hx;cases y with
    | non=>cases (show v=.none from hy);rw [no (fun z=>by cases z)] at h;obtain ⟨_,ht⟩:=cm ha;exact EqAt.tuple_none ht hu prog w E Q h
    | int j=>obtain ⟨t',rfl⟩:=hy;rw [no (fun z=>by cases z)] at h;obtain ⟨_,ht⟩:=cm ha;exact EqAt.tuple_int _ _ ht hu prog w E Q h
    | str j=>obtain ⟨t',rfl⟩:=hy;rw [no (fun z=>by cases z)] at h;obtain ⟨_,ht⟩:=cm ha;exact EqAt.tuple_str _ _ ht hu prog w E Q h
    | tup ms =>
      obtain ⟨b,rfl,hb⟩:=hy;refine wpAny_eqBool_tuple hu ha hb ?_;have : decide (ks=ms)=decide (MK.tup ks=MK.tup ms):=by
        by_cases c:ks=ms
        · subst c;simp
        · rw [decide_eq_false c,no fun z=>c (by cases z;rfl)]
      rw [this];exact h
theorem lY {k:MK} {v:Value} {Q:Bool→Shared→Prop} (hk:isM prog w s.heap k v) (h:Q true s):wpAny (model prog w) A (eqIsQuiet 8 v) Q E s:=by
  cases k with
  | non=>cases (show v=.none from hk);rw [eqIsQuiet_byValue 8 rfl];exact wpAny_pure h
  | int i=>obtain ⟨t,rfl⟩:=hk;rw [eqIsQuiet_byValue 8 rfl];exact wpAny_pure h
  | str i=>obtain ⟨t,rfl⟩:=hk;rw [eqIsQuiet_byValue 8 rfl];exact wpAny_pure h
  | tup ks=>obtain ⟨a,rfl,ha⟩:=hk;exact wpAny_eqIsQuiet_tuple ha h
abbrev EM:=MK × Value × Value
def b_ (w:World) (x:EM):DictEntry:=⟨hM w x.1,x.2.1,x.2.2⟩
def DictM (prog:Program) (w:World) (h:Heap) (d:Addr) (xs:List EM):Prop :=
  ∃ o es ep,h.get? d=some o∧o.ExactDict∧o.data=.dict es ep∧es.toList=xs.map (b_ w)∧(∀ x∈xs,isM prog w h x.1 x.2.1)∧(xs.map (·.1)).Nodup
theorem DictM.typeIs {s:Shared} {d:Addr} {xs:List EM} (hm:DictM prog w s.heap d xs):s.TypeIs (.ref d) "dict":=let ⟨o,_,_,ho,hc,_⟩:=hm;⟨o,ho,hc.1⟩
theorem eu {es:Array DictEntry} {xs:List EM} (he:es.toList=xs.map (b_ w)) (j:Nat):es[j]?=(xs[j]?).map (b_ w):=by
  rw [← abx,he,aap]
theorem bG {es:Array DictEntry} {xs:List EM} (he:es.toList=xs.map (b_ w)):es.size=xs.length:=by
  rw [← aaV,he,aab]
theorem ixM {xs:List EM} (hn:(xs.map (·.1)).Nodup) {i j:Nat} {k:MK} {p q:Value × Value} (hi:xs[i]?=some (k,p)) (hj:xs[j]?=some (k,q)):i=j:=by
  have hi':(xs.map (·.1))[i]?=some k:=by rw [aap,hi];rfl
  have hj':(xs.map (·.1))[j]?=some k:=by rw [aap,hj];rfl
  exact (List.getElem?_inj (aaK.mp hi').1 hn).mp (hi'.trans hj'.symm)
theorem rR {k:MK} {key:Value} {stored:List Value} {Q:Bool→Shared→Prop} (hkey:isM prog w s.heap k key)
    (hst:∀ v∈stored,∃ k',isM prog w s.heap k' v) (h:Q false s):wpAny (model prog w) A (tableMayTell key stored) Q E s:=by
  unfold tableMayTell;split
  · exact wpAny_pure h
  · refine wpAny_bind (lY hkey ?_);simp only [Bool.not_true,aaB,if_false];refine wpAny_bind ?_;refine wpAny_forIn_list _ (fun rest r s'=>s'=s∧r=(none,())∧∀ v∈rest,∃ k',isM prog w s.heap k' v) _ ?_ ?_ _ _ ⟨rfl,rfl,hst⟩
    · rintro x rest r s' ⟨rfl,rfl,hr⟩;obtain ⟨k',hb⟩:=hr x aaq;refine wpAny_bind (lY hb ?_);simp only [Bool.not_true,aaB,if_false];exact wpAny_pure ⟨rfl,rfl,fun v hv=>hr v (aak _ hv)⟩
    · rintro r s' ⟨rfl,rfl,_⟩;exact wpAny_pure h
theorem k_ {d:Addr} {key:Value} {o:Obj} {es ep} {xs:List EM} {k:MK} {Q:Option Nat→Shared→Prop} (hu:A.units < cLine) (hkey:isM prog w s.heap k key)
    (ho:s.heap.get? d=some o) (hd:o.data=.dict es ep) (he:es.toList=xs.map (b_ w)) (his:∀ x∈xs,isM prog w s.heap x.1 x.2.1) (hn:(xs.map (·.1)).Nodup)
    (hnone:(∀ (j:Nat) (p:Value × Value),xs[j]?≠some (k,p))→Q none s) (hsome:∀ (j:Nat) (p:Value × Value),xs[j]?=some (k,p)→Q (some j) s) :
    wpAny (model prog w) A (dictFind d key (hM w k)) Q E s:=by
  have hsz:es.size=xs.length:=bG he;have haskey:∀ (j:Nat) (p:Value × Value),xs[j]?=some (k,p)→((es[j]?.map (·.hash)) == some (hM w k))=true:=by
    intro j p hj;rw [eu he j,hj];simp [b_]
  have hmem:∀ e∈es,∃ x∈xs,e=b_ w x:=by
    intro e hin;have : e∈xs.map (b_ w):=he ▸ Array.mem_toList_iff.mpr hin;obtain ⟨x,hx,rfl⟩:=aal.mp this;exact ⟨x,hx,rfl⟩
  have hst:∀ v∈(placesWithHash es.size (fun i=>es[i]?.map (·.hash)) (hM w k)).filterMap (fun i=>es[i]?.map (·.key)),∃ k',isM prog w s.heap k' v:=by
    intro v hv;obtain ⟨i,_,hi⟩:=List.mem_filterMap.mp hv;cases hei:es[i]? with
    | none=>rw [hei] at hi;cases hi
    | some e =>
      rw [hei] at hi;obtain rfl:e.key=v:=by simpa using hi
      obtain ⟨x,hx,rfl⟩:=hmem e (Array.mem_of_getElem? hei);exact ⟨x.1,his x hx⟩
  have plain:wpAny (model prog w) A (dictWalkPlain d key (hM w k) es (placesWithHash es.size (fun i=>es[i]?.map (·.hash)) (hM w k))) Q E s:=by
    unfold dictWalkPlain;refine wpAny_bind ?_;refine wpAny_forIn_list _
      (fun rest b s'=>s'=s∧b=(none,())∧∃ i,rest=(List.range' i (es.size - i)).filter (fun i=>(es[i]?.map (·.hash)) == some (hM w k))∧i≤es.size∧∀ j p,j < i→xs[j]?≠some (k,p)) _ ?_ ?_ _ _
      ⟨rfl,rfl,0,by rw [placesWithHash,List.range_eq_range',Nat.sub_zero],aaQ _,fun _ _ h=>absurd h (Nat.not_lt_zero _)⟩
    · rintro x rest b s' ⟨rfl,rfl,i,hr,hi,hno⟩;obtain ⟨hix,hxn,hpx,hskip,hrest⟩:=filter_range'_cons _ _ _ _ _ hr.symm;have hlt:x < es.size:=by lia
      obtain ⟨⟨k',b,v'⟩,hkv⟩:∃ y,xs[x]?=some y:=⟨xs[x]'(by rw [← hsz];exact hlt),aac _⟩
      have hib:isM prog w s'.heap k' b:=his _ (aay hkv);have hex:es[x]?=some ⟨hM w k',b,v'⟩:=by rw [eu he x,hkv];rfl
      have hnext:¬ k'=k→∃ i,rest=(List.range' i (es.size - i)).filter (fun i=>(es[i]?.map (·.hash)) == some (hM w k))∧i≤es.size∧∀ j p,j < i→xs[j]?≠some (k,p):=fun hne =>
        ⟨x+1,by rw [hrest];congr 2;lia,hlt,fun j p hji hj=>by
          rcases abU j i with h|h
          · exact hno j p h hj
          · rcases abU j x with h'|h'
            · have:=hskip j h h';rw [haskey j p hj] at this;exact absurd this (by decide)
            · have : j=x:=by lia
              subst this;rw [hkv] at hj;injection hj with hj;injection hj with hj;exact hne hj⟩
      rw [hex];dsimp only;by_cases hh:(hM w k' == hM w k)=true
      · rw [if_pos hh];refine wpAny_bind (wpAny_dictEpoch ho hd (wpAny_bind (gA (x:=k') (y:=k) hu hib hkey (wpAny_bind (wpAny_dictEpoch ho hd ?_)))));show wpAny _ _ (if (ep != ep)=true then _ else _) _ E _;rw [if_neg (by simp)];by_cases hkk:k'=k
        · rw [decide_eq_true hkk];subst hkk;exact wpAny_bind (wpAny_rule (wpAny_pure (wpAny_pure (hsome x _ hkv))))
        · rw [decide_eq_false hkk];exact wpAny_bind (wpAny_rule (wpAny_pure ⟨rfl,rfl,hnext hkk⟩))
      · rw [if_neg hh];refine wpAny_pure ⟨rfl,rfl,hnext ?_⟩;intro hkk;rw [hkk] at hh;simp at hh
    · rintro b s' ⟨rfl,rfl,i,hr,hi,hno⟩;refine wpAny_pure (hnone fun j p hj=>?_);rcases abU j i with h|h
      · exact hno j p h hj
      · have hjl:j < es.size:=by
          rw [hsz];rcases abU j xs.length with h'|h'
          · exact h'
          · rw [aby h'] at hj;exact nomatch hj
        have:=List.filter_eq_nil_iff.mp hr.symm j (List.mem_range'_1.mpr ⟨h,by lia⟩);exact this (haskey j p hj)
  have strp:∀ (y:Str) (t:Tok),key=.str y t→(es.all fun e=>isExactStrKey e.key)=true→wpAny (model prog w) A (foundByValue d key es y) Q E s:=by
    intro y t hy hall;have hk:k=.str y:=by
      subst hy;cases k with
      | non=>cases (show Value.str y t=.none from hkey)
      | int i=>obtain ⟨t,e⟩:=hkey;cases e
      | str i=>obtain ⟨t,e⟩:=hkey;cases e;rfl
      | tup ks=>obtain ⟨a,e,_⟩:=hkey;cases e
    subst hk;have hiff:∀ (j:Nat) (k':MK) (b v':Value),xs[j]?=some (k',b,v')→(b.isStr y=true↔k'=.str y):=by
      intro j k' b v' hj;have hb:=his _ (aay hj);constructor
      · intro hs;have hbs:∃ t,b=.str y t:=by
          cases b <;> simp_all [Value.isStr]
        obtain ⟨t',rfl⟩:=hbs;exact (isM.inj (x:=.str y) (y:=k') ⟨t',rfl⟩ hb).symm
      · intro hk;subst hk;obtain ⟨t',e⟩:=hb;rw [show b=Value.str y t' from e];simp [Value.isStr]
    unfold foundByValue;cases hf:es.findIdx? (fun e=>e.key.isStr y) with
    | none =>
      refine wpAny_pure (hnone fun j p hj=>?_);have he1:=eu he j;rw [hj] at he1;have hm:=Array.mem_of_getElem? he1;have:=Array.findIdx?_eq_none_iff.mp hf _ hm;have h2:=(hiff j _ _ _ hj).mpr rfl;rw [show (b_ w (.str y,p)).key=p.1 from rfl,h2] at this;cases this
    | some i =>
      obtain ⟨hlt,hi,_⟩:=Array.findIdx?_eq_some_iff_getElem.mp hf;obtain ⟨⟨k',b,v'⟩,hkv⟩:∃ z,xs[i]?=some z:=⟨xs[i]'(by rw [← hsz];exact hlt),aac _⟩
      have hex:es[i]?=some ⟨hM w k',b,v'⟩:=by rw [eu he i,hkv];rfl
      have hgi:es[i]=⟨hM w k',b,v'⟩:=by rw [ab2 hlt] at hex;exact aas hex
      rw [hgi] at hi;have hk':=(hiff i _ _ _ hkv).mp hi;subst hk';dsimp only;rw [hex];dsimp only;refine wpAny_bind (wpAny_dictEpoch ho hd (wpAny_bind (gA (x:=.str y) (y:=.str y) hu (his _ (aay hkv)) hkey (wpAny_bind (wpAny_dictEpoch ho hd ?_)))));show wpAny _ _ (if (ep != ep)=true then _ else _) _ E _;rw [if_neg (by simp),decide_eq_true rfl];exact wpAny_bind (wpAny_rule (wpAny_pure (hsome i _ hkv)))
  have hany:∀ a,key=.ref a→¬ (es.any fun e=>e.key == Value.ref a && e.hash != hM w k)=true:=by
    intro a ha;rw [← Array.any_toList,List.any_eq_true];rintro ⟨e,hin,hc⟩;obtain ⟨x,hx,rfl⟩:=hmem e (Array.mem_toList_iff.mp hin);simp only [b_,aa4,beq_iff_eq,bne_iff_ne,ne_eq] at hc;obtain ⟨hxa,hne⟩:=hc;have:=his x hx;rw [hxa,← ha] at this;exact hne (by rw [isM.inj this hkey])
  unfold dictFind
  try with_reducible refine wpAny_holding ?_
  refine wpAny_bind (wpAny_dictEntries ho hd ?_);refine (fun (tl:∀ q,isM prog w s.heap k q→(?T:Value→Prop) q)=>?mn) ?tt
  case mn =>
    dsimp only;split
    · next y t =>
      by_cases ha:(es.all fun e=>isExactStrKey e.key)=true
      · rw [if_pos ha];exact strp y t rfl ha
      · rw [if_neg ha];dsimp only;generalize hq:Value.str y t=q at *;by_cases hc:((q :: (placesWithHash es.size (fun i=>es[i]?.map (·.hash)) (hM w k)).filterMap (fun i=>es[i]?.map (·.key))).all carriedByValue)=true
        · rw [if_pos hc];exact plain
        · rw [if_neg hc];exact tl q hkey
    · by_cases hc:((key :: (placesWithHash es.size (fun i=>es[i]?.map (·.hash)) (hM w k)).filterMap (fun i=>es[i]?.map (·.key))).all carriedByValue)=true
      · rw [if_pos hc];exact plain
      · rw [if_neg hc];split
        · rw [if_neg (hany _ rfl)];generalize hq:Value.ref _=q at *;exact tl q hkey
        · exact tl key hkey
  case tt =>
    clear plain strp hany hkey;intro key hkey;by_cases hone:(((placesWithHash es.size (fun i=>es[i]?.map (·.hash)) (hM w k)).filterMap (fun i=>es[i]?.map (·.key))) == [key])=true <;>
    (first|rw [if_pos hone]|rw [if_neg hone]) <;> (first|refine wpAny_bind (wpAny_pure ?_)|refine wpAny_bind (rR hkey hst ?_)) <;> (
    rw [if_neg (by simp)];refine wpAny_bind ?_;refine wpAny_forIn_list _
      (fun rest b s'=>s'=s∧∃ i hit,b=(none,hit)∧rest=(List.range' i (es.size - i)).filter (fun i=>(es[i]?.map (·.hash)) == some (hM w k))∧i≤es.size ∧
        ((hit=none∧∀ j p,j < i→xs[j]?≠some (k,p))∨∃ j p,hit=some j∧j < i∧xs[j]?=some (k,p))) _ ?_ ?_ _ _
      ⟨rfl,0,none,rfl,by rw [placesWithHash,List.range_eq_range',Nat.sub_zero],aaQ _,.inl ⟨rfl,fun _ _ h=>absurd h (Nat.not_lt_zero _)⟩⟩
    · rintro x rest b s' ⟨rfl,i,hit,rfl,hr,hi,hH⟩;obtain ⟨hix,hxn,hpx,hskip,hrest⟩:=filter_range'_cons _ _ _ _ _ hr.symm;have hlt:x < es.size:=by lia
      have hrest':rest=(List.range' (x+1) (es.size - (x+1))).filter (fun i=>(es[i]?.map (·.hash)) == some (hM w k)):=by rw [hrest];congr 2;lia
      obtain ⟨⟨k',b,v'⟩,hkv⟩:∃ y,xs[x]?=some y:=⟨xs[x]'(by rw [← hsz];exact hlt),aac _⟩
      have hib:isM prog w s'.heap k' b:=his _ (aay hkv);have hex:es[x]?=some ⟨hM w k',b,v'⟩:=by rw [eu he x,hkv];rfl
      have hHx:(hit=none∧∀ j p,j < x→xs[j]?≠some (k,p))∨∃ j p,hit=some j∧j < x∧xs[j]?=some (k,p):=by
        rcases hH with ⟨h0,hno⟩|⟨j,p,h1,hji,hj⟩
        · refine .inl ⟨h0,fun j p hjx hj=>?_⟩;rcases abU j i with h|h
          · exact hno j p h hj
          · have:=hskip j h hjx;rw [haskey j p hj] at this;exact absurd this (by decide)
        · exact .inr ⟨j,p,h1,by lia,hj⟩
      have hstay:¬ k'=k→((hit=none∧∀ j p,j < x+1→xs[j]?≠some (k,p))∨∃ j p,hit=some j∧j < x+1∧xs[j]?=some (k,p)):=by
        intro hne;rcases hHx with ⟨h0,hno⟩|⟨j,p,h1,hjx,hj⟩
        · refine .inl ⟨h0,fun j p hjx hj=>?_⟩;rcases abU j x with h|h
          · exact hno j p h hj
          · have hjx':j=x:=by lia
            subst hjx';rw [hkv] at hj;injection hj with hj
            injection hj with hj
            exact hne hj
        · exact .inr ⟨j,p,h1,by lia,hj⟩
      rw [hex];dsimp only;by_cases hh:(hM w k' == hM w k)=true
      · rw [if_pos hh];refine wpAny_bind (wpAny_dictEpoch ho hd (wpAny_bind (gA (x:=k') (y:=k) hu hib hkey (wpAny_bind (wpAny_dictEpoch ho hd ?_)))));show wpAny _ _ (if (ep != ep)=true then _ else _) _ E _;rw [if_neg (by simp)];by_cases hkk:k'=k
        · rw [decide_eq_true hkk];subst hkk;rcases hHx with ⟨rfl,_⟩|⟨j,p,_,hjx,hj⟩
          · first|rw [if_pos rfl]|skip
            simp only [Option.isSome_none,aaB,if_false]
            first|refine wpAny_bind (wpAny_pure ?_)|skip
            refine wpAny_bind (wpAny_rule ?_);split
            · exact wpAny_pure (wpAny_pure (hsome x _ hkv))
            · exact wpAny_pure ⟨rfl,x+1,some x,rfl,hrest',hlt,.inr ⟨x,_,rfl,ab5 x,hkv⟩⟩
          · exact absurd (ixM hn hj hkv) (by lia)
        · rw [decide_eq_false hkk];simp only [aaB,if_false];refine wpAny_bind (wpAny_rule ?_)
          first|rw [if_neg (by simp)]|skip
          first
            | exact wpAny_pure ⟨rfl,x+1,hit,rfl,hrest',hlt,hstay hkk⟩
            | exact wpAny_bind (wpAny_pure (wpAny_pure ⟨rfl,x+1,hit,rfl,hrest',hlt,hstay hkk⟩))
      · rw [if_neg hh];refine wpAny_pure ⟨rfl,x+1,hit,rfl,hrest',hlt,hstay ?_⟩;intro hkk;rw [hkk] at hh;simp at hh
    · rintro b s' ⟨rfl,i,hit,rfl,hr,hi,hH⟩;have hall:∀ j,i≤j→j < es.size→((es[j]?.map (·.hash)) == some (hM w k))=false:=by
        intro j h1 h2;have:=List.filter_eq_nil_iff.mp hr.symm j (List.mem_range'_1.mpr ⟨h1,by lia⟩);simpa using this
      rcases hH with ⟨rfl,hno⟩|⟨j,p,rfl,_,hj⟩
      · refine wpAny_pure (hnone fun j p hj=>?_);rcases abU j i with h|h
        · exact hno j p h hj
        · have hjl:j < es.size:=by
            rw [hsz];rcases abU j xs.length with h'|h'
            · exact h'
            · rw [aby h'] at hj;exact nomatch hj
          have:=hall j h hjl;rw [haskey j p hj] at this;exact absurd this (by decide)
      · exact wpAny_pure (hsome j p hj))
end
end L2
namespace L2
open PySem PySem.Spec PyProof.Rows PySem.SeqAt
section
variable {A:Around} {E:Value→Shared→Prop} {s:Shared} {prog:Program} {w:World} {d:Addr} {key:Value} {k:MK} {xs:List EM}
def atM (xs:List EM) (k:MK):Option Value:=(xs.find? fun x=>decide (x.1=k)).map (·.2.2)
theorem i7 (hn:(xs.map (·.1)).Nodup) {i:Nat} {p:Value × Value} (hx:xs[i]?=some (k,p)):atM xs k=some p.2:=by
  unfold atM;have hm:=aay hx;cases hf:xs.find? (fun x=>decide (x.1=k)) with
  | none =>
    have:=List.find?_eq_none.mp hf _ hm;simp at this
  | some y =>
    have hy:=List.mem_of_find?_eq_some hf;have hk:y.1=k:=by have:=List.find?_some hf;simpa using this
    obtain ⟨j,hj⟩:=abS.mp hy;have : i=j:=ixM (k:=k) (p:=p) (q:=y.2) hn hx (by rw [hj,← hk]);rw [← this,hx] at hj;cases hj;rfl
theorem gG (h:∀ (j:Nat) (p:Value × Value),xs[j]?≠some (k,p)):atM xs k=none:=by
  unfold atM;rw [List.find?_eq_none.mpr]
  · rfl
  · intro x hx hk;obtain ⟨j,hj⟩:=abS.mp hx;exact h j x.2 (by rw [hj,← of_decide_eq_true hk])
def fI (k:MK) (v:Value) (x:EM):EM:=if x.1=k then (x.1,x.2.1,v) else x
def stM (xs:List EM) (k:MK) (key v:Value):List EM:=if (atM xs k).isSome then xs.map (fI k v) else xs++[(k,key,v)]
def noM (xs:List EM) (k:MK):List EM:=xs.filter fun x=>decide (x.1≠k)
theorem o3 {Q:Option Value→Shared→Prop} (hu:A.units < cLine) (hkey:isM prog w s.heap k key) (hm:DictM prog w s.heap d xs)
    (h:Q (atM xs k) { s with toks:=s.toks+dM k }):wpAny (model prog w) A (dictGet d key) Q E s:=by
  obtain ⟨o,es,ep,ho,_,hd,he,his,hn⟩:=hm;unfold dictGet
  try with_reducible refine wpAny_holding ?_
  refine wpAny_bind (ge hu hkey (wpAny_bind (k_ (s:={ s with toks:=s.toks+dM k }) hu hkey ho hd he his hn ?_ ?_)))
  · intro hno;rw [gG hno] at h;exact wpAny_pure h
  · intro j p hj;rw [i7 hn hj] at h;refine wpAny_bind (wpAny_dictEntries (s:={ s with toks:=s.toks+dM k }) ho hd ?_);rw [eu he j,hj];exact wpAny_pure h
theorem mY (xs:List EM) (k:MK) (v:Value):(xs.map (fI k v)).map (·.1)=xs.map (·.1):=by
  induction xs with
  | nil=>rfl
  | cons x xs ih =>
    simp only [aad,ih];by_cases hk:x.1=k <;> simp [fI,hk]
theorem pR (xs:List EM) (k:MK) (v:Value) (hn:k∉xs.map (·.1)):xs.map (fI k v)=xs:=by
  induction xs with
  | nil=>rfl
  | cons x xs ih =>
    simp only [aad,aai,not_or] at hn ⊢;rw [fI,if_neg (fun e=>hn.1 e.symm),ih hn.2]
theorem t5 (k:MK) (v:Value):∀ {xs:List EM} {j:Nat} {p:Value × Value},(xs.map (·.1)).Nodup→xs[j]?=some (k,p)→(xs.map (b_ w)).modify j (fun e=>{ e with val:=v })=(xs.map (fI k v)).map (b_ w):=by
  intro xs
  induction xs with
  | nil=>intro j p _ hj;simp at hj
  | cons x rest ih =>
    intro j p hn hj;rw [aad,aa2] at hn;cases j with
    | zero =>
      simp only [List.getElem?_cons_zero,Option.some.injEq] at hj;subst hj;rw [aad,aad,pR rest k v hn.1,fI,if_pos rfl,aad];rfl
    | succ j =>
      simp only [List.getElem?_cons_succ] at hj;have hmem:k∈rest.map (·.1):=aal.mpr ⟨(k,p),aay hj,rfl⟩;have hne:¬ x.1=k:=fun e=>hn.1 (e ▸ hmem);rw [aad,aad,fI,if_neg hne,aad];show b_ w x :: (rest.map (b_ w)).modify j _=_;rw [ih hn.2 hj]
theorem ua {j:Nat} {p:Value × Value}:∀ {xs:List EM} {j:Nat} {p:Value × Value},(xs.map (·.1)).Nodup→xs[j]?=some (k,p)→(xs.map (b_ w)).eraseIdx j=(noM xs k).map (b_ w):=by
  intro xs
  induction xs with
  | nil=>intro j p _ hj;simp at hj
  | cons x rest ih =>
    intro j p hn hj;rw [aad,aa2] at hn;cases j with
    | zero =>
      simp only [List.getElem?_cons_zero,Option.some.injEq] at hj;subst hj;have : noM ((k,p) :: rest) k=rest:=by
        unfold noM;rw [acu,if_neg (by simp)];exact List.filter_eq_self.mpr fun y hy=>by simpa using fun e=>hn.1 (aal.mpr ⟨y,hy,e⟩)
      rw [this];rfl
    | succ j =>
      simp only [List.getElem?_cons_succ] at hj;have hmem:k∈rest.map (·.1):=aal.mpr ⟨(k,p),aay hj,rfl⟩;have hne:¬ x.1=k:=fun e=>hn.1 (e ▸ hmem);have : noM (x :: rest) k=x :: noM rest k:=by
        unfold noM;rw [acu,if_pos (by simpa using hne)]
      rw [this,aad,aad,List.eraseIdx_cons_succ,ih hn.2 hj]
theorem nz (hn:(xs.map (·.1)).Nodup):((noM xs k).map (·.1)).Nodup:=abO (List.filter_sublist.map _) hn
theorem qQ {v:Value} {Q:Unit→Shared→Prop} (hu:A.units < cLine) (hkey:isM prog w s.heap k key) (hm:DictM prog w s.heap d xs)
    (hQ:∀ h',DictM prog w h' d (stM xs k key v)→aaU d s.heap h'→Q () { s with heap:=h' })
    (hsz:xs.length≤sizeLine):wpAny (model prog w) A (dictSetHashed d key (hM w k) v) Q E s:=by
  obtain ⟨o,es,ep,ho,hc,hd,he,his,hn⟩:=hm;unfold dictSetHashed
  try with_reducible refine wpAny_holding ?_
  refine wpAny_bind (k_ hu hkey ho hd he his hn ?_ ?_)
  · intro hno;have hnot:k∉xs.map (·.1):=fun hm=>by
      obtain ⟨x,hx,e⟩:=aal.mp hm;obtain ⟨j,hj⟩:=abS.mp hx;exact hno j x.2 (by rw [hj,← e])
    have est:stM xs k key v=xs++[(k,key,v)]:=by unfold stM;rw [gG hno];rfl
    refine wpAny_bind (wpAny_rule (wpAny_updateDictKeys (hz:=by have e:=bG he;lia) ho hd (hQ _ ⟨_,_,ep+1,aa9 _ ho (Obj.isFreed_of_dict (ab1 hd _)),
      hc.mapDictKeys _,ab1 hd _,?_,?_,?_⟩ (aaO ..))))
    · rw [est];simp [he,b_]
    · rw [est];intro x hx;rcases aax.mp hx with hx|hx
      · exact (his x hx).keeps ho hd (aaO ..)
      · simp only [List.mem_singleton] at hx;subst hx;exact hkey.keeps ho hd (aaO ..)
    · rw [est];rw [aaM,List.nodup_append];refine ⟨hn,by simp,?_⟩;intro x hx y hy;simp only [aad,abn,List.mem_singleton] at hy;subst hy;exact fun e=>hnot (e ▸ hx)
  · intro j p hj;have est:stM xs k key v=xs.map (fI k v):=by unfold stM;rw [i7 hn hj];rfl
    refine wpAny_bind (wpAny_rule (wpAny_bind (wpAny_updateDict ho hd (wpAny_point (hQ _ ⟨_,_,ep,aa9 _ ho (Obj.isFreed_of_dict (Obj.data_mapDict hd _)),
      hc.mapDict _,Obj.data_mapDict hd _,?_,?_,?_⟩ (aaO ..))))))
    · rw [est];have:=t5 (w:=w) k v hn hj;rw [← he] at this;obtain ⟨l⟩:=es;simpa using this
    · rw [est];intro x hx;obtain ⟨y,hy,rfl⟩:=aal.mp hx;unfold fI;split <;> exact (his y hy).keeps ho hd (aaO ..)
    · rw [est];rw [mY];exact hn
theorem sg {v:Value} {Q:Unit→Shared→Prop} (hu:A.units < cLine) (hkey:isM prog w s.heap k key) (hm:DictM prog w s.heap d xs)
    (hQ:∀ h',DictM prog w h' d (stM xs k key v)→aaU d s.heap h'→Q () { s with heap:=h',toks:=s.toks+dM k })
    (hsz:xs.length≤sizeLine):wpAny (model prog w) A (dictSet d key v) Q E s:=by
  unfold dictSet
  try with_reducible refine wpAny_holding ?_
  exact wpAny_bind (ge hu hkey (qQ (s:={ s with toks:=s.toks+dM k }) hu hkey hm hQ hsz))
theorem nV {Q:Option DictEntry→Shared→Prop} {v:Value} (hu:A.units < cLine) (hkey:isM prog w s.heap k key) (hm:DictM prog w s.heap d xs) (hv:atM xs k=some v)
    (hQ:∀ e h',e.val=v→DictM prog w h' d (noM xs k)→aaU d s.heap h'→Q (some e) { s with heap:=h',toks:=s.toks+dM k })
    (hsz:xs.length≤sizeLine):wpAny (model prog w) A (Builtin.Dict.takeOut d key) Q E s:=by
  obtain ⟨o,es,ep,ho,hc,hd,he,his,hn⟩:=hm;unfold Builtin.Dict.takeOut
  try with_reducible refine wpAny_holding ?_
  refine wpAny_bind (ge hu hkey ?_);refine wpAny_bind (k_ (s:={ s with toks:=s.toks+dM k }) hu hkey ho hd he his hn ?_ ?_)
  · intro hno;rw [gG hno] at hv;cases hv
  · intro j p hj;rw [i7 hn hj] at hv;refine wpAny_bind (wpAny_dictEntries (s:={ s with toks:=s.toks+dM k }) ho hd ?_);rw [eu he j,hj];refine wpAny_bind (wpAny_updateDictKeys (hz:=by have e:=bG he;lia) (s:={ s with toks:=s.toks+dM k }) ho hd (wpAny_pure (hQ _ _ (aas hv) ⟨_,_,ep+1,aa9 _ ho (Obj.isFreed_of_dict (ab1 hd _)),
      hc.mapDictKeys _,ab1 hd _,?_,?_,nz hn⟩ (aaO ..))))
    · have:=ua (k:=k) (w:=w) (j:=j) (p:=p) hn hj;rw [← he] at this;obtain ⟨l⟩:=es;simpa using this
    · intro x hx;exact (his x (acD.mp hx).1).keeps ho hd (aaO ..)
theorem t7 {Q:Value→Shared→Prop} (hu:A.units+1 < cLine) (hkey:isM prog w s.heap k key) (hd:(d == sysModules)=false) (hm:DictM prog w s.heap d xs)
    (h:Q (.bool (atM xs k).isSome) { s with toks:=s.toks+dM k }):wpAny (model prog w) A (compareOp .In key (.ref d)) Q E s:=by
  show wpAny _ _ (do return .bool (← contains (.ref d) key)) Q E s;refine wpAny_bind ?_;unfold contains
  try with_reducible refine wpAny_holding ?_
  refine wpAny_bind (wpAny_specialOf hm.typeIs slot_dict_contains.lookup ?_);show wpAny _ _ (if (some (Value.builtin "dict.__contains__") == some Value.none)=true then _ else _) _ E s;rw [if_neg (by rw [beq_builtin_none];exact aae)];refine wpAny_bind (wpAny_callSpecialUnlessNone?_slot (name:=abg "__contains__") hm.typeIs slot_dict_contains
    (wpAny_call_entry slot_dict_contains hm.typeIs entry_dict_contains ?_ (args_dict_contains _ _)))
  show wpAny _ _ (dictGet d key >>= _) _ _ s;refine wpAny_bind (o3 (A:=A.in1) hu hkey hm ?_);cases hf:atM xs k with
  | some p =>
    rw [hf] at h;show wpAny _ _ (ret (.bool true)) _ _ _;exact wpAny_pure ⟨_,rfl,wpAny_truthy_bool (wpAny_pure h)⟩
  | none =>
    rw [hf] at h;show wpAny _ _ (Builtin.Dict.pendingKey? d key >>= _) _ _ _;exact wpAny_bind (wpAny_pendingKey_other hd (wpAny_pure ⟨_,rfl,wpAny_truthy_bool (wpAny_pure h)⟩))
theorem nI {v:Value} {Q:Value→Shared→Prop} (hu:A.units+1 < cLine) (hkey:isM prog w s.heap k key) (hm:DictM prog w s.heap d xs) (hv:atM xs k=some v)
    (h:Q v { s with toks:=s.toks+dM k }):wpAny (model prog w) A (getItem (.ref d) key) Q E s:=by
  unfold getItem
  try with_reducible refine wpAny_holding ?_
  refine wpAny_bind (wpAny_sequenceKey hm.typeIs (by decide) ?_);refine wpAny_bind (wpAny_callSpecial?_slot (name:=abg "__getitem__") hm.typeIs slot_dict_getitem
    (wpAny_call_entry slot_dict_getitem hm.typeIs entry_dict_getitem ?_ (args_dict_getitem _ _)))
  show wpAny _ _ (dictGet d key >>= _) _ _ s;refine wpAny_bind (o3 (A:=A.in1) hu hkey hm ?_);rw [hv];exact wpAny_pure ⟨v,rfl,wpAny_pure h⟩
theorem mV {v:Value} {Q:Unit→Shared→Prop} (hu:A.units+1 < cLine) (hkey:isM prog w s.heap k key) (hm:DictM prog w s.heap d xs)
    (hQ:∀ h',DictM prog w h' d (stM xs k key v)→aaU d s.heap h'→Q () { s with heap:=h',toks:=s.toks+dM k })
    (hsz:xs.length≤sizeLine):wpAny (model prog w) A (setItem (.ref d) key v) Q E s:=by
  unfold setItem
  try with_reducible refine wpAny_holding ?_
  refine wpAny_bind (wpAny_sequenceKey hm.typeIs (by decide) ?_);refine wpAny_bind (wpAny_callSpecial?_slot (name:=abg "__setitem__") hm.typeIs slot_dict_setitem
    (wpAny_call_entry slot_dict_setitem hm.typeIs entry_dict_setitem ?_ (args_dict_setitem _ _ _)))
  show wpAny _ _ (Builtin.Dict.notOrdered "__setitem__" ⟨[.ref d,key,v],[]⟩ >>= _) _ _ s;refine wpAny_bind (wpAny_notOrdered_dict hm.typeIs ?_);show wpAny _ _ (dictSet d key v >>= _) _ _ s;exact wpAny_bind (sg (A:=A.in1) hu hkey hm (fun h' hm' hs'=>wpAny_pure ⟨.none,rfl,wpAny_pure (hQ h' hm' hs')⟩) hsz)
theorem rG {dflt:Value} {Q:Value→Shared→Prop} (hu:A.units+1 < cLine) (hkey:isM prog w s.heap k key) (hd:(d == sysModules)=false) (hm:DictM prog w s.heap d xs)
    (h:Q ((atM xs k).getD dflt) { s with toks:=s.toks+dM k }):wpAny (model prog w) A (call (.builtin "dict.get") [.ref d,key,dflt]) Q E s:=by
  refine wpAny_call_entry PySem.F.slot_dict_get hm.typeIs PySem.F.entry_dict_get ?_ (PySem.F.args_dict_get_3 _ _ _);show wpAny _ _ (dictGet d key >>= _) _ _ s;refine wpAny_bind (o3 (A:=A.in1) hu hkey hm ?_);cases hf:atM xs k with
  | some v =>
    rw [hf] at h;exact wpAny_pure ⟨v,rfl,h⟩
  | none =>
    rw [hf] at h;show wpAny _ _ (Builtin.Dict.missed d key >>= _) _ _ _;exact wpAny_bind (wpAny_missed_other hd (wpAny_pure ⟨dflt,rfl,h⟩))
theorem sy {v:Value} {Q:Value→Shared→Prop} (hu:A.units+1 < cLine) (hkey:isM prog w s.heap k key) (hm:DictM prog w s.heap d xs) (hv:atM xs k=some v) (more:List Value) (hmo:more=[]∨∃ x,more=[x])
    (hQ:∀ h',DictM prog w h' d (noM xs k)→aaU d s.heap h'→Q v { s with heap:=h',toks:=s.toks+dM k })
    (hsz:xs.length≤sizeLine):wpAny (model prog w) A (call (.builtin "dict.pop") (.ref d :: key :: more)) Q E s:=by
  have ha:argsOk "dict.pop" ⟨.ref d :: key :: more,[]⟩:=by
    rcases hmo with q|⟨x,q⟩
    · subst q;exact PySem.F.args_dict_pop_2 _ _
    · subst q;exact PySem.F.args_dict_pop_3 _ _ _
  have hne:xs≠[]:=fun e=>by subst e;cases hv
  refine wpAny_call_entry PySem.F.slot_dict_pop hm.typeIs PySem.F.entry_dict_pop ?_ ha;obtain ⟨o,es,ep,ho,hc,hd,he,his,hn⟩:=id hm;have hes:es.isEmpty=false:=by
    have:=bG he;have h0:xs.length≠0:=fun z=>hne (abb.mp z);rw [Array.isEmpty_eq_false_iff];intro z;rw [z] at this;exact h0 this.symm
  unfold Builtin.«dict.pop»;refine wpAny_bind ?_;unfold Builtin.Dict.keyAndDefault;refine wpAny_bind (wpAny_notOrdered_dict hm.typeIs ?_);rcases hmo with rfl|⟨x,rfl⟩
  · show wpAny _ _ (pure (d,key,none)) _ _ s;refine wpAny_pure ?_;dsimp only;refine (fun (tl:(?T1:Prop))=>?mn1) ?tt1
    case mn1 =>
      by_cases hp:(keyPart key).isSome=true
      · rw [if_pos hp];refine wpAny_bind (wpAny_pure ?_);simp only [aaB,if_false];refine wpAny_bind ?_;exact tl
      · rw [if_neg hp];refine wpAny_bind (wpAny_dictEntries ho hd (wpAny_bind (wpAny_pure ?_)));rw [hes];simp only [aaB,if_false];refine wpAny_bind ?_;exact tl
    case tt1 =>
      refine nV (A:=A.in1) hu hkey hm hv (fun e h' ev hm' hs'=>?_) hsz;simp only [Option.isNone_some,aaB,if_false];exact wpAny_bind (wpAny_letGo (wpAny_pure ⟨e.val,rfl,by rw [ev];exact hQ h' hm' hs'⟩))
  · show wpAny _ _ (pure (d,key,some x)) _ _ s;refine wpAny_pure ?_;dsimp only;refine (fun (tl:(?T2:Prop))=>?mn2) ?tt2
    case mn2 =>
      by_cases hp:(keyPart key).isSome=true
      · rw [if_pos hp];refine wpAny_bind (wpAny_pure ?_);simp only [aaB,if_false];refine wpAny_bind ?_;exact tl
      · rw [if_neg hp];refine wpAny_bind (wpAny_dictEntries ho hd (wpAny_bind (wpAny_pure ?_)));rw [hes];simp only [aaB,if_false];refine wpAny_bind ?_;exact tl
    case tt2 =>
      refine nV (A:=A.in1) hu hkey hm hv (fun e h' ev hm' hs'=>?_) hsz;simp only [Option.isNone_some,aaB,if_false];exact wpAny_bind (wpAny_letGo (wpAny_pure ⟨e.val,rfl,by rw [ev];exact hQ h' hm' hs'⟩))
end
end L2
namespace L2
open PySem PySem.Spec PyProof.Rows PySem.SeqAt
def BiL:List Int→List V→Prop:=Paired fun k x=>x=.int k∨∃ b,x=.bl b∧k=bI b
def MkIn (H:Hp):MK→V→Prop
  | .non,v=>v=.non
  | .int i,v=>v=.int i
  | .str x,v=>v=.str x
  | .tup ks,v=>∃ b xs,v=.ref b∧H b=some (.tup xs)∧BiL ks xs
theorem MkIn.mono {H H':Hp} {k:MK} {v:V} (g:∀ b xs,H b=some (.tup xs)→H' b=some (.tup xs)) (h:MkIn H k v):MkIn H' k v:=by
  cases k with
  | tup ks=>obtain ⟨b,xs,e,hb,r⟩:=h;exact ⟨b,xs,e,g _ _ hb,r⟩
  | _=>exact h
theorem BiL.ints (ks:List Int):BiL ks (ks.map V.int):=by
  unfold BiL
  induction ks with
  | nil=>exact .nil
  | cons k ks ih=>exact .cons (.inl rfl) ih
theorem MkIn.pair {H:Hp} {b:Addr} {i j:Int} (h:H b=some (.tup [.int i,.int j])):MkIn H (.tup [i,j]) (.ref b):=⟨b,_,rfl,h,BiL.ints [i,j]⟩
abbrev KEn:=MK × V × V
def DmO (w:World) (kvs:List KEn) (o:Obj):Prop:=o.ExactDict∧∃ es ep,o.data=.dict es ep∧Paired (fun (p:KEn) (e:DictEntry)=>e.hash=hM w p.1∧RelV p.2.1 e.key∧RelV p.2.2 e.val) kvs es.toList
def dmX (w:World) (a:Addr) (kvs:List KEn):HO:=.ext fun h=>∃ o,h.get? a=some o∧DmO w kvs o
structure DmIn (w:World) (H:Hp) (a:Addr) (kvs:List KEn):Prop where
  at_:H a=some (dmX w a kvs)
  keys:∀ p∈kvs,MkIn H p.1 p.2.1
  nd:(kvs.map (·.1)).Nodup
  len:kvs.length≤1000
theorem DmIn.mono {w:World} {H H':Hp} {a:Addr} {kvs:List KEn} (g:Same H H') (h:DmIn w H a kvs):DmIn w H' a kvs:=⟨g _ _ h.at_,fun p hp=>(h.keys p hp).mono fun b xs=>g b _,h.nd,h.len⟩
def Pd (w:World) (H:Hp) (a:Addr) (es:List (MK × V)):Prop :=
  (∃ kvs:List (List Int × V),H a=some (.dT (kvs.map fun p=>(p.1.map Sum.inl,p.2)))∧es=kvs.map fun p=>(.tup p.1,p.2)) ∨
  (∃ kvs,DmIn w H a kvs∧es=kvs.map fun p=>(p.1,p.2.2))∨(H a=some (.dK [])∧es=[])
theorem Pd.mono {w:World} {H H':Hp} {a:Addr} {es:List (MK × V)} (g:Same H H') (h:Pd w H a es):Pd w H' a es:=by
  rcases h with ⟨kvs,h,e⟩|⟨kvs,h,e⟩|⟨h,e⟩
  · exact .inl ⟨kvs,g _ _ h,e⟩
  · exact .inr (.inl ⟨kvs,h.mono g,e⟩)
  · exact .inr (.inr ⟨g _ _ h,e⟩)
theorem ig {P:Program} {w:World}:∀ {ks:List Int} {xs:List V} {us:List Value},BiL ks xs→Vals xs us→ItemsAre (i5 P w) ks us
  | _,_,_,.nil,r=>by cases r;exact .nil
  | _,_,_,.cons h t,r=>by
    cases r with
    | cons r1 r2 =>
      refine .cons ?_ (ig t r2);rcases h with rfl|⟨b,rfl,rfl⟩
      · obtain ⟨t,rfl⟩:=r1;exact beq_self_eq_true _
      · cases r1;exact beq_self_eq_true _
section
variable {X:Cx} {pins:List (Addr × Obj)} {σ:St} {H:Hp} {s:Shared} {a:Addr}
theorem iS (I:Inv X pins σ H s) {k:MK} {v:V} {u:Value} (h:MkIn H k v) (r:RelV v u):isM X.prog X.w s.heap k u:=by
  cases k with
  | non=>cases (show v=.non from h);exact r
  | int i=>cases (show v=.int i from h);exact r
  | str i=>cases (show v=.str i from h);exact r
  | tup ks =>
    obtain ⟨b,xs,rfl,hb,bl⟩:=h;cases r;obtain ⟨_,its,rv,o,h1,h2,n,h3⟩:=(show ObjOk X.prog X.w H s.heap b (.tup xs) from I.hok b _ hb)
    exact ⟨b,rfl,o,its.toArray,n,h1,h2,h3,by simpa using ig bl rv⟩
theorem iR (I:Inv X pins σ H s) {o:HO} (h:H a=some o):(a == sysModules)=false:=beq_eq_false_iff_ne.mpr (I.nosys h)
abbrev KM:List KEn→List EM→Prop:=Paired fun p q=>p.1=q.1∧RelV p.2.1 q.2.1∧RelV p.2.2 q.2.2
theorem qA {w:World}:∀ {kvs:List KEn} {es:List DictEntry},Paired (fun (p:KEn) (e:DictEntry)=>e.hash=hM w p.1∧RelV p.2.1 e.key∧RelV p.2.2 e.val) kvs es→∃ xs:List EM,KM kvs xs∧es=xs.map (b_ w)
  | _,_,.nil=>⟨[],.nil,rfl⟩
  | _,_,.cons (a:=p) (b:=e) h t=>by
    obtain ⟨xs,r,rfl⟩:=qA t;refine ⟨(p.1,e.key,e.val) :: xs,.cons ⟨rfl,h.2⟩ r,?_⟩;obtain ⟨h1,h2,h3⟩:=e;rw [aad];congr 1;unfold b_;rw [← h.1]
theorem qh {kvs:List KEn} {xs:List EM} (r:KM kvs xs):kvs.map (·.1)=xs.map (·.1):=by
  induction r with
  | nil=>rfl
  | cons h t ih=>rw [aad,aad,ih,h.1]
theorem sN (I:Inv X pins σ H s) {kvs:List KEn} {xs:List EM} (r:KM kvs xs) (h:∀ p∈kvs,MkIn H p.1 p.2.1):∀ x∈xs,isM X.prog X.w s.heap x.1 x.2.1:=by
  induction r with
  | nil=>intro x hx;exact nomatch hx
  | @cons p q ps qs h1 t ih =>
    intro x hx;rcases aai.mp hx with e|hx
    · rw [e,← h1.1];exact iS I (h p aaq) h1.2.1
    · exact ih (fun p hp=>h p (aak _ hp)) x hx
theorem fA (I:Inv X pins σ H s) {kvs:List KEn} (d:DmIn X.w H a kvs):∃ xs:List EM,KM kvs xs∧DictM X.prog X.w s.heap a xs:=by
  obtain ⟨⟨o,ho,hx,es,ep,hd,rel⟩,_⟩:=(show ObjOk X.prog X.w H s.heap a (dmX X.w a kvs) from I.hok a _ d.at_)
  obtain ⟨xs,r,e⟩:=qA rel;exact ⟨xs,r,o,es,ep,ho,hx,hd,e,sN I r d.keys,by rw [← qh r];exact d.nd⟩
abbrev PM:List (MK × V)→List EM→Prop:=Paired fun p q=>p.1=q.1∧RelV p.2 q.2.2
theorem jX {P:Program} {w:World}:∀ {ks:List Int} {us:List Value},ItemsAre (av P w) (ks.map Sum.inl) us→ItemsAre (i5 P w) ks us
  | [],_,h=>by rw [abn] at h;cases h;exact .nil
  | k :: ks,_,h=>by
    rw [aad] at h;cases h with
    | cons h t =>
      refine .cons ?_ (jX t);rw [gq] at h;rcases aV h with ⟨i,t,e,rfl⟩|⟨x,t,e,rfl⟩
      · cases e;exact beq_self_eq_true _
      · cases e
theorem pj {P:Program} {w:World} {h:Heap}:∀ {kvs:List (List Int × V)} {ys:List (List Key × Addr × Value)},Paired (fun (p:List Key × V) q=>p.1=q.1∧RelV p.2 q.2.2) (kvs.map fun p=>(p.1.map Sum.inl,p.2)) ys→(∀ x∈ys,IsTupleKey (av P w) h x.1 x.2.1) →
    ∃ xs:List EM,PM (kvs.map fun p=>(.tup p.1,p.2)) xs∧ys.map (entryOfKey (tupleKind (av P w)))=xs.map (b_ w)∧(∀ x∈xs,isM P w h x.1 x.2.1)∧xs.map (·.1)=kvs.map fun p=>MK.tup p.1
  | [],_,r,_=>by rw [abn] at r;cases r;exact ⟨[],.nil,rfl,(fun x hx=>nomatch hx),rfl⟩
  | p :: kvs,_,r,hk=>by
    rw [aad] at r;cases r with
    | @cons _ q _ qs h t =>
      obtain ⟨xs,r1,r2,r3,r4⟩:=pj (P:=P) (w:=w) t fun x hx=>hk x (aak _ hx);have hq:=hk q aaq;rw [← h.1] at hq;obtain ⟨o,items,n,g1,g2,g3,g4⟩:=hq;refine ⟨(.tup p.1,.ref q.2.1,q.2.2) :: xs,.cons ⟨rfl,h.2⟩ r1,?_,fun x hx=>?_,by rw [aad,aad,r4]⟩
      · rw [aad,aad,r2];congr 1;obtain ⟨q1,q2,q3⟩:=q;unfold entryOfKey b_;dsimp only at h ⊢;rw [← h.1];have : (tupleKind (av P w)).hash (p.1.map Sum.inl)=hM w (.tup p.1):=by
          show reduceHash (abE ((p.1.map Sum.inl).map (av P w).hash))=reduceHash (abE (p.1.map hashInt));rw [aaD];rfl
        rw [this]
      · rcases aai.mp hx with rfl|hx
        · exact ⟨q.2.1,rfl,o,items,n,g1,g2,g3,jX g4⟩
        · exact r3 x hx
theorem lF {l:List (List Int × V)} (h:(l.map fun p=>p.1.map (Sum.inl:Int→Key)).Nodup):(l.map fun p=>MK.tup p.1).Nodup:=by
  induction l with
  | nil=>exact acp
  | cons p l ih =>
    rw [aad,aa2] at h ⊢;refine ⟨fun hm=>h.1 ?_,ih h.2⟩;obtain ⟨q,hq,e⟩:=aal.mp hm;injection e with e
    exact aal.mpr ⟨q,hq,by rw [e]⟩
theorem gi (I:Inv X pins σ H s) {es:List (MK × V)} (d:Pd X.w H a es):∃ xs:List EM,PM es xs∧DictM X.prog X.w s.heap a xs∧(a == sysModules)=false∧es.length≤sizeLine:=by
  rcases d with ⟨kvs,h,rfl⟩|⟨kvs,h,rfl⟩|⟨h,rfl⟩
  · obtain ⟨z,hd,ys,rel,o,es,ep,h1,h2,h3,h4,h5,h6⟩:=h7 I.hok h;obtain ⟨xs,r1,r2,r3,r4⟩:=pj (P:=X.prog) (w:=X.w) (h:=s.heap) (Paired.mapP rel fun _ _ z=>⟨z.1,z.2.2⟩) h5;refine ⟨xs,r1,⟨o,es,ep,h1,h2,h3,by rw [h4,r2],r3,?_⟩,hd,by simpa using z⟩;rw [r4];refine lF ?_;have : ys.map (·.1)=kvs.map fun p=>p.1.map (Sum.inl:Int→Key):=by
      have e:∀ {l:List (List Key × V)} {m:List (List Key × Addr × Value)},KT H l m→m.map (·.1)=l.map (·.1):=by
        intro l m q
        induction q with
        | nil=>rfl
        | cons h t ih=>rw [aad,aad,ih,h.1]
      rw [e rel,aaD];rfl
    rw [← this];exact h6
  · obtain ⟨xs,r,dd⟩:=fA I h;refine ⟨xs,?_,dd,iR I h.at_,by rw [aab];have:=h.len;rw [sizeLine_eq];lia⟩;have : ∀ {l:List KEn} {m:List EM},KM l m→PM (l.map fun p=>(p.1,p.2.2)) m:=by
      intro l m q
      induction q with
      | nil=>exact .nil
      | cons h t ih=>exact .cons ⟨h.1,h.2.2⟩ ih
    exact this r
  · obtain ⟨z,hd,vs,rel,dd⟩:=mz I.hok h;cases rel;obtain ⟨o,es,ep,h1,h2,h3,_,h4,_⟩:=dd;refine ⟨[],.nil,⟨o,es,ep,h1,h2,h3,?_,(fun x hx=>nomatch hx),acp⟩,hd,aaQ _⟩;have:=h4.length;cases hl:es.toList with
    | nil=>rfl
    | cons e r=>rw [hl] at this;simp at this
theorem om {es:List (MK × V)} {xs:List EM} (r:PM es xs) (k:MK):RelO (bn es k) (atM xs k):=by
  induction r with
  | nil=>exact True.intro
  | @cons p q ps qs h t ih =>
    obtain ⟨h1,h2⟩:=h;by_cases e:p.1=k
    · have e':q.1=k:=h1.symm.trans e;have b:atM (q :: qs) k=some q.2.2:=by simp [atM,aa0,e']
      rw [cq e,b];exact h2
    · have e':¬ q.1=k:=fun z=>e (h1.trans z);have b:atM (q :: qs) k=atM qs k:=by simp [atM,aa0,e']
      rw [cr e,b];exact ih
def pG (w:World) (H:Hp) (a:Addr) (y:V) (r:Option V):Prop:=∃ es k,Pd w H a es∧MkIn H k y∧r=bn es k
theorem oJ (I:Inv X pins σ H s) {y:V} {r:Option V} {u:Value} (g:pG X.w H a y r) (ry:RelV y u):∃ k xs,isM X.prog X.w s.heap k u∧DictM X.prog X.w s.heap a xs∧(a == sysModules)=false∧RelO r (atM xs k)∧xs.length≤sizeLine:=by
  obtain ⟨es,k,hd,hk,rfl⟩:=g;obtain ⟨xs,rel,dd,hs,hz⟩:=gi I hd;exact ⟨k,xs,iS I hk ry,dd,hs,om rel k,by rw [← aar rel];exact hz⟩
end
def rZ (w:World) (td ty:TE):TE:=fun σ H Q=>td σ H fun x H1=>ty σ H1 fun y H2=>∃ a v,x=.ref a∧pG w H2 a y (some v)∧Q v H2
def qJ (w:World) (ty td:TE):TE:=fun σ H Q=>ty σ H fun y H1=>td σ H1 fun x H2=>∃ a o,x=.ref a∧pG w H2 a y o∧Q (.bl o.isSome) H2
def qK (w:World) (td ty tx:TE):TE:=fun σ H Q=>td σ H fun x H1=>∃ a es,x=.ref a∧Pd w H1 a es∧ty σ H1 fun y H2=>tx σ H2 fun z H3=>∃ o,pG w H3 a y o∧Q (o.getD z) H3
section
variable {X:Cx} {o i e f value:Expr} {pos pos' tpos apos cpos:Pos} {td ty tv tx:TE} {w:World}
theorem me {pins:List (Addr × Obj)} {σ:St} {H:Hp} {s:Shared} {a:Addr} {es:List (MK × V)} (I:Inv X pins σ H s) (d:Pd X.w H a es):s.TypeIs (.ref a) "dict"∧(∀ b,Value.ref a=.ref b→∃ ob,s.heap.get? b=some ob∧ob.dict=none):=by
  obtain ⟨xs,rel,dd,hs,hz⟩:=gi I d;obtain ⟨ob,_,_,h1,h2,_⟩:=id dd;exact ⟨dd.typeIs,fun b q=>by cases q;exact ⟨ob,h1,h2.2.1⟩⟩
theorem bC (hw:X.w=w) (hu:X.A.units+1 < cLine) (ho:PE X o td) (hi:PE X i ty) (hs:rN i):PE X (.Subscript o i pos) (rZ w td ty):=by
  subst hw;intro pins s σ H Q I h;refine lM acE.lookup hs (thn (ho pins s σ H _ I h) fun u s1 ⟨x,H1,I1,rx,q1⟩=>thn (hi pins s1 σ H1 _ I1 q1) fun iv s2 ⟨y,H2,I2,ry,a,v,ex,g,q2⟩=>?_);subst ex;obtain rfl:u=Value.ref a:=rx;obtain ⟨k,xs,hk,dd,_,ro,_⟩:=oJ I2 g ry;obtain ⟨w',hw,rw'⟩:=RelO.some_of ro;exact ⟨dd.typeIs,nI hu hk dd hw ⟨v,H2,I2.tok _,rw',q2⟩⟩
theorem oz (hw:X.w=w) (hu:X.A.units+1 < cLine) (hi:PE X i ty) (ho:PE X o td):PC X .In i o (qJ w ty td):=by
  subst hw;intro pins s σ H Q I h;refine thn (hi pins s σ H _ I h) fun iv s1 ⟨y,H1,I1,ry,q1⟩=>thn (ho pins s1 σ H1 _ I1 q1) fun u s2 ⟨x,H2,I2,rx,a,ov,ex,g,q2⟩=>?_;subst ex;obtain rfl:u=Value.ref a:=rx;obtain ⟨k,xs,hk,dd,hs,ro,_⟩:=oJ I2 g ry;refine t7 hu hk hs dd ?_;rw [← ro.isSome_eq];exact ⟨.bl ov.isSome,H2,I2.tok _,rfl,q2⟩
theorem qV (hw:X.w=w) (hu:X.A.units+1 < cLine) (hi:PE X i ty) (ho:PE X o td) (hm:behindInMarks .In o=false):PE X (.Compare i [.In] [o] pos) (qJ w ty td):=qY (oz hw hu hi ho) hm
theorem kH (hw:X.w=w) (hu:X.A.units+1 < cLine) (hi:PE X i ty) (ho:PE X o td) (hm:behindInMarks .In o=false):PT X (.Compare i [.In] [o] pos) (tB (qJ w ty td)):=og (oz hw hu hi ho) hm
theorem jz (hw:X.w=w) (hu:X.A.units+1 < cLine) (ho:PE X o td) (he:PE X e ty) (hf:PE X f tx) (m:M2 X o "get" apos e f cpos):PE X (.Call (.Attribute o "get" apos) [e,f] [] cpos) (qK w td ty tx):=by
  subst hw;intro pins s σ H Q I h;refine wpAny_Call_method m.base m.few m.line ach PySem.F.slot_dict_get PySem.F.type_dict_get (thn (ho pins s σ H _ I h) fun u s1 ⟨x,H1,I1,rx,a,es,ex,d,q1⟩=>?_);subst ex;obtain rfl:u=Value.ref a:=rx;obtain ⟨t1,t2⟩:=me I1 d;refine ⟨t1,t2,?_⟩;rw [m.trees];refine abN rfl (Calls.evalArgs_plain (acd (thn (he pins s1 σ H1 _ I1 q1) fun iv s2 ⟨y,H2,I2,ry,q2⟩ =>
    acd (thn (hf pins s2 σ H2 _ I2 q2) fun fv s3 ⟨z,H3,I3,rz,ov,g,q3⟩=>Calls.spliced_nil ?_))))
  obtain ⟨k,xs,hk,dd,hs,ro,_⟩:=oJ I3 g ry;exact rG hu hk hs dd ⟨_,H3,I3.tok _,ro.getD rz,q3⟩
end
end L2
namespace L2
open PySem PySem.Spec PyProof.Rows PySem.SeqAt PySem.W
section
variable {prog:Program} {w:World} {A:Around} {E:Value→Shared→Prop} {s:Shared}
theorem jq {a:Addr} {Q:Bool→Shared→Prop} (hT:s.TypeIs (.ref a) "tuple") (h:Q false s):wpAny (model prog w) A (Builtin.Dict.quietEq (.ref a)) Q E s:=by
  unfold Builtin.Dict.quietEq;exact wpAny_bind (wpAny_specialOf hT PySem.F.slot_tuple_eq.lookup (wpAny_pure h))
theorem o7 {hs:List Int} (hn:hs.Nodup) (x:Int):(hs.filter fun y=>y == x).length≤1:=by
  have : (hs.filter fun y=>y == x).length=hs.count x:=by rw [List.count_eq_length_filter]
  rw [this];exact List.nodup_iff_count.mp hn x
theorem pi {id:String} {d:Addr} {o:Obj} {es:Array DictEntry} {ep:Nat} {Q:Array DictEntry→Shared→Prop} (ho:s.heap.get? d=some o) (hd:o.data=.dict es ep)
    (hk:∀ e∈es.toList,∃ a,e.key=.ref a∧s.TypeIs (.ref a) "tuple") (hn:(es.toList.map (·.hash)).Nodup) (h:Q es s) :
    wpAny (model prog w) A (Builtin.Dict.entriesForEmpty id d) Q E s:=by
  unfold Builtin.Dict.entriesForEmpty;refine wpAny_bind (wpAny_dictEntries ho hd ?_);refine wpAny_bind ?_;rw [← Array.forIn_toList];refine wpAny_forIn_list _ (fun rest r s'=>s'=s∧∀ e∈rest,e∈es.toList) _ ?_ ?_ _ _ ⟨rfl,fun _ z=>z⟩
  · rintro e rest r s' ⟨rfl,hr⟩;obtain ⟨a,ha,hT⟩:=hk e (hr e aaq);rw [ha];refine wpAny_bind (jq hT ?_);have hl:¬ (es.filter (fun y=>y.hash == e.hash)).size > 1:=by
      have e1:(es.filter (fun y=>y.hash == e.hash)).size=((es.toList.map (·.hash)).filter fun y=>y == e.hash).length:=by
        rw [← aaV,Array.toList_filter,List.filter_map,aab];rfl
      rw [e1];have:=o7 hn e.hash;lia
    simp only [Bool.not_false,if_true];rw [if_neg hl];exact wpAny_pure ⟨rfl,fun x hx=>hr x (aak _ hx)⟩
  · rintro r s' ⟨rfl,_⟩;exact wpAny_pure h
theorem tm {o:Addr} {xs:List EM} {Q:Value→Shared→Prop} (hoS:(o == sysModules)=false) (ho:DictM prog w s.heap o xs) (hsz:xs.length≤sizeLine) (hne:xs≠[]) (htup:∀ x∈xs,∃ ks,x.1=.tup ks) (hn:(xs.map fun x=>hM w x.1).Nodup)
    (h:∀ h',DictM prog w h' s.heap.objs.size xs→aaU s.heap.objs.size (s.heap.push { cls:=.type "dict",data:=.dict #[] }) h'→Q (.ref s.heap.objs.size) { s with heap:=h' }) :
    wpAny (model prog w) A (call (.type "dict") [.ref o]) Q E s:=by
  refine callType_codes (Q₁:=fun obj s₁=>obj=.ref s.heap.objs.size∧s₁={ s with heap:=s.heap.push { cls:=.type "dict",data:=.dict #[] } }) F.kt_called_dict (F.kt_typeCall_dict_1 _) F.entry_dict_init (kt_code_dict_new _ ⟨rfl,rfl⟩) ?_;rintro obj s₁ ⟨rfl,rfl⟩;obtain ⟨oo,eso,epo,hoo,hco,hdo,heo,hio,hno⟩:=ho;have kp:∀ b u,s.heap.get? b=some u→(s.heap.push { cls:=.type "dict",data:=.dict #[] }).get? b=some u:=fun b u q=>aaf _ q;have hoo':=kp _ _ hoo;have hT:({ s with heap:=s.heap.push { cls:=.type "dict",data:=.dict #[] } }:Shared).TypeIs (.ref o) "dict":=⟨oo,hoo',hco.1⟩
  have hdo':s.heap.objs.size≠o:=fun e=>absurd (aan hoo) (by rw [e];exact abA _);have hod:(s.heap.push { cls:=.type "dict",data:=.dict #[] }).get? s.heap.objs.size=some { cls:=.type "dict",data:=.dict #[] }:=aao _ rfl;have hTn:({ s with heap:=s.heap.push { cls:=.type "dict",data:=.dict #[] } }:Shared).TypeIs (.ref s.heap.objs.size) "dict":=⟨_,hod,rfl⟩
  refine ⟨hTn,F.args_dict_init_2 _ _,?_⟩;unfold Builtin.«dict.__init__»;refine wpAny_bind ?_;unfold Builtin.Dict.selfAndRest;refine wpAny_bind (wpAny_notOrdered_dict hTn ?_);show wpAny _ _ (pure (s.heap.objs.size,[Value.ref o])) _ _ _;refine wpAny_pure ?_;show wpAny _ _ (abI "dict.__init__" s.heap.objs.size (.ref o) [] .none) _ _ _;unfold abI;refine wpAny_bind (wpAny_typeOf hT ?_);rw [if_neg (by decide)];refine wpAny_bind ?_;unfold Builtin.Dict.merge;refine wpAny_bind ?_;unfold Builtin.Dict.readDirectly;refine wpAny_bind (wpAny_isInstance hT isSubtype_dict_dict ?_);simp only [Bool.not_true,aaB,if_false];refine wpAny_bind (wpAny_specialOf hT F.slot_dict_iter.lookup (wpAny_pure ?_));simp only [beq_self_eq_true,if_true];refine wpAny_bind (wpAny_pure ?_);unfold Builtin.Dict.mergeDict;rw [if_neg (by simpa using hdo')];unfold abl;rw [if_neg (by rw [hoS];exact aae)];refine wpAny_bind (wpAny_pure ?_);refine wpAny_bind (wpAny_dictEntries hoo' hdo ?_);dsimp only;have hmem:∀ e∈eso.toList,∃ x∈xs,e=b_ w x:=fun e he=>by
    rw [heo] at he;obtain ⟨x,hx,rfl⟩:=aal.mp he;exact ⟨x,hx,rfl⟩
  have hkeys:∀ e∈eso.toList,∃ a,e.key=.ref a∧({ s with heap:=s.heap.push { cls:=.type "dict",data:=.dict #[] } }:Shared).TypeIs (.ref a) "tuple":=fun e he=>by
    obtain ⟨x,hx,rfl⟩:=hmem e he;obtain ⟨ks,ek⟩:=htup x hx;have:=hio x hx;rw [ek] at this;obtain ⟨a,e1,o1,its,n,g1,g2,_⟩:=this;exact ⟨a,e1,o1,kp _ _ g1,g2⟩
  have hsome:eso.size≠0:=by rw [bG heo];exact fun z=>hne (abb.mp z)
  have hfew:(decide (eso.size≤8) && eso.all fun e=>(keyPart e.key).isSome)=false:=by
    rw [Bool.and_eq_false_iff];right;rw [← Array.all_toList];rw [List.all_eq_false];have h0:0 < eso.toList.length:=by rw [aaV];lia
    refine ⟨eso.toList[0],abe h0,?_⟩;obtain ⟨a,ha,_⟩:=hkeys _ (abe h0);rw [ha];exact aae
  rw [hfew];simp only [Bool.not_false,if_true];refine wpAny_bind (wpAny_dictEntries hod rfl ?_);rw [if_pos (by rfl)];refine wpAny_bind (pi hoo' hdo hkeys (by rw [heo,aaD];exact hn) ?_);rw [if_pos (by simpa using hsome)];have hto:eso.size≤sizeLine+1:=by rw [bG heo];lia
  refine wpAny_bind (wpAny_updateDictKeysTo (es:=#[]) (ep:=0) hod rfl (wpAny_pure ?_) hto);show wpAny _ _ (Builtin.Dict.addKeywords s.heap.objs.size [] >>= _) _ _ _;have hsb:=aaO (s.heap.push { cls:=.type "dict",data:=.dict #[] }) s.heap.objs.size (Obj.mapDictKeys fun _=>eso);refine wpAny_bind (wpAny_pure (wpAny_pure ⟨rfl,h _ ⟨_,eso,0+1,aa9 _ hod rfl,⟨rfl,rfl,rfl⟩,rfl,heo,fun x hx=>?_,hno⟩ hsb⟩));exact ((hio x hx).kept kp).keeps hod rfl hsb
theorem qk {a b:Addr} {oa ob:Obj} {ea eb:Array DictEntry} {pa pb:Nat} {Q:Value→Shared→Prop} (ha:(a == sysModules)=false) (hb:(b == sysModules)=false) (hoa:s.heap.get? a=some oa) (hca:oa.ExactDict) (hda:oa.data=.dict ea pa)
    (hob:s.heap.get? b=some ob) (hcb:ob.ExactDict) (hdb:ob.data=.dict eb pb) (h0:eb.size=0) (hu:A.units < cLine) (h:Q (.bool (ea.size == 0)) s):wpAny (model prog w) A (compareOp .Eq (.ref a) (.ref b)) Q E s:=by
  have ta:s.TypeIs (.ref a) "dict":=⟨oa,hoa,hca.1⟩
  have tb:s.TypeIs (.ref b) "dict":=⟨ob,hob,hcb.1⟩
  refine wpAny_richCompare_same_room (op:=.Eq) ta tb PySem.F.slot_dict_eq (wpAny_call_entry PySem.F.slot_dict_eq ta PySem.F.entry_dict_eq ?_ (PySem.F.args_dict_eq_2 _ _)) hu;show wpAny _ _ (Builtin.Dict.dictSlotArgs "__eq__" ⟨[.ref a,.ref b],[]⟩ >>= _) _ _ s;refine wpAny_bind ?_;unfold Builtin.Dict.dictSlotArgs;refine wpAny_bind (wpAny_notOrdered_dict ta ?_);show wpAny _ _ (pure (Value.ref a,Value.ref b)) _ _ s;refine wpAny_pure ?_;refine wpAny_bind (wpAny_isInstance (T:="dict") tb PySem.F.sub_dict_dict ?_);simp only [Bool.not_true,aaB,if_false];refine wpAny_bind (wpAny_pure (wpAny_bind (wpAny_pure ?_)));refine wpAny_bind ?_;unfold Builtin.Dict.samePairs abl;rw [if_neg (show ¬ (a == sysModules)=true by rw [ha];exact aae),if_neg (show ¬ (b == sysModules)=true by rw [hb];exact aae)];refine wpAny_bind (wpAny_pure (wpAny_bind (wpAny_pure ?_)));refine wpAny_bind (wpAny_dictEntries hoa hda ?_);dsimp only;refine wpAny_bind (wpAny_dictEntries hob hdb ?_);rw [h0];by_cases c:ea.size=0
  · rw [c] at h ⊢;rw [if_neg (by simp)];refine wpAny_bind (wpAny_dictEpoch hoa hda ?_);refine wpAny_bind ?_;rw [Std.Legacy.Range.forIn_eq_forIn_range'];simp only [Std.Legacy.Range.size,Nat.sub_zero,Nat.add_sub_cancel,Nat.div_one];exact wpAny_pure (wpAny_pure (wpAny_pure ⟨_,rfl,(fun x=>nomatch x),by simpa using h⟩))
  · have e:(ea.size == 0)=false:=beq_eq_false_iff_ne.mpr c;rw [e] at h;rw [if_pos (by simpa using c)];exact wpAny_bind (wpAny_rule (wpAny_pure (wpAny_pure ⟨_,rfl,(fun x=>nomatch x),by simpa using h⟩)))
end
open PySem PySem.Spec PyProof.Rows
section
variable {X:Cx} {pins:List (Addr × Obj)} {σ:St} {H:Hp} {s:Shared}
theorem gu {P:Program} {w:World} {h:Heap}:∀ {ks:List Key} {us:List Value},Vals (ks.map kV) us→∃ as,ReadsAll h us (ks.map jV) as∧sysModules∉as
  | [],_,r=>by rw [abn] at r;cases r;exact ⟨_,.nil,by simp⟩
  | k :: ks,_,r=>by
    rw [aad] at r;cases r with
    | cons h t =>
      obtain ⟨as,ra,na⟩:=gu (P:=P) (w:=w) t;exact ⟨_,.cons (g8 (P:=P) (w:=w) (jU h)) ra,by simpa using na⟩
end
end L2
namespace L2
open PySem PySem.Spec PyProof.Rows PySem.SeqAt PySem.W
def bK (kvs:List KEn) (k:MK) (y v:V):List KEn:=if (kvs.any fun e=>decide (e.1=k))=true then kvs.map (fun e=>if e.1=k then (e.1,e.2.1,v) else e) else kvs++[(k,y,v)]
def cD (kvs:List KEn) (k:MK):List KEn:=kvs.filter fun e=>decide (e.1≠k)
def rdE (kvs:List KEn):List (MK × V):=kvs.map fun e=>(e.1,e.2.2)
theorem pO (kvs:List KEn) (k:MK) (y v:V):rdE (bK kvs k y v)=bX (rdE kvs) k v:=by
  have ha:(kvs.any fun e=>decide (e.1=k))=((rdE kvs).any fun e=>decide (e.1=k)):=by unfold rdE;rw [List.any_map];rfl
  unfold bK bX;rw [← ha];by_cases c:(kvs.any fun e=>decide (e.1=k))=true
  · rw [if_pos c,if_pos c];unfold rdE;rw [aaD,aaD];refine List.map_congr_left fun e _=>?_;show _=if e.1=k then (e.1,v) else (e.1,e.2.2)
    by_cases h:e.1=k
    · simp [h]
    · simp [h]
  · rw [if_neg c,if_neg c];unfold rdE;rw [aaM];rfl
theorem eJ (kvs:List KEn):(rdE kvs).map (·.1)=kvs.map (·.1):=by unfold rdE;rw [aaD];rfl
theorem js {kvs:List KEn} {k:MK} {y v:V} {e:KEn} (h:e∈bK kvs k y v):(∃ e0∈kvs,e.1=e0.1∧e.2.1=e0.2.1∧(e.2.2=e0.2.2∨e.2.2=v))∨e=(k,y,v):=by
  unfold bK at h;split at h
  · obtain ⟨e0,h0,rfl⟩:=aal.mp h;left;refine ⟨e0,h0,?_⟩;split
    · exact ⟨rfl,rfl,.inr rfl⟩
    · exact ⟨rfl,rfl,.inl rfl⟩
  · rcases aax.mp h with h|h
    · exact .inl ⟨e,h,rfl,rfl,.inl rfl⟩
    · exact .inr (aaI.mp h)
theorem cy (kvs:List KEn) (k:MK) (y v:V):(bK kvs k y v).length≤kvs.length+1:=by
  unfold bK;split
  · rw [aab];lia
  · rw [aav];exact aah _
theorem pT {kvs:List KEn} {k:MK} {y v:V} (h:(kvs.map (·.1)).Nodup):((bK kvs k y v).map (·.1)).Nodup:=by
  rw [← eJ,pO];cases c:bn (rdE kvs) k with
  | none=>exact qd v (by rw [eJ];exact h) c
  | some x =>
    have : ((bX (rdE kvs) k v).map (·.1))=(rdE kvs).map (·.1):=by
      unfold bX;rw [cM,c];simp only [Option.isSome_some,if_true,aaD];refine List.map_congr_left fun e _=>?_;show (if e.1=k then (e.1,v) else e).1=e.1;split <;> rfl
    rw [this,eJ];exact h
theorem pw {kvs:List KEn} {k:MK} (h:(kvs.map (·.1)).Nodup):((cD kvs k).map (·.1)).Nodup:=abO (List.filter_sublist.map _) h
theorem DmIn.to {w:World} {H:Hp} {a:Addr} {kvs ks:List KEn} (d:DmIn w H a kvs) (hk:∀ e∈ks,MkIn H e.1 e.2.1) (hn:(ks.map (·.1)).Nodup) (hl:ks.length≤1000):DmIn w (upd H a (dmX w a ks)) a ks :=
  ⟨ad,fun p hp=>(hk p hp).mono fun b xs e=>by rw [ak (oI e d.at_ (fun z=>nomatch z))];exact e,hn,hl⟩
theorem DmIn.put {w:World} {H:Hp} {a:Addr} {kvs:List KEn} {k:MK} {y:V} (v:V) (d:DmIn w H a kvs) (hk:MkIn H k y) (hl:kvs.length < 1000):DmIn w (upd H a (dmX w a (bK kvs k y v))) a (bK kvs k y v) :=
  d.to (fun e he=>by
    rcases js he with ⟨e0,h0,e1,e2,_⟩|rfl
    · rw [e1,e2];exact d.keys _ h0
    · exact hk) (pT d.nd) (by have:=cy kvs k y v;lia)
theorem DmIn.drop {w:World} {H:Hp} {a:Addr} {kvs:List KEn} (k:MK) (d:DmIn w H a kvs):DmIn w (upd H a (dmX w a (cD kvs k))) a (cD kvs k) :=
  d.to (fun e he=>d.keys _ (acD.mp he).1) (pw d.nd) (aaG (abQ _ _) d.len)
theorem oM {kvs:List KEn} {xs:List EM} (r:KM kvs xs) (k:MK):RelO (bn (rdE kvs) k) (atM xs k):=by
  refine om ?_ k;unfold rdE
  induction r with
  | nil=>exact .nil
  | cons h t ih=>exact .cons ⟨h.1,h.2.2⟩ ih
theorem qg {kvs:List KEn} {xs:List EM} (r:KM kvs xs) (k:MK) {v:V} {u:Value} (rv:RelV v u):KM (kvs.map fun e=>if e.1=k then (e.1,e.2.1,v) else e) (xs.map (fI k u)):=by
  induction r with
  | nil=>exact .nil
  | @cons p q ps qs h t ih =>
    rw [aad,aad];refine .cons ?_ ih;unfold fI;by_cases e:p.1=k
    · rw [if_pos e,if_pos (h.1.symm.trans e)];exact ⟨h.1,h.2.1,rv⟩
    · rw [if_neg e,if_neg (fun z=>e (h.1.trans z))];exact h
theorem rp {kvs:List KEn} {xs:List EM} (r:KM kvs xs) (k:MK) {y v:V} {key u:Value} (ry:RelV y key) (rv:RelV v u):KM (bK kvs k y v) (stM xs k key u):=by
  have e:(kvs.any fun e=>decide (e.1=k))=(atM xs k).isSome:=by
    rw [← (oM r k).isSome_eq,← cM];unfold rdE;rw [List.any_map];rfl
  unfold bK stM;rw [e];by_cases q:(atM xs k).isSome=true
  · rw [if_pos q,if_pos q];exact qg r k rv
  · rw [if_neg q,if_neg q];exact Paired.snoc r ⟨rfl,ry,rv⟩
theorem qi {kvs:List KEn} {xs:List EM} (r:KM kvs xs) (k:MK):KM (cD kvs k) (noM xs k):=by
  unfold cD noM
  induction r with
  | nil=>exact .nil
  | @cons p q ps qs h t ih =>
    rw [acu,acu];by_cases e:p.1=k
    · rw [if_neg (by simp [e]),if_neg (by simp [h.1.symm.trans e])];exact ih
    · rw [if_pos (by simp [e]),if_pos (by simpa using fun z=>e (h.1.trans z))];exact .cons h ih
theorem lh {P:Program} {w:World} {h:Heap} {H:Hp} {a:Addr} {kvs:List KEn} {xs:List EM} (r:KM kvs xs) (d:DictM P w h a xs):ObjOk P w H h a (dmX w a kvs):=by
  obtain ⟨o,es,ep,ho,hx,hd,he,_,_⟩:=d;refine ⟨⟨o,ho,hx,es,ep,hd,?_⟩,⟨o,ho⟩,fun h1 h2 ⟨o,e,q⟩ k=>⟨o,k _ e,q⟩⟩;rw [he];have : ∀ {l:List KEn} {m:List EM},KM l m→Paired (fun (p:KEn) (e:DictEntry)=>e.hash=hM w p.1∧RelV p.2.1 e.key∧RelV p.2.2 e.val) l (m.map (b_ w)):=by
    intro l m q
    induction q with
    | nil=>exact .nil
    | @cons p q ps qs h t ih=>exact .cons ⟨by rw [h.1];rfl,h.2⟩ ih
  exact this r
def si (w:World) (td ty tv:TE):TS:=fun D σ H=>tv σ H fun v H1=>td σ H1 fun x H2=>ty σ H2 fun y H3=>∃ a kvs k,x=.ref a∧DmIn w H3 a kvs∧MkIn H3 k y∧kvs.length < 1000∧D.nx σ (upd H3 a (dmX w a (bK kvs k y v)))
def rY (w:World) (td ty:TE):TE:=fun σ H Q=>td σ H fun x H1=>∃ a es,x=.ref a∧Pd w H1 a es∧ty σ H1 fun y H2=>∃ kvs k v,DmIn w H2 a kvs∧MkIn H2 k y∧bn (rdE kvs) k=some v∧Q v (upd H2 a (dmX w a (cD kvs k)))
section
variable {X:Cx} {o i e f value:Expr} {pos pos' tpos apos cpos:Pos} {td ty tv tx:TE} {w:World}
theorem g7 {pins:List (Addr × Obj)} {σ:St} {H:Hp} {s:Shared} {a:Addr} {kvs:List KEn} {k:MK} {y v:V} {u r:Value} {A:Around} {E:Value→Shared→Prop} {Q:Unit→Shared→Prop} (hu:A.units+1 < cLine) (I:Inv X pins σ H s) (d:DmIn X.w H a kvs) (hk:MkIn H k y) (hl:kvs.length < 1000) (ry:RelV y u) (rv:RelV v r) (h:∀ s',Inv X pins σ (upd H a (dmX X.w a (bK kvs k y v))) s'→Q () s') :
    wpAny (model X.prog X.w) A (setItem (.ref a) u r) Q E s:=by
  obtain ⟨xs,rel,dd⟩:=fA I d;have lx:=aar rel;refine mV hu (iS I hk ry) dd (fun h' dd' hs=>h _ ?_) (by rw [sizeLine_eq];lia);have he:∃ q,h'.get? a=some q:=let ⟨q,_,_,hq,_⟩:=dd';⟨q,hq⟩;exact eU I (by rw [d.at_];exact True.intro) hs he (lh (rp rel k ry rv) dd')
theorem eL (hw:X.w=w) (hu:X.A.units+1 < cLine) (ho:PE X o td) (hi:PE X i ty) (hv:PE X value tv) (hs:swapsWith value (some (.Subscript o i pos')) pos.line X.env=pure false) :
    PS X (.Assign [.Subscript o i pos'] value pos) (si w td ty tv):=by
  subst hw;intro pins s σ H D I h;refine wpAny_Assign_Subscript (thn (hv pins s σ H _ I h) fun r s1 ⟨v,H1,I1,rv,q1⟩=>thn (ho pins s1 σ H1 _ I1 q1) fun u s2 ⟨x,H2,I2,rx,q2⟩=>thn (hi pins s2 σ H2 _ I2 q2) fun iv s3 ⟨y,H3,I3,ry,a,kvs,k,ex,d,hk,hl,q3⟩=>?_) hs;subst ex;obtain rfl:u=Value.ref a:=rx;exact g7 hu I3 d hk hl ry rv fun s4 I4=>⟨σ,_,I4,q3⟩
theorem iD (hw:X.w=w) (hu:X.A.units+1 < cLine) (ho:PE X o td) (he:PE X e ty) (m:M1 X o "pop" apos e cpos):PE X (.Call (.Attribute o "pop" apos) [e] [] cpos) (rY w td ty):=by
  subst hw;intro pins s σ H Q I h;refine wpAny_Call_method m.base m.few m.line ach PySem.F.slot_dict_pop PySem.F.type_dict_pop (thn (ho pins s σ H _ I h) fun u s1 ⟨x,H1,I1,rx,a,es,ex,d,q1⟩=>?_);subst ex;obtain rfl:u=Value.ref a:=rx;obtain ⟨t1,t2⟩:=me I1 d;refine ⟨t1,t2,?_⟩;rw [m.trees];refine abN rfl (Calls.evalArgs_plain (acd (thn (he pins s1 σ H1 _ I1 q1) fun iv s2 ⟨y,H2,I2,ry,kvs,k,v,dm,hk,l,q2⟩=>Calls.spliced_nil ?_)));obtain ⟨xs,rel,dd⟩:=fA I2 dm;have lx:=aar rel;obtain ⟨w',hw,rw'⟩:=RelO.some_of (v:=v) (o:=atM xs k) (by rw [← l];exact oM rel k);refine sy hu (iS I2 hk ry) dd hw [] (.inl rfl) (fun h' dd' hs=>⟨v,_,?_,rw',q2⟩) (by rw [sizeLine_eq];have:=dm.len;lia);have he:∃ q,h'.get? a=some q:=let ⟨q,_,_,hq,_⟩:=dd';⟨q,hq⟩;exact eU I2 (by rw [dm.at_];exact True.intro) hs he (lh (qi rel k) dd')
end
theorem h_ {X:Cx} {w:World} (hw:X.w=w):bz X (.builtin "len") (fun xs H Q=>∃ a es,xs=[V.ref a]∧Pd w H a es∧Q (.int es.length) H):=by
  subst hw;intro pins s σ H xs us Q I r h;obtain ⟨a,es,rfl,ha,q⟩:=h;obtain ⟨u,rfl,ru⟩:=cn r;cases ru;obtain ⟨xs,rel,⟨o,en,ep,ho,c,dat,l,_,_⟩,hd,z⟩:=gi I ha;have hs:en.size=es.length:=by rw [bG l,← aar rel]
  refine eW hd ho c dat (by rw [hs];rw [sizeLine_eq] at z;lia) ?_;rw [hs];exact ⟨.int es.length,H,I.tok _,⟨_,rfl⟩,q⟩
theorem oO {es:Array DictEntry} {ws:List Value} (hl:ws.length=es.size) (hw:∀ (j:Nat) (v:Value),ws[j]?=some v→∃ e,es[j]?=some e∧v=e.key):ws=es.toList.map (·.key):=by
  refine List.ext_getElem? fun i=>?_;by_cases hi:i < es.size
  · have hi':i < ws.length:=by lia
    obtain ⟨en,e2,e3⟩:=hw i _ (aac hi');have e4:es.toList[i]?=some en:=by rw [← e2];exact abx
    rw [aap,e4,aac hi',e3];rfl
  · rw [aby (by lia),aby (by rw [aab,aaV];lia)]
theorem lr {X:Cx} {w:World} (hw:X.w=w) (hc:X.calm=true):bz X (.type "list") (fun xs H Q=>∃ (dd:Addr) (kvs:List KEn),xs=[.ref dd]∧DmIn w H dd kvs∧∀ l:Addr,H l=none→Q (.ref l) (upd H l (.lst (kvs.map (·.2.1))))):=by
  subst hw;intro pins s σ H xs us Q I r h;obtain ⟨dd,kvs,rfl,hH,q⟩:=h;obtain ⟨u,rfl,ru⟩:=cn r;cases ru;obtain ⟨ys,rel,o,es,ep,ho,cx,dat,l,_,_⟩:=fA I hH;have hsz:es.size=kvs.length:=by rw [bG l,← aar rel]
  have hl:=hH.len;refine PySem.W.kdl_call (gY (iR I hH.at_) cx dat) (I.ok.hd hc) ho (by rw [sizeLine_eq];lia) fun h' tk acc' c' kp e hi=>?_;have ea:acc'.toList=es.toList.map (·.key):=oO (by rw [aaV];exact hi.1) fun j v hv=>hi.2 j v (by rw [← abx];exact hv);have hV:Vals (kvs.map (·.2.1)) acc'.toList:=by
    rw [ea,l,aaD];have : ∀ {l:List KEn} {m:List EM},KM l m→Vals (l.map (·.2.1)) (m.map ((fun e:DictEntry=>e.key) ∘ b_ X.w)):=by
      intro l m q
      induction q with
      | nil=>exact .nil
      | cons h t ih=>exact .cons h.2.1 ih
    exact this rel
  exact ⟨.ref s.heap.objs.size,_,I.laid (t':=tk) kp (aah _) (show ObjOk X.prog X.w _ h' _ (.lst (kvs.map (·.2.1))) from ⟨by rw [aab,sizeLine_eq];lia,acc'.toList,c',hV,by simpa using e⟩),rfl,q _ (I.hok.fresh (aah _))⟩
theorem lf {H:Hp}:∀ {kvs:List (List Int × V)} {ys:List (List Key × Addr × Value)},KT H (kvs.map fun p=>(p.1.map Sum.inl,p.2)) ys→∃ ks:List KEn,rdE ks=(kvs.map fun p=>(MK.tup p.1,p.2))∧(∀ e∈ks,MkIn H e.1 e.2.1)∧ks.map (·.2.1)=ys.map fun y=>V.ref y.2.1
  | [],_,r=>by rw [abn] at r;cases r;exact ⟨[],rfl,(fun x hx=>nomatch hx),rfl⟩
  | p :: kvs,_,r=>by
    rw [aad] at r;cases r with
    | @cons _ q _ qs h t =>
      obtain ⟨ks,r1,r2,r3⟩:=lf t;refine ⟨(.tup p.1,.ref q.2.1,p.2) :: ks,by unfold rdE at r1 ⊢;rw [aad,aad,r1],fun x hx=>?_,by rw [aad,aad,r3]⟩;rcases aai.mp hx with rfl|hx
      · exact ⟨q.2.1,_,rfl,h.2.1,by rw [aaD];exact BiL.ints p.1⟩
      · exact r2 x hx
theorem lw {X:Cx} {w:World} (hw:X.w=w) (hc:X.calm=true):bz X (.type "dict") (fun xs H Q=>∃ (a:Addr) (kvs:List (List Int × V)),xs=[.ref a]∧H a=some (.dT (kvs.map fun p=>(p.1.map Sum.inl,p.2)))∧kvs≠[]∧(kvs.map fun p=>hM w (.tup p.1)).Nodup∧kvs.length≤1000 ∧
    ∀ (p:Addr) (ks:List KEn),H p=none→DmIn w (upd H p (dmX w p ks)) p ks→rdE ks=(kvs.map fun p=>(MK.tup p.1,p.2))→Q (.ref p) (upd H p (dmX w p ks))):=by
  subst hw;intro pins s σ H xs us Q I r h;obtain ⟨a,kvs,rfl,ha,hne,hn,hl,q⟩:=h;obtain ⟨u,rfl,ru⟩:=cn r;cases ru;obtain ⟨z,hd,ys,rel,o,es,ep,h1,h2,h3,h4,h5,h6⟩:=h7 I.hok ha;obtain ⟨xs,r1,r2,r3,r4⟩:=pj (P:=X.prog) (w:=X.w) (h:=s.heap) (Paired.mapP rel fun _ _ z=>⟨z.1,z.2.2⟩) h5;obtain ⟨ks,k1,k2,k3⟩:=lf rel;have nd:(xs.map (·.1)).Nodup:=by
    rw [r4];refine lF ?_;have e:∀ {l:List (List Key × V)} {m:List (List Key × Addr × Value)},KT H l m→m.map (·.1)=l.map (·.1):=by
      intro l m q
      induction q with
      | nil=>rfl
      | cons h t ih=>rw [aad,aad,ih,h.1]
    have : ys.map (·.1)=kvs.map fun p=>p.1.map (Sum.inl:Int→Key):=by rw [e rel,aaD];rfl
    rw [← this];exact h6
  have lx:=aar r1;rw [aab] at lx;have dx:DictM X.prog X.w s.heap a xs:=⟨o,es,ep,h1,h2,h3,by rw [h4,r2],r3,nd⟩
  refine tm hd dx (by rw [sizeLine_eq];lia) (fun z=>hne (by rw [z] at lx;exact abb.mp lx)) (fun x hx=>?_) (by rw [show xs.map (fun x=>hM X.w x.1)=(xs.map (·.1)).map (hM X.w) by rw [aaD];rfl,r4,aaD];exact hn) fun h' dd' hs=>?_
  · have:=abu (f:=(·.1)) hx;rw [r4] at this;obtain ⟨p,_,e⟩:=aal.mp this;exact ⟨p.1,e.symm⟩
  have kk:ks.map (·.1)=xs.map (·.1):=by rw [← eJ,k1,r4,aaD];rfl
  have rk:KM ks xs:=by
    have e1:xs.map (fun x=>x.2.1)=ys.map fun y=>Value.ref y.2.1:=by
      have:=congrArg (List.map fun e:DictEntry=>e.key) r2;rw [aaD,aaD] at this;exact this.symm
    have go:∀ {l:List KEn} {m:List EM} {n:List (List Key × Addr × Value)},l.map (·.1)=m.map (·.1)→l.map (·.2.1)=n.map (fun y=>V.ref y.2.1)→m.map (fun x=>x.2.1)=n.map (fun y=>Value.ref y.2.1)→PM (rdE l) m→KM l m:=by
      intro l
      induction l with
      | nil=>intro m n e _ _ _;cases m with
        | nil=>exact .nil
        | cons _ _=>simp at e
      | cons p l ih =>
        intro m n e e2 e3 pm;cases m with
        | nil=>simp at e
        | cons q m =>
          cases n with
          | nil=>simp at e2
          | cons y n =>
            rw [aad,aad] at e e2 e3;injection e with e' e
            injection e2 with e2' e2
            injection e3 with e3' e3
            cases pm with
            | cons ph pt=>exact .cons ⟨e',by rw [e2',e3'];rfl,ph.2⟩ (ih e e2 e3 pt)
    exact go kk k3 e1 (by rw [k1];exact r1)
  have np:=I.hok.fresh (aah s.heap.objs.size);refine ⟨.ref s.heap.objs.size,_,I.laid (a:=s.heap.objs.size) (o:=dmX X.w s.heap.objs.size ks) (t':=s.toks) (fun b q hq=>?_) (aah _) (lh rk dd'),rfl,q _ ks np ⟨ad,fun p hp=>(k2 p hp).mono fun b xs e=>by rw [ak (aj e np)];exact e,by rw [kk];exact nd,by have:=aar rk;lia⟩ k1⟩;exact (hs.2 b (aaz (aan hq))).trans (aaf _ hq)
def tY (w:World):R2:=fun x y H Q=>∃ a b kvs,x=.ref a∧y=.ref b∧DmIn w H a kvs∧H b=some (.dK [])∧Q (.bl (kvs.length == 0)) H
theorem q_ {X:Cx} {w:World} (hw:X.w=w) (hu:X.A.units+64 < cLine):OpR X (compareOp .Eq) (tY w):=by
  subst hw;intro pins s σ H x y v u Q I rx ry h;obtain ⟨a,b,kvs,rfl,rfl,ha,hb,q⟩:=h;cases rx;cases ry;obtain ⟨xs,rel,o,es,ep,ho,cx,dat,l,_,_⟩:=fA I ha;have hsz:es.size=kvs.length:=by rw [bG l,← aar rel]
  obtain ⟨_,hs,vs,r0,ob,eb,epb,h1,h2,h3,_,h4,_⟩:=mz I.hok hb;cases r0;have hz:eb.size=0:=by have:=h4.length;rw [aaV] at this;exact this
  refine qk (iR I ha.at_) hs ho cx dat h1 h2 h3 hz (by lia) ?_;rw [hsz];exact ⟨.bl _,H,I,rfl,q⟩
def TyP (w:World) (K:aaa) (H:Hp) (x:V) (t:Value):Prop:=TyOf K H x t∨∃ a es,x=.ref a∧Pd w H a es∧t=.type "dict"
theorem eY {X:Cx} {n:String} {w:World} {K:aaa} (hw:X.w=w) (hK:X.K=K):bz X (.builtin "isinstance") (fun xs H Q=>∃ x t b,xs=[x,.ty n]∧TyP w K H x t∧abM K t (.type n)=some b∧Q (.bl b) H):=by
  subst hw hK;intro pins s σ H xs us Q I r h;obtain ⟨x,t,b,rfl,ty,e,q⟩:=h;obtain ⟨u,w',rfl,rx,rt⟩:=ja r;cases rt;rcases ty with ty|⟨a,es,rfl,d,rfl⟩
  · exact hW I rx ty e fun tk=>⟨.bl b,H,I.tok _,rfl,q⟩
  · cases rx;obtain ⟨xs,rel,⟨o,en,ep,ho,c,_⟩,_⟩:=gi I d;exact aa3 ab0 I.kIn ⟨_,ho,c.1⟩ e (fun z=>nomatch z) fun tk=>⟨.bl b,H,I.tok _,rfl,q⟩
end L2
namespace L2
open PySem PySem.Spec PyProof.Rows PySem.W
def Itw (d:Addr) (o:Obj) (u:HO) (vs:List V):It :=
  ⟨fun i H=>H d=some (.frz o u)∧i < vs.length,fun i H x H'=>H'=H∧vs[i]?=some x,fun i H=>H d=some (.frz o u)∧vs.length≤i⟩
theorem kj {P:Program} {w:World} {K:aaa} {tg:Expr} (d it:Addr) (o:Obj) (u:HO) (vs:List V) (es:Array DictEntry) (ep:Nat) (hd:o.data=.dict es ep) (hv:Vals vs (es.toList.map fun e:DictEntry=>e.val)):Turn P w K tg (Itw d o u vs) [it] it (fun i h=>h.IsValIter it d i vs.length ep) where
  mem:=by simp
  obj:=fun i h st b hb=>by
    have e:b=it:=by simpa using hb
    subst e;obtain ⟨o,e,c,d⟩:=st;exact ⟨o,e,fun v z=>by rw [d] at z;cases z⟩
  keep:=fun i h h' st k=>by
    obtain ⟨o,e,r⟩:=st;exact ⟨o,k it (by simp) o e,r⟩
  item:=by
    intro X hP hw hK hc i pins s σ H E I hf st hg;subst hP hw hK;obtain ⟨e,hlt⟩:=hg;obtain ⟨ho,_⟩:=(show ObjOk X.prog X.w H s.heap d (.frz o u) from I.hok d _ e)
    have lv:vs.length=es.size:=by have:=hv.length;simpa using this
    obtain ⟨f0,f1,f2,f3,f4,f5⟩:=hf it (by simp);have hx:es[i]?=some es[i]:=ab2 (by lia);have hkv:vs[i]?=some vs[i]:=aac hlt;have hr:RelV vs[i] es[i].val:=by
      obtain ⟨u',h1,h2⟩:=Vals.get hv hkv;rw [aap,abx,hx] at h1;cases h1;exact h2
    refine oH st ho hd lv.symm (e:=es[i]) hx fun h' st' sb=>?_;have I1:Inv X pins σ H { s with heap:=h' }:=I.turned (t':=s.toks) (fun b o hb e=>(sb.2 b hb).trans e) f0 f1 f3 f4 f5;obtain ⟨oi,e1,c1,d1⟩:=id st';refine ⟨_,rfl,gz (s:={ s with heap:=h' }) e1 c1 d1 (by decide) ⟨vs[i],H,I1,hr,⟨rfl,hkv⟩,st',fun b hb=>(hf b hb).1⟩⟩
  done:=by
    intro X hP hw hK hc i pins s σ H E I hf st hg;subst hP hw hK;obtain ⟨e,hge⟩:=hg;obtain ⟨ho,_⟩:=(show ObjOk X.prog X.w H s.heap d (.frz o u) from I.hok d _ e)
    have lv:vs.length=es.size:=by have:=hv.length;simpa using this
    obtain ⟨f0,f1,f2,f3,f4,f5⟩:=hf it (by simp);exact nA (I.ok.hd hc) st ho hd lv.symm (by lia) fun h' eb=>⟨rfl,I.turned (t':=s.toks) (fun b o hb e=>eb b o hb e) f0 f1 f3 f4 f5⟩
  self:=fun _ _ _ _ _ st h=>wpAny_pyIter_valiter st h
def rF (w:World) (te:TE):TI:=fun σ H R=>te σ H fun x H1=>∃ d es u,x=.ref d∧Pd w H1 d es∧H1 d=some u∧∀ o,R (Itw d o u (es.map (·.2))) (upd H1 d (.frz o u))
theorem oq {X:Cx} {tg:Expr} {o:Expr} {to:TE} {apos cpos:Pos} {w:World} (hw:X.w=w) (ho:PE X o to)
    (hbase:attributeBase o "values" X.env (eval o X.env)=eval o X.env:=by rfl) (hline:(apos.endLine == cpos.line)=true:=by rfl):PI X tg (.Call (.Attribute o "values" apos) [] [] cpos) (rF w to):=by
  subst hw;intro pins s σ H R I h;refine wpAny_Call_method0_late hbase hline (thn (ho pins s σ H _ I h) fun v s1 ⟨x,H1,I1,r1,d,es,u,ex,hp,hu,q1⟩=>?_);subst ex;cases r1;obtain ⟨xs,rel,⟨ob,en,ep,g,c,dat,l,_,_⟩,hs,z⟩:=gi I1 hp;have hv:Vals (es.map (·.2)) (en.toList.map fun e:DictEntry=>e.val):=by
    rw [l,aaD];have : ∀ {l:List (MK × V)} {m:List EM},PM l m→Vals (l.map (·.2)) (m.map ((fun e:DictEntry=>e.val) ∘ b_ X.w)):=by
      intro l m q
      induction q with
      | nil=>exact .nil
      | cons h t ih=>exact .cons h.2 ih
    exact this rel
  have lv:es.length=en.size:=by have:=hv.length;simpa using this
  have hn:(∀ ys,u≠.tup ys)∧(∀ ps,u≠.tbl ps)∧(∀ y,u≠.own y)∧∀ o v,u≠.frz o v:=by
    rcases hp with ⟨kvs,h,_⟩|⟨kvs,h,_⟩|⟨h,_⟩
    · rw [hu] at h;cases h;exact ⟨fun _ z=>(by cases z),fun _ z=>(by cases z),fun _ z=>(by cases z),fun _ _ z=>(by cases z)⟩
    · have h:=h.at_;rw [hu] at h;cases h;exact ⟨fun _ z=>(by cases z),fun _ z=>(by cases z),fun _ z=>(by cases z),fun _ _ z=>(by cases z)⟩
    · rw [hu] at h;cases h;exact ⟨fun _ z=>(by cases z),fun _ z=>(by cases z),fun _ z=>(by cases z),fun _ _ z=>(by cases z)⟩
  have nf:∀ o v,X.H₀ d≠some (.frz o v):=fun o v q=>by
    have z:=I1.base.frzs d o v q;rw [hu] at z;injection z with z;exact hn.2.2.2 _ _ z
  have I2:Inv X pins σ (upd H1 d (.frz ob u)) s1:=I1.retype hu hn.1 hn.2.1 hn.2.2.1 nf ⟨g,I1.hok d _ hu⟩;have q:=q1 ob;generalize hH2:upd H1 d (.frz ob u)=H2 at I2 q;have hT:s1.TypeIs (.ref d) "dict":=⟨ob,g,c.1⟩
  refine ⟨"dict","dict.values",ach,PySem.F.slot_dict_values,PySem.F.type_dict_values,hT,fun a e=>by cases e;exact ⟨ob,g,c.2.1⟩,abN rfl (PySem.evalArgs_none ?_)⟩;refine call_meetsIn PySem.F.slot_dict_values hT PySem.F.entry_dict_values (PySem.F.args_dict_values_1 _) (gR d hs) ⟨hT,?_⟩;have g1:(s1.heap.push { cls:=.type "dict_values",data:=.fields #[.ref d] }).get? d=some ob:=aaf _ g;refine nF (s:={ s1 with heap:=s1.heap.push { cls:=.type "dict_values",data:=.fields #[.ref d] } }) (v:=s1.heap.objs.size) (d:=d) ⟨_,aao _ rfl,rfl,rfl⟩ g1 dat ?_;have kp:∀ b o,s1.heap.get? b=some o→((s1.heap.push { cls:=.type "dict_values",data:=.fields #[.ref d] }).push { cls:=.type "dict_valueiterator",data:=.fields #[.ref d,.int 0 0,.int en.size 0,.int ep 0] }).get? b=some o:=fun b o e=>aaf _ (aaf _ e);have hsz2:(s1.heap.push { cls:=.type "dict_values",data:=.fields #[.ref d] }).objs.size=s1.heap.objs.size+1:=Heap.size_push _ _;refine ⟨(s1.heap.push { cls:=.type "dict_values",data:=.fields #[.ref d] }).objs.size,[(s1.heap.push { cls:=.type "dict_values",data:=.fields #[.ref d] }).objs.size],_,_,H2,rfl,I2.kept (t':=s1.toks) kp,kj d _ ob u (es.map (·.2)) en ep dat hv,⟨_,aao _ rfl,rfl,by rw [aab,lv];rfl⟩,fun b hb=>?_,q⟩;have e:b=(s1.heap.push { cls:=.type "dict_values",data:=.fields #[.ref d] }).objs.size:=by simpa using hb
  have hb2:s1.heap.objs.size≤b:=by rw [e,hsz2];exact Nat.le_succ _
  exact I2.fpOk hb2 (I2.hok.fresh hb2)
theorem Trn.valsM {d:Addr} {o:Obj} {u:HO} {vs:List V}:Trn (Itw d o u vs) vs.length (fun H=>H d=some (.frz o u)) (fun i x H H'=>H'=H∧vs[i]?=some x) :=
  ⟨fun i H hi q=>⟨q,hi⟩,fun H q=>⟨q,aah _⟩,fun i H x H' hi q y=>y⟩
def Dx0 (w:World) (H:Hp) (d:PyData) (v:V):Prop:=Dat H d v ∨
  (∃ (a:Addr) (kvs:List (List Key × V)) (ds:List PyData),v=.ref a∧H a=some (.dT kvs)∧Paired (Dat H) ds (kvs.map (·.2))∧d=.dict ((kvs.map fun p=>.tuple (p.1.map jV)).zip ds)) ∨
  ∃ (a:Addr) (kvs:List KEn) (ks ds:List PyData),v=.ref a∧DmIn w H a kvs∧Paired (Dat H) ks (kvs.map (·.2.1))∧Paired (Dat H) ds (kvs.map (·.2.2))∧d=.dict (ks.zip ds)
def Dx1 (w:World) (H:Hp) (d:PyData) (v:V):Prop:=Dx0 w H d v∨∃ (a:Addr) (xs:List V) (ds:List PyData),v=.ref a∧Paired (Dx0 w H) ds xs∧((H a=some (.lst xs)∧d=.list ds)∨(H a=some (.tup xs)∧d=.tuple ds))
theorem Dx0.mono {w:World} {H H':Hp} (g:Same H H') {d:PyData} {v:V} (h:Dx0 w H d v):Dx0 w H' d v:=by
  have m:∀ {ds:List PyData} {vs:List V},Paired (Dat H) ds vs→Paired (Dat H') ds vs:=fun p=>Paired.mapP p fun d v z=>Dat.mono g d v z;rcases h with h|⟨a,kvs,ds,e,h1,h2,h3⟩|⟨a,kvs,ks,ds,e,h1,h2,h3,h4⟩
  · exact .inl (Dat.mono g d v h)
  · exact .inr (.inl ⟨a,kvs,ds,e,g _ _ h1,m h2,h3⟩)
  · exact .inr (.inr ⟨a,kvs,ks,ds,e,h1.mono g,m h2,m h3,h4⟩)
theorem Dx1.mono {w:World} {H H':Hp} (g:Same H H') {d:PyData} {v:V} (h:Dx1 w H d v):Dx1 w H' d v:=by
  rcases h with h|⟨a,xs,ds,e,h1,h2⟩
  · exact .inl (h.mono g)
  · exact .inr ⟨a,xs,ds,e,Paired.mapP h1 fun _ _ z=>z.mono g,h2.imp (fun ⟨x,y⟩=>⟨g _ _ x,y⟩) fun ⟨x,y⟩=>⟨g _ _ x,y⟩⟩
section
variable {X:Cx} {pins:List (Addr × Obj)} {σ:St} {H:Hp} {s:Shared}
theorem de (I:Inv X pins σ H s):∀ {ds:List PyData} {vs:List V} {us:List Value},Paired (Dat H) ds vs→Vals vs us→∃ as,ReadsAll s.heap us ds as∧sysModules∉as
  | _,_,_,.nil,r=>by cases r;exact ⟨_,.nil,by simp⟩
  | _,_,_,.cons h t,r=>by
    cases r with
    | cons r1 r2 =>
      obtain ⟨as,ra,na⟩:=Dat.reads I _ _ _ h r1;obtain ⟨bs,rb,nb⟩:=de I t r2;exact ⟨_,.cons ra rb,fun z=>(aax.mp z).elim na nb⟩
theorem ij:∀ {as bs:List PyData},as.length=bs.length→(as.zip bs).map (·.1)=as
  | [],[],_=>rfl
  | [],_ :: _,h=>by simp at h
  | _ :: _,[],h=>by simp at h
  | a :: as,b :: bs,h=>by simp only [abP,aad,ij (act h)]
theorem ii:∀ {as bs:List PyData},as.length=bs.length→(as.zip bs).map (·.2)=bs
  | [],[],_=>rfl
  | [],_ :: _,h=>by simp at h
  | _ :: _,[],h=>by simp at h
  | a :: as,b :: bs,h=>by simp only [abP,aad,ii (act h)]
theorem mE (I:Inv X pins σ H s):∀ {kvs:List (List Key × V)} {ys:List (List Key × Addr × Value)},KT H kvs ys→∃ as,ReadsAll s.heap (ys.map fun y=>Value.ref y.2.1) (kvs.map fun p=>PyData.tuple (p.1.map jV)) as∧sysModules∉as
  | _,_,.nil=>⟨_,.nil,by simp⟩
  | _,_,.cons (a:=p) (b:=q) h t=>by
    obtain ⟨its,rv,⟨o2,f1,f2,n,f3⟩,_⟩:=I.tuple (SqT.of h.2.1);obtain ⟨as,ra,na⟩:=gu (P:=X.prog) (w:=X.w) (h:=s.heap) rv;obtain ⟨bs,rb,nb⟩:=mE I t;exact ⟨_,.cons (.tuple f1 f2 f3 (by simpa using ra)) rb,fun z=>(aax.mp z).elim na nb⟩
theorem Dx0.reads (I:Inv X pins σ H s) {d:PyData} {v:V} {u:Value} (h:Dx0 X.w H d v) (r:RelV v u):∃ as,Reads s.heap u d as∧sysModules∉as:=by
  rcases h with h|⟨a,kvs,ds,rfl,ha,hd,rfl⟩|⟨a,kvs,ks,ds,rfl,ha,hk,hd,rfl⟩
  · exact Dat.reads I d v u h r
  · cases r;obtain ⟨_,_,ys,rel,o,es,ep,e1,ex,e3,e4,_,_⟩:=h7 I.hok ha;obtain ⟨as,ra,na⟩:=mE I rel;have hv:Vals (kvs.map (·.2)) (ys.map fun y=>y.2.2):=lD (P:=X.prog) (w:=X.w) rel;obtain ⟨bs,rb,nb⟩:=de I hd hv;have ek:es.toList.map (·.key)=ys.map fun y=>Value.ref y.2.1:=by rw [e4,aaD];rfl
    have ev:es.toList.map (·.val)=ys.map fun y=>y.2.2:=by rw [e4,aaD];rfl
    have hl:(kvs.map fun p=>PyData.tuple (p.1.map jV)).length=ds.length:=by rw [aar hd,aab,aab]
    refine ⟨_,.dict e1 ex.1 e3 (by rw [ek,ij hl];exact ra) (by rw [ev,ii hl];exact rb),fun z=>?_⟩;rcases aax.mp z with z|z
    · rcases aai.mp z with z|z
      · exact I.nosys ha z.symm
      · exact na z
    · exact nb z
  · cases r;obtain ⟨xs,rel,o,es,ep,e1,ex,e3,e4,_,_⟩:=fA I ha;have hvk:Vals (kvs.map (·.2.1)) (xs.map fun x=>x.2.1):=by
      have : ∀ {l:List KEn} {m:List EM},KM l m→Vals (l.map (·.2.1)) (m.map fun x=>x.2.1):=by
        intro l m q
        induction q with
        | nil=>exact .nil
        | cons h t ih=>exact .cons h.2.1 ih
      exact this rel
    have hvv:Vals (kvs.map (·.2.2)) (xs.map fun x=>x.2.2):=by
      have : ∀ {l:List KEn} {m:List EM},KM l m→Vals (l.map (·.2.2)) (m.map fun x=>x.2.2):=by
        intro l m q
        induction q with
        | nil=>exact .nil
        | cons h t ih=>exact .cons h.2.2 ih
      exact this rel
    obtain ⟨as,ra,na⟩:=de I hk hvk;obtain ⟨bs,rb,nb⟩:=de I hd hvv;have ek:es.toList.map (·.key)=xs.map fun x=>x.2.1:=by rw [e4,aaD];rfl
    have ev:es.toList.map (·.val)=xs.map fun x=>x.2.2:=by rw [e4,aaD];rfl
    have hl:ks.length=ds.length:=by rw [aar hd,aar hk,aab,aab]
    refine ⟨_,.dict e1 ex.1 e3 (by rw [ek,ij hl];exact ra) (by rw [ev,ii hl];exact rb),fun z=>?_⟩;rcases aax.mp z with z|z
    · rcases aai.mp z with z|z
      · exact I.nosys ha.at_ z.symm
      · exact na z
    · exact nb z
theorem eA (I:Inv X pins σ H s):∀ {ds:List PyData} {vs:List V} {us:List Value},Paired (Dx0 X.w H) ds vs→Vals vs us→∃ as,ReadsAll s.heap us ds as∧sysModules∉as
  | _,_,_,.nil,r=>by cases r;exact ⟨_,.nil,by simp⟩
  | _,_,_,.cons h t,r=>by
    cases r with
    | cons r1 r2 =>
      obtain ⟨as,ra,na⟩:=h.reads I r1;obtain ⟨bs,rb,nb⟩:=eA I t r2;exact ⟨_,.cons ra rb,fun z=>(aax.mp z).elim na nb⟩
theorem Dx1.reads (I:Inv X pins σ H s) {d:PyData} {v:V} {u:Value} (h:Dx1 X.w H d v) (r:RelV v u):∃ as,Reads s.heap u d as∧sysModules∉as:=by
  rcases h with h|⟨a,xs,ds,rfl,hp,⟨ha,rfl⟩|⟨ha,rfl⟩⟩
  · exact h.reads I r
  · cases r;obtain ⟨its,rv,⟨o,n,e1,e2,_,e3⟩,_⟩:=I.list (SqL.of ha);obtain ⟨as,ra,na⟩:=eA I hp rv;refine ⟨_,.list e1 e2 e3 (by simpa using ra),fun z=>?_⟩;rcases aai.mp z with z|z
    · exact I.nosys ha z.symm
    · exact na z
  · cases r;obtain ⟨its,rv,⟨o,e1,e2,n,e3⟩,_⟩:=I.tuple (SqT.of ha);obtain ⟨as,ra,na⟩:=eA I hp rv;exact ⟨_,.tuple e1 e2 e3 (by simpa using ra),na⟩
theorem gB (I:Inv X pins σ H s):∀ {ds:List PyData} {vs:List V} {us:List Value},Paired (Dx1 X.w H) ds vs→Vals vs us→∃ as,ReadsAll s.heap us ds as∧sysModules∉as
  | _,_,_,.nil,r=>by cases r;exact ⟨_,.nil,by simp⟩
  | _,_,_,.cons h t,r=>by
    cases r with
    | cons r1 r2 =>
      obtain ⟨as,ra,na⟩:=h.reads I r1;obtain ⟨bs,rb,nb⟩:=gB I t r2;exact ⟨_,.cons ra rb,fun z=>(aax.mp z).elim na nb⟩
theorem gD {w:World} (hw:X.w=w) (hg:X.A.guards=some []) (hu:X.A.units+64 < cLine):bz X (.builtin "repr") (fun xs H Q=>∃ (L:Addr) (vs:List V) (ds:List PyData),xs=[.ref L]∧H L=some (.lst vs)∧Paired (Dx1 w H) ds vs∧(PyData.list ds).showable=true∧(PyData.list ds).depth≤60∧(PyData.list ds).shown.length≤sizeLine∧Q (.str (PyData.list ds).shown) H):=by
  subst hw;intro pins s σ H xs us Q I r h;obtain ⟨L,vs,ds,rfl,hL,hd,hs,hdp,hl,q⟩:=h;obtain ⟨u,rfl,ru⟩:=cn r;cases ru;obtain ⟨its,rv,⟨o,n,e1,e2,_,e3⟩,_⟩:=I.list (SqL.of hL);obtain ⟨as,ra,na⟩:=gB I hd rv;refine repr_of_reads' (.list e1 e2 e3 (by simpa using ra)) hs (fun _ z=>?_) hg (by lia) (fun _ _ e=>e) (fun h' u tk hk=>?_) hl
  · rcases aai.mp z with z|z
    · exact I.nosys hL z.symm
    · exact na z
  · exact ⟨.str _,H,I.kept hk,⟨u,rfl⟩,q⟩
end
end L2
namespace L2
open PySem PySem.Spec PyProof.Rows PySem.W
theorem jT (b:Bool) (i:Int) (t:Tok):Gives (Builtin.«int.__lt__» ⟨[.bool b,.int i t],[]⟩) (.val (Value.bool (decide ((if b=true then (1:Int) else 0) < i)))) :=
  .of_wp fun M A E s Q h=>by obtain ⟨hp,g,d,tk,os⟩:=s;wp_walk;exact ⟨_,rfl,h⟩
theorem jZ (b:Bool) (i:Int) (t:Tok):Gives (Builtin.«int.__gt__» ⟨[.bool b,.int i t],[]⟩) (.val (Value.bool (decide ((if b=true then (1:Int) else 0) > i)))) :=
  .of_wp fun M A E s Q h=>by obtain ⟨hp,g,d,tk,os⟩:=s;wp_walk;exact ⟨_,rfl,h⟩
section
variable {A:Around} {E:Value→Shared→Prop} {s:Shared} {prog:Program} {w:World}
theorem ub {a b:Int} {u v:Value} {Q:Value→Shared→Prop} (hu:gE a u=true) (hv:gE b v=true) (h:Q (.bool (decide (a < b))) s):wpAny (model prog w) A (richCompare .Lt u v) Q E s:=by
  rcases bo hu with ⟨t,rfl⟩|⟨x,rfl,rfl⟩
  · rcases bo hv with ⟨t',rfl⟩|⟨y,rfl,rfl⟩
    · exact richCompare_gives (op:=.Lt) (typeIs_int s _ t) (typeIs_int s _ t') F.slot_int_lt F.entry_int_lt (F.args_int_lt_2 _ _) (gives_int_lt _ _ t t') (fun x=>nomatch x) h
    · exact SeqAt.rc_sub_first_or (op:=.Lt) (typeIs_int s a t) rfl (by decide) F.sub_bool_int F.slot_bool_gt_refl
        (call_gives F.slot_bool_gt_refl rfl F.entry_int_gt (F.args_int_gt_2 _ _) (jZ y a t) ⟨nofun,h⟩) (.inl rfl)
  · rcases bo hv with ⟨t',rfl⟩|⟨y,rfl,rfl⟩
    · exact SeqAt.rc_left_or (op:=.Lt) rfl (typeIs_int s b t') (by decide) F.sub_int_bool F.slot_bool_lt
        (call_gives F.slot_bool_lt rfl F.entry_int_lt (F.args_int_lt_2 _ _) (jT x b t') ⟨nofun,h⟩) (.inl rfl)
    · exact richCompare_gives (op:=.Lt) (T:="bool") rfl rfl F.slot_bool_lt F.entry_int_lt (F.args_int_lt_2 _ _) (gives_int_lt_bools x y) (fun x=>nomatch x) h
theorem kR {a b:Int} {u v:Value} {Q:Value→Shared→Prop} (hh:A.handled=none) (hu:gE a u=true) (hv:gE b v=true)
    (h:∀ h' tk,(∀ c o,s.heap.get? c=some o→h'.get? c=some o)→Q (if b < a then v else u) { s with heap:=h',toks:=tk }) :
    wpAny (model prog w) A (call (.builtin "min") [u,v]) Q E s:=by
  have hT:(s.heap.push { cls:=.type "tuple",data:=.seq #[u,v] }).IsTuple s.heap.objs.size #[u,v]:=⟨_,aao _ rfl,rfl,0,rfl⟩
  refine call_min_two (wpAny_pyIter_tuple hT ?_);have hsz:(s.heap.push { cls:=.type "tuple",data:=.seq #[u,v] }).objs.size=s.heap.objs.size+1:=Heap.size_push ..;have hcmp:CmpOf prog w A.in1 .Lt (fun i x=>(#[u,v]:Array Value)[i]?=some x) (fun i j=>decide ((if i=0 then a else b) < (if j=0 then a else b))):=fun i j vi vj s' Q E hi hj h=>by
    have key:∀ (i:Nat) (x:Value),(#[u,v]:Array Value)[i]?=some x→gE (if i=0 then a else b) x=true:=fun i x hx=>by
      match i,hx with
      | 0,hx=>cases hx;exact hu
      | 1,hx=>cases hx;exact hv
      | _+2,hx=>cases hx
    exact ub (key i vi hi) (key j vj hj) h
  refine ⟨_,[_,s.heap.objs.size],[_],_,_,_,_,rfl,Walks.tuple (A:=A.in1) hh _ s.heap.objs.size (by rw [hsz];exact aaz (ab5 _)) #[u,v],
    ⟨⟨_,aao _ rfl,rfl,rfl⟩,hT.push _⟩,fun c hc=>?_,by simp,hcmp,fun x h' tk hP hk=>?_⟩
  · show c < ((s.heap.push _).push _).objs.size;rw [Heap.size_push,hsz];rcases aai.mp hc with rfl|hc
    · rw [hsz];exact ab5 _
    · rcases aai.mp hc with rfl|hc
      · exact Nat.lt_succ_of_lt (ab5 _)
      · cases hc
  · have hold:∀ c o,s.heap.get? c=some o→h'.get? c=some o:=fun c o e=>by
      refine hk c o (fun hm=>?_) (aaf _ (aaf _ e));rcases aai.mp hm with e1|hm
      · have:=aan e;rw [e1,hsz] at this;exact abA _ (Nat.lt_of_succ_lt this)
      · cases hm
    have:=h h' tk hold;have hx:x=if b < a then v else u:=by
      have hP':(#[u,v]:Array Value)[argBest (fun i j=>decide ((if i=0 then a else b) < (if j=0 then a else b))) 1]?=some x:=hP;by_cases hba:b < a
      · have e:argBest (fun i j=>decide ((if i=0 then a else b) < (if j=0 then a else b))) 1=1:=by simp [argBest,hba]
        rw [e] at hP';rw [if_pos hba];cases hP';rfl
      · have e:argBest (fun i j=>decide ((if i=0 then a else b) < (if j=0 then a else b))) 1=0:=by simp [argBest,hba]
        rw [e] at hP';rw [if_neg hba];cases hP';rfl
    rw [hx];exact this
theorem gS {l:Addr} {items:Array Value} {b:Bool} {x:Value} {Q:Value→Shared→Prop} (hl:s.heap.IsList l items)
    (hx:items[(bI b).toNat]?=some x) (h:Q x s):wpAny (model prog w) A (getItem (.ref l) (.bool b)) Q E s:=by
  obtain ⟨o,ho,hc,ne,hd⟩:=id hl;unfold getItem
  try with_reducible refine wpAny_holding ?_
  first|refine wpAny_bind (wpAny_pure ?_)|skip
  refine wpAny_bind (wpAny_sequenceKey hl.typeIs (by decide) ?_);refine wpAny_bind (wpAny_callSpecial?_slot (name:=abg "__getitem__") hl.typeIs slot_list_getitem
    (wpAny_call_entry slot_list_getitem hl.typeIs entry_list_getitem ?_ (args_list_getitem _ _)))
  show wpAny _ _ (Builtin.List.listSubscript? (.bool b) >>= _) _ _ s;refine wpAny_bind ?_;unfold Builtin.List.listSubscript?;refine wpAny_bind (wpAny_specialOf (T:="bool") rfl F.slot_bool_index.lookup ?_);show wpAny _ _ (asIndex (.bool b) >>= _) _ E s;refine wpAny_bind (wpAny_of_eq (a:=bI b) (by cases b <;> rfl) ?_);rw [if_neg (by cases b <;> decide)];refine wpAny_pure ?_;have e:bI b=(((bI b).toNat:Nat):Int):=by cases b <;> rfl
  generalize (bI b).toNat=j at hx e;rw [e];show wpAny _ _ ((seqItemAt l j >>= fun r=>pure (r.map (j,·))) >>= _) _ _ s;refine wpAny_bind (wpAny_bind (wpAny_seqItemAt ho hd (wpAny_pure ?_)));rw [hx]
  first
    | exact wpAny_bind (wpAny_pure (wpAny_pure ⟨x,rfl,wpAny_pure h⟩))
    | exact wpAny_pure ⟨x,rfl,wpAny_pure h⟩
end
def BiV (k:Int) (x:V):Prop:=x=.int k∨∃ b,x=.bl b∧k=bI b
theorem BiV.raw {k:Int} {x:V} {u:Value} (h:BiV k x) (r:RelV x u):gE k u=true:=by
  rcases h with rfl|⟨b,rfl,rfl⟩
  · obtain ⟨t,rfl⟩:=r;exact beq_self_eq_true _
  · cases r;exact beq_self_eq_true _
theorem ln {X:Cx} (hc:X.calm=true):bz X (.builtin "min") (fun xs H Q=>∃ x y i j,xs=[x,y]∧BiV i x∧BiV j y∧Q (if j < i then y else x) H):=by
  intro pins s σ H xs us Q I r h;obtain ⟨x,y,i,j,rfl,hx,hy,q⟩:=h;obtain ⟨u,w',rfl,rx,ry⟩:=ja r;refine kR (I.ok.hd hc) (hx.raw rx) (hy.raw ry) fun h' tk k=>⟨_,H,I.kept k,?_,q⟩
  by_cases hj:j < i
  · rw [if_pos hj,if_pos hj];exact ry
  · rw [if_neg hj,if_neg hj];exact rx
def tX (K:aaa):R2:=fun x y H Q=>∃ p xs i v,x=.ref p∧BiV i y∧SqL K H p xs∧xs[i.toNat]?=some v∧0≤i∧Q v H
theorem oQ {X:Cx} {K:aaa} (hK:X.K=K):IxR X (tX K):=by
  subst hK;intro value slice pins s σ H x y v u Q I rx ry h hs;obtain ⟨p,xs,i,z,rfl,hy,hq,he,h0,q⟩:=h;cases rx;obtain ⟨its,r,pl,hz⟩:=I.list hq;obtain ⟨w,ew,rw'⟩:=r.get he;have hl:=r.length;have hn:=fw;have fin:EP X pins σ Q w s:=⟨z,H,I,rw',q⟩
  have hi:i.toNat < xs.length:=(aaK.mp he).1;rcases hy with rfl|⟨b,rfl,rfl⟩
  · obtain ⟨t,rfl⟩:=ry;exact item_listR pl.isList h0 (by lia) (by simpa using ew) fin hs
  · cases ry;exact subscriptTail_builtinR (x:=w) pl.isList.typeIs slot_list_getitem.lookup (gS (Q:=fun r s'=>r=w∧EP X pins σ Q r s') pl.isList (by simpa using ew) ⟨rfl,fin⟩) hs
def so (w:World):qu:=fun o i v H Q=>∃ a kvs k,o=.ref a∧DmIn w H a kvs∧MkIn H k i∧kvs.length < 1000∧Q (upd H a (dmX w a (bK kvs k i v)))
theorem lV {X:Cx} {w:World} (hw:X.w=w) (hu:X.A.units+1 < cLine):rL X (so w):=by
  subst hw;intro pins s σ H o i v ov iv u Q I ro ri rv h;obtain ⟨a,kvs,k,rfl,d,hk,hl,q⟩:=h;cases ro;exact g7 hu I d hk hl ri rv fun s4 I4=>⟨_,I4,q⟩
open PySem PySem.Spec PyProof.Rows
variable {X:Cx} {pins:List Value} {s:Shared} {σ:St} {H:Hp}
theorem nN (hg:X.A.guards=some []) (hu:X.A.units+64 < cLine):bz X (.type "str") (fun xs H Q=>∃ x d,xs=[x]∧Dat H d x∧((∃ i,d=.int i)∨∃ ds,d=.tuple ds)∧d.showable=true∧d.depth≤60∧d.shown.length≤sizeLine∧Q (.str d.shown) H):=by
  intro pins s σ H xs us Q I r h;obtain ⟨x,d,rfl,hd,hk,hs,hdp,hl,q⟩:=h;obtain ⟨u,rfl,ru⟩:=cn r;rcases hk with ⟨i,rfl⟩|⟨ds,rfl⟩
  · simp only [Dat] at hd;subst hd;obtain ⟨t,rfl⟩:=ru;rw [PyData.shown_int] at q;exact PySem.P.str_of_int (by simpa [abv] using hs) ⟨.str _,H,I.tok _,⟨_,rfl⟩,q⟩
  · have hd':=hd;simp only [Dat] at hd';obtain ⟨a,ys,rfl,_⟩:=hd';cases ru;obtain ⟨as,ra,na⟩:=Dat.reads I _ _ _ hd rfl;refine str_of_reads ra hs (fun _=>na) hg (by lia) (fun _ _ e=>e) (fun h' u tk hk=>?_) hl;exact ⟨.str _,H,I.kept hk,⟨u,rfl⟩,q⟩
open PySem PySem.Spec PyProof.Rows
section
variable {X:Cx} {a b c d:Expr} {ta tb tc td:TE} {pos:Pos}
theorem m_ {op op' op'':CmpOp} {r r' r'':R2} (ho:OpR X (compareOp op) r) (ho':OpR X (compareOp op') r') (ho'':OpR X (compareOp op'') r'') (ha:PE X a ta) (hb:PE X b tb) (hc:PE X c tc) (hd:PE X d td)
    (hm:lastMarks [op,op',op''] [b,c,d]=false:=by with_unfolding_all rfl):PT X (.Compare a [op,op',op''] [b,c,d] pos) (nW (pL r r' r'' ta tb tc td)):=by
  intro pins s σ H Q I h;refine isTrue_chain (thn (ha pins s σ H _ I h) fun v s1 ⟨x,H1,I1,r1,q1⟩=>test_link (thn (hb pins s1 σ H1 _ I1 q1) fun u s2 ⟨y,H2,I2,r2,q2⟩ =>
    thn (ho pins s2 σ H2 x y v u _ I2 r1 r2 q2) fun d s3 ⟨z,H3,I3,r3,k,e,q3⟩=>?_)) hm
  subst e;cases r3;refine wpAny_truthy_bool ?_;cases k with
  | false =>
    obtain ⟨k',e',q'⟩:=q3;cases e';exact ite_ff ⟨H3,I3,q'⟩
  | true =>
    refine ite_tt (test_link (thn (hc pins s3 σ H3 _ I3 q3) fun w' s4 ⟨z',H4,I4,r4,q4⟩=>thn (ho' pins s4 σ H4 y z' u w' _ I4 r2 r4 q4) fun d' s5 ⟨z2,H5,I5,r5,k2,e2,q5⟩=>?_));subst e2;cases r5;refine wpAny_truthy_bool ?_;cases k2 with
    | false =>
      obtain ⟨k',e',q'⟩:=q5;cases e';exact ite_ff ⟨H5,I5,q'⟩
    | true =>
      refine ite_tt (test_last (thn (hd pins s5 σ H5 _ I5 q5) fun w3 s6 ⟨z3,H6,I6,r6,q6⟩=>thn (ho'' pins s6 σ H6 z' z3 w' w3 _ I6 r4 r6 q6) fun d' s7 ⟨z4,H7,I7,r7,k3,e3,q7⟩=>?_));subst e3;cases r7;exact wpAny_truthy_bool ⟨H7,I7,q7⟩
end
theorem lp {X:Cx} (hc:X.calm=true):bz X (.type "list") (fun xs H Q=>∃ (dd:Addr) (kvs:List (List Int × V)),xs=[.ref dd]∧H dd=some (.dT (kvs.map fun p=>(p.1.map Sum.inl,p.2)))∧kvs.length≤1000 ∧
    ∀ (l:Addr) (ks:List KEn),H l=none→rdE ks=(kvs.map fun p=>(MK.tup p.1,p.2))→(∀ e∈ks,MkIn H e.1 e.2.1)→Q (.ref l) (upd H l (.lst (ks.map (·.2.1))))):=by
  intro pins s σ H xs us Q I r h;obtain ⟨dd,kvs,rfl,hH,hl,q⟩:=h;obtain ⟨u,rfl,ru⟩:=cn r;cases ru;obtain ⟨z,hd,ys,rel,o,es,ep,ho,cx,dat,h4,h5,h6⟩:=h7 I.hok hH;obtain ⟨ks,k1,k2,k3⟩:=lf rel;have hsz:es.size=kvs.length:=by
    have : es.toList.length=ys.length:=by rw [h4,aab]
    rw [← aaV,this,← aar rel,aab]
  refine PySem.W.kdl_call (gY (iR I hH) cx dat) (I.ok.hd hc) ho (by rw [sizeLine_eq];lia) fun h' tk acc' c' kp e hi=>?_;have ea:acc'.toList=es.toList.map (·.key):=oO (by rw [aaV];exact hi.1) fun j v hv=>hi.2 j v (by rw [← abx];exact hv);have hV:Vals (ks.map (·.2.1)) acc'.toList:=by
    rw [ea,h4,aaD,k3];have go:∀ m:List (List Key × Addr × Value),Vals (m.map fun y=>V.ref y.2.1) (m.map ((fun e:DictEntry=>e.key) ∘ entryOfKey (tupleKind (av X.prog X.w)))):=by
      intro m
      induction m with
      | nil=>exact .nil
      | cons h t ih=>exact .cons rfl ih
    exact go ys
  have lk:ks.length=kvs.length:=by have:=congrArg ab7 k1;simpa [rdE] using this
  exact ⟨.ref s.heap.objs.size,_,I.laid (t':=tk) kp (aah _) (show ObjOk X.prog X.w _ h' _ (.lst (ks.map (·.2.1))) from ⟨by rw [aab,sizeLine_eq];lia,acc'.toList,c',hV,by simpa using e⟩),rfl,q _ ks (I.hok.fresh (aah _)) k1 k2⟩
open PySem PySem.Spec PyProof.Rows
end L2
namespace Put
open PySem L2
def top (i:Nat):Stmt:=PySem.Challenge.pw_putsigns_k35_papers_of_bounds_looked_at.main.body.getD i (.Pass ⟨0,0,0,0⟩)
inductive Sg where
  | plus|minus|times
  deriving DecidableEq
def Sg.str:Sg→Str
  | .plus=>"+"
  | .minus=>"-"
  | .times=>"*"
inductive Wy where
  | num (i:Int)
  | node (g:Sg) (l r:Wy)
  deriving DecidableEq
def Wy.size:Wy→Nat
  | .num _=>1
  | .node _ l r=>l.size+r.size
def Tups (H H':Hp):Prop:=∀ b xs,H b=some (.tup xs)→H' b=some (.tup xs)
theorem Tups.of {H H':Hp} (a:Same H H'):Tups H H':=fun b xs h=>a b _ h
theorem Tups.but {H H':Hp} {w:Addr} {xs:List V} (a:But w H H') (h:H w=some (.lst xs)):Tups H H':=fun b ys q=>a b _ (fun e=>by rw [e,h] at q;cases q) q
structure Bu (K:aaa) (mg:Str→Option Value):Prop where
  ilen:mg "len" = none
  iisinstance : mg "isinstance" = none
  iint:mg "int" = none
  ibool:mg "bool" = none
  istr:mg "str" = none
  ituple:mg "tuple" = none
  ilist:mg "list" = none
  isorted:mg "sorted" = none
  irange:mg "range" = none
  irepr:mg "repr" = none
  ienumerate:mg "enumerate" = none
  isum:mg "sum" = none
  iall:mg "all" = none
  imin:mg "min" = none
  imax:mg "max" = none
  iabs:mg "abs" = none
  idivmod:mg "divmod" = none
  idict:mg "dict" = none
  iset:mg "set" = none
  ireversed:mg "reversed" = none
  iany:mg "any" = none
  izip:mg "zip" = none
structure Co (K:aaa) (mg:Str→Option Value) (tk:Tok) (aS:Addr):Prop where
  gMOST_NUMBERS:mg "MOST_NUMBERS" = some (.int 9 tk)
  gSIGNS:mg "SIGNS" = some (.ref aS)
  sSIGNS:∀ H,SqT K H aS [.str "+",.str "-",.str "*"]
section
variable {P:Program} {w:World} {K:aaa} {mg:Str→Option Value} {base:Heap} {f:Addr} {fd:FuncData}
def fN (K:aaa):Sp:=fun vs H Q _=>∃ x n,vs=[x]∧TyOf K H x (.type n)∧Q (.bl (decide (n = "int"))) H
abbrev dZ:Stmt:=top 7
theorem jk:FnScope ["thing"] ["thing"] (ao dZ):=⟨rfl,rfl,rfl,by decide +kernel,rfl,by decide +kernel,by decide +kernel⟩
theorem jJ (F:Fun K "is_whole" "is_whole" dZ f fd) (B:Bu K mg):FnOk P w K mg base CX0 1 f fd ["thing"] (fN K):=by
  refine F.ok jk (fun vs H Q E h=>?_) (fun cdv A outer s H vs Q E hr h=>?_)
  · obtain ⟨x,n,rfl,_⟩:=h;rfl
  obtain ⟨x,n,rfl,ty,q⟩:=h;refine ⟨_,(@af _ _ _ (@ax _ _ _ _ (@bZ _ _ _ _ _ _ _ (@ah _ _ _ _ _ _ _ _ _ (@aA _ ("int")) rfl B.iisinstance aag (@aa _ _ _ _ _ (pv 0) (@aa _ _ _ _ _ (@aH _ _ (.ty "int") _ _ rfl B.iint aaS rfl (by decide) (by decide)) ac (by rfl)) (by rfl)) (by decide) (by decide) (by rfl) (by rfl)) (@c_ _ _ _ _ _ (@ou _ _ _ _ (@ah _ _ _ _ _ _ _ _ _ (@aA _ ("bool")) rfl B.iisinstance aag (@aa _ _ _ _ _ (pv 0) (@aa _ _ _ _ _ (@aH _ _ (.ty "bool") _ _ rfl B.ibool abw rfl (by decide) (by decide)) ac (by rfl)) (by rfl)) (by decide) (by decide) (by rfl) (by rfl))))))),?_⟩;cases ty with
  | non=>exact ⟨_,rfl,_,_,false,rfl,.non,rfl,false,rfl,aR q⟩
  | bl y=>exact ⟨_,rfl,_,_,true,rfl,.bl y,rfl,true,rfl,a4 ⟨_,rfl,_,_,true,rfl,.bl y,rfl,true,rfl,q⟩⟩
  | int i=>exact ⟨_,rfl,_,_,true,rfl,.int i,rfl,true,rfl,a4 ⟨_,rfl,_,_,false,rfl,.int i,rfl,false,rfl,q⟩⟩
  | str y=>exact ⟨_,rfl,_,_,false,rfl,.str y,rfl,false,rfl,aR q⟩
  | flt y=>exact ⟨_,rfl,_,_,false,rfl,.flt y,rfl,false,rfl,aR q⟩
  | lst e=>exact ⟨_,rfl,_,_,false,rfl,.lst e,rfl,false,rfl,aR q⟩
  | frz e=>exact ⟨_,rfl,_,_,false,rfl,.frz e,rfl,false,rfl,aR q⟩
  | tup e=>exact ⟨_,rfl,_,_,false,rfl,.tup e,rfl,false,rfl,aR q⟩
  | dK e=>exact ⟨_,rfl,_,_,false,rfl,.dK e,rfl,false,rfl,aR q⟩
  | dT e=>exact ⟨_,rfl,_,_,false,rfl,.dT e,rfl,false,rfl,aR q⟩
open PySem L2
theorem fQ {n:Nat} (h:n≤1000):n≤sizeLine:=abz (aB h)
def ar:List Sg→Str
  | []=>""
  | g :: r=>g.str++ar r
open PySem L2
theorem fF (x m:Int) (h:0 < m):0≤x % m∧x % m < m:=⟨Int.emod_nonneg x (by lia),Int.emod_lt_of_pos x h⟩
end
open PySem L2
def Pot (H:Hp) (w:Addr):Prop:=∃ a c k,H w=some (.lst [.int a,.int c,.int k])
theorem Pot.keep {H H':Hp} {w:Addr} (h:Pot H w) (s:Same H H'):Pot H' w:=by
  obtain ⟨a,c,k,e⟩:=h;exact ⟨a,c,k,s _ _ e⟩
theorem Pot.ne {w p:Addr} {H:Hp} (h:Pot H w) (n:H p=none):p≠w:=fun e=>by
  subst e;obtain ⟨_,_,_,z⟩:=h;rw [z] at n;cases n
theorem Pot.tups {w:Addr} {H H':Hp} (h:Pot H w) (b:But w H H'):Tups H H':=by
  obtain ⟨_,_,_,z⟩:=h;exact Tups.but b z
theorem Pot.free {w p:Addr} {H H':Hp} (h:Pot H' w) (b:But w H H') (n:H' p=none):H p=none:=by
  cases q:H p with
  | none=>rfl
  | some o=>rw [b p o (h.ne n) q] at n;cases n
section
variable {P:Program} {w:World} {K:aaa} {mg:Str→Option Value} {base:Heap} {f:Addr} {fd:FuncData}
def e9 (ns:List Int):Prop:=∀ i∈ns,-1000000000000 < i∧i < 1000000000000
theorem on {xs:List Int} {r:Int} (h0:0≤r) (h1:r < xs.length):∃ u:Int,atI (xs.map V.int) r=some (.int u)∧u∈xs:=by
  obtain ⟨j,rfl⟩:∃ j:Nat,r=(j:Int):=⟨r.toNat,by lia⟩
  have hj:j < xs.length:=by lia
  exact ⟨xs[j],bS (by rw [aap,aac hj];rfl),abe hj⟩
theorem pm {k:Int} (h0:0≤k) (h1:k < 2):∃ z:Int,atI [V.int 1,.int (-1)] k=some (.int z)∧(z=1∨z=-1):=by
  have : k=0∨k=1:=by lia
  rcases this with rfl|rfl
  · exact ⟨1,rfl,.inl rfl⟩
  · exact ⟨-1,rfl,.inr rfl⟩
def ix:List V:=[.str "+",.str "-",.str "*",.str "+-",.str "+*",.str "-*",.str "+-*"]
def dG (gs:List Sg):Prop:=inV (.str (ar gs)) ix=true
theorem ud {k:Int} (h0:0≤k) (h1:k < 8):∃ gs:List Sg,atI [V.str "+",.str "-",.str "*",.str "+-",.str "+*",.str "-*",.str "+-*",.str "+-*"] k=some (.str (ar gs))∧1≤gs.length∧gs.length≤3∧dG gs:=by
  have : k=0∨k=1∨k=2∨k=3∨k=4∨k=5∨k=6∨k=7:=by lia
  rcases this with rfl|rfl|rfl|rfl|rfl|rfl|rfl|rfl
  · exact ⟨[.plus],by rfl,by decide,by decide,by unfold dG;decide +kernel⟩
  · exact ⟨[.minus],by rfl,by decide,by decide,by unfold dG;decide +kernel⟩
  · exact ⟨[.times],by rfl,by decide,by decide,by unfold dG;decide +kernel⟩
  · exact ⟨[.plus,.minus],by rfl,by decide,by decide,by unfold dG;decide +kernel⟩
  · exact ⟨[.plus,.times],by rfl,by decide,by decide,by unfold dG;decide +kernel⟩
  · exact ⟨[.minus,.times],by rfl,by decide,by decide,by unfold dG;decide +kernel⟩
  · exact ⟨[.plus,.minus,.times],by rfl,by decide,by decide,by unfold dG;decide +kernel⟩
  · exact ⟨[.plus,.minus,.times],by rfl,by decide,by decide,by unfold dG;decide +kernel⟩
def ip:Sp:=fun vs H Q _=>∃ c k,vs=[.int c,.int k]∧∀ r,Q (.int r) H
abbrev cW:Stmt:=top 23
theorem cI:FnScope ["cell","k","number"] ["cell","k"] (ao cW):=⟨rfl,rfl,rfl,by decide +kernel,rfl,by decide +kernel,by decide +kernel⟩
theorem oF (F:Fun K "_law_mixed" "_law_mixed" cW f fd):FnOk P w K mg base CX0 1 f fd ["cell","k"] ip:=by
  refine F.ok cI (fun vs H Q E h=>?_) (fun cdv A outer s H vs Q E hr h=>?_)
  · obtain ⟨c,k,rfl,_⟩:=h;rfl
  obtain ⟨c,k,rfl,q⟩:=h;refine ⟨_,(@ag _ _ _ _ _ (@aE _ _ (2) _ _ _ _ (cI).nd rfl (Or.inl rfl) (@ap _ _ _ _ _ _ _ _ b5 (@ap _ _ _ _ _ _ _ _ cC (@ap _ _ _ _ _ _ _ _ aX (@ap _ _ _ _ _ _ _ _ aX (@ap _ _ _ _ _ _ _ _ b5 (pv 0) ae) (@ap _ _ _ _ _ _ _ _ cC ae (pv 1))) ae) ae) ae) (by rfl) (by first|exact .inl rfl|exact .inr rfl|assumption)) (@ag _ _ _ _ _ (@aE _ _ (2) _ _ _ _ (cI).nd rfl (Or.inl rfl) (@ap _ _ _ _ _ _ _ _ b5 (@ap _ _ _ _ _ _ _ _ cC (pv 2) (pv 2)) ae) (by rfl) (by first|exact .inl rfl|exact .inr rfl|assumption)) (@af _ _ _ (@ax _ _ _ _ (@ap _ _ _ _ _ _ _ _ gm (@ap _ _ _ _ _ _ _ _ b5 (@ap _ _ _ _ _ _ _ _ cC (@ap _ _ _ _ _ _ _ _ aX (pv 2) (@ap _ _ _ _ _ _ _ _ cC ae (@ap _ _ _ _ _ _ _ _ aX (pv 1) ae))) ae) ae) ae))))),?_⟩;have z:=fF ((c % 2147483647+7919 * k+1) * 48271) 2147483647 (by decide);refine ⟨_,rfl,_,_,rfl,rfl,(show (0:Int) < 2147483647 by decide),_,rfl,_,_,rfl,rfl,.inl ⟨by decide,by decide⟩,_,_,rfl,rfl,_,_,rfl,rfl,_,_,rfl,rfl,.inr ⟨by decide,by decide⟩,_,_,rfl,rfl,(show (0:Int) < 2147483647 by decide),?_⟩;refine ⟨_,rfl,_,rfl,_,_,rfl,rfl,.inl ⟨by lia,by lia⟩,_,_,rfl,rfl,(show (0:Int) < 2147483629 by decide),?_⟩;refine ⟨_,rfl,_,rfl,_,_,rfl,rfl,_,_,rfl,rfl,.inl ⟨by decide,by decide⟩,_,_,rfl,rfl,_,_,rfl,rfl,.inr ⟨by decide,by decide⟩,_,_,rfl,rfl,(show (0:Int) < 2147483579 by decide),_,_,rfl,rfl,⟨by decide,by decide⟩,?_⟩;exact q _
def nX:Sp:=fun vs H Q _=>∃ cell,vs=[.int cell]∧∀ p H',Same H H'→H p=none→Pot H' p→Q (.ref p) H'
theorem p50:((10:Int) ^ (50:Int).toNat).natAbs < 2 ^ 4000∧((10:Int) ^ (50:Int).toNat * 10 ^ (50:Int).toNat).natAbs < 2 ^ 4000∧((10:Int) ^ (50:Int).toNat * 10 ^ (50:Int).toNat * 10 ^ (50:Int).toNat).natAbs < 2 ^ 4000∧0 < ((10:Int) ^ (50:Int).toNat * 10 ^ (50:Int).toNat * 10 ^ (50:Int).toNat * 10 ^ (50:Int).toNat):=by decide +kernel
abbrev d_:Stmt:=top 24
theorem jn:FnScope ["cell"] ["cell"] (ao d_):=⟨rfl,rfl,rfl,by decide +kernel,rfl,by decide +kernel,by decide +kernel⟩
theorem rh (F:Fun K "_law_pot" "_law_pot" d_ f fd) (B:Bu K mg):FnOk P w K mg base CX0 1 f fd ["cell"] nX:=by
  refine F.ok jn (fun vs H Q E h=>?_) (fun cdv A outer s H vs Q E hr h=>?_)
  · obtain ⟨c,rfl,_⟩:=h;rfl
  obtain ⟨c,rfl,q⟩:=h;refine ⟨_,(@af _ _ _ (@ax _ _ _ _ (@aN _ _ _ _ (@aa _ _ _ _ _ (@ap _ _ _ _ _ _ _ _ cC (@ap _ _ _ _ _ _ _ _ b5 (pv 0) (@ap _ _ _ _ _ _ _ _ eQ (@ap _ _ _ _ _ _ _ _ eQ (@ap _ _ _ _ _ _ _ _ eQ (@ap _ _ _ _ _ _ _ _ dA ae ae) (@ap _ _ _ _ _ _ _ _ dA ae ae)) (@ap _ _ _ _ _ _ _ _ dA ae ae)) (@ap _ _ _ _ _ _ _ _ dA ae ae))) (@a5 _ _ _ _ _ _ _ _ _ bP rfl B.iint aaS (@aa _ _ _ _ _ (@aQ _ _ _ _ _ _ _ _ sJ (pv 0) (@ap _ _ _ _ _ _ _ _ dA ae ae) (ay _)) ac (by rfl)) (by decide) (by decide) (by rfl) (by rfl))) (@aa _ _ _ _ _ (pv 0) (@aa _ _ _ _ _ ae ac (by rfl)) (by rfl)) (by rfl))))),?_⟩;obtain ⟨b1,b2,b3,b4⟩:=p50;have cp:tF 10 50:=⟨by decide,by decide,by decide⟩
  refine ⟨_,rfl,_,_,rfl,rfl,cp,_,_,rfl,rfl,cp,_,_,rfl,rfl,⟨b1,b1⟩,_,_,rfl,rfl,cp,_,_,rfl,rfl,⟨b2,b1⟩,_,_,rfl,rfl,cp,_,_,rfl,rfl,⟨b3,b1⟩,_,_,rfl,rfl,b4,?_⟩;refine ⟨_,rfl,_,_,rfl,rfl,⟨by decide,by decide,by decide⟩,_,_,rfl,rfl,.inr ⟨_,rfl,_,_,rfl,rfl,.inr ?_,_,rfl,(by show 3≤sizeLine;decide),fun p hp=>q p _ (Same.new hp _) hp ⟨_,_,_,ad⟩⟩⟩;split <;> exact ⟨by decide,by decide⟩
def dh:Sp:=fun vs H Q _=>∃ w m,vs=[.ref w,.int m]∧0 < m∧m < 2 ^ 63∧Pot H w∧∀ r H',0≤r→r < m→But w H H'→Pot H' w→Q (.int r) H'
abbrev dn:Stmt:=top 25
theorem eD:FnScope ["pot","many","told"] ["pot","many"] (ao dn):=⟨rfl,rfl,rfl,by decide +kernel,rfl,by decide +kernel,by decide +kernel⟩
theorem p_ (F:Fun K "_law_take" "_law_take" dn f fd) (C__law_mixed:Cal P w K mg base "_law_mixed" 1 ["cell","k"] ip):FnOk P w K mg base CX0 2 f fd ["pot","many"] dh:=by
  refine F.ok eD (fun vs H Q E h=>?_) (fun cdv A outer s H vs Q E hr h=>?_)
  · obtain ⟨w,m,rfl,_⟩:=h;rfl
  obtain ⟨wl,m,rfl,h0,h1,⟨a,c,k,e⟩,q⟩:=h;refine ⟨_,(@ag _ _ _ _ _ (@du _ _ _ _ _ _ (@ap _ _ _ _ _ _ _ _ aX (@bi _ _ _ _ _ _ _ ix_list (pv 0) ae (fun _ _=>rfl)) ae) (@iC _ _ _ _ _ _ _ (pv 0) ae jg (by intro _;rfl)) (by rfl) (by rfl) (by rfl)) (@ag _ _ _ _ _ (@aW _ _ _ _ _ _ _ _ (@aG _ _ _ _ _ _ _ _ qz (@bi _ _ _ _ _ _ _ ix_list (pv 0) ae (fun _ _=>rfl)) ae (ay _)) (@ag _ _ _ _ _ (@aE _ _ (2) _ _ _ _ (eD).nd rfl (Or.inl rfl) (@ap _ _ _ _ _ _ _ _ b5 (@bi _ _ _ _ _ _ _ ix_list (pv 0) ae (fun _ _=>rfl)) (pv 1)) (by rfl) (by first|exact .inl rfl|exact .inr rfl|assumption)) (@ag _ _ _ _ _ (@du _ _ _ _ _ _ (@ap _ _ _ _ _ _ _ _ gm (@bi _ _ _ _ _ _ _ ix_list (pv 0) ae (fun _ _=>rfl)) (pv 1)) (@iC _ _ _ _ _ _ _ (pv 0) ae jg (by intro _;rfl)) (by rfl) (by rfl) (by rfl)) (@af _ _ _ (@ax _ _ _ _ (pv 2))))) aF) (@af _ _ _ (@ax _ _ _ _ (@ap _ _ _ _ _ _ _ _ b5 (@aq _ _ _ _ _ _ _ _ _ _ _ C__law_mixed hr (by lia) rfl (@aa _ _ _ _ _ (@bi _ _ _ _ _ _ _ ix_list (pv 0) ae (fun _ _=>rfl)) (@aa _ _ _ _ _ (@bi _ _ _ _ _ _ _ ix_list (pv 0) ae (fun _ _=>rfl)) ac (by rfl)) (by rfl)) (by decide) (by rfl) (by rfl)) (pv 1)))))),?_⟩;refine ⟨_,rfl,wl,_,_,_,rfl,rfl,SqL.of e,rfl,_,_,rfl,rfl,_,rfl,wl,_,_,2,rfl,rfl,e,rfl,?_⟩;have e1:upd H wl (.lst (List.set [V.int a,.int c,.int k] 2 (.int (k+1)))) wl=some (.lst [.int a,.int c,.int (k+1)]):=ad;have b1:But wl H (upd H wl (.lst (List.set [V.int a,.int c,.int k] 2 (.int (k+1))))):=But.put;show (_:Hp→Prop) (upd H wl (.lst (List.set [V.int a,.int c,.int k] 2 (.int (k+1)))));generalize upd H wl (.lst (List.set [V.int a,.int c,.int k] 2 (.int (k+1))))=H1 at e1 b1 ⊢;refine ⟨_,rfl,wl,_,_,_,rfl,rfl,SqL.of e1,rfl,_,_,rfl,rfl,_,rfl,fJ (fun _=>?_) (fun _=>?_)⟩
  · refine ⟨_,rfl,wl,_,_,_,rfl,rfl,SqL.of e1,rfl,_,rfl,_,_,rfl,rfl,h0,?_⟩;refine ⟨_,rfl,wl,_,_,_,rfl,rfl,SqL.of e1,rfl,_,rfl,_,_,rfl,rfl,⟨h0,by lia⟩,_,rfl,wl,_,_,0,rfl,rfl,e1,rfl,?_⟩;refine ⟨_,rfl,?_⟩;have z:=fF a m h0;exact q _ _ z.1 z.2 (b1.trans But.put) ⟨_,_,_,ad⟩
  · refine ⟨_,rfl,wl,_,_,_,rfl,rfl,SqL.of e1,rfl,_,rfl,wl,_,_,_,rfl,rfl,SqL.of e1,rfl,_,_,rfl,fun r=>?_⟩;have z:=fF r m h0;exact ⟨_,rfl,_,_,rfl,rfl,h0,q _ _ z.1 z.2 b1 ⟨_,_,_,e1⟩⟩
def fY:Sp:=fun vs H Q _=>∃ w y,vs=[.ref w,.int y]∧0≤y∧y < 6∧Pot H w∧∀ r H',-1000000000000 < r→r < 1000000000000→But w H H'→Pot H' w→Q (.int r) H'
abbrev cJ:Stmt:=top 26
theorem cu:FnScope ["pot","way","far","some"] ["pot","way"] (ao cJ):=⟨rfl,rfl,rfl,by decide +kernel,rfl,by decide +kernel,by decide +kernel⟩
theorem nu (F:Fun K "_law_number" "_law_number" cJ f fd) (C__law_take:Cal P w K mg base "_law_take" 2 ["pot","many"] dh):FnOk P w K mg base CX0 3 f fd ["pot","way"] fY:=by
  refine F.ok cu (fun vs H Q E h=>?_) (fun cdv A outer s H vs Q E hr h=>?_)
  · obtain ⟨w,m,rfl,_⟩:=h;rfl
  obtain ⟨wl,y,rfl,y0,y6,hp,q⟩:=h;refine ⟨_,(@ag _ _ _ _ _ (@aE _ _ (2) _ _ _ _ (cu).nd rfl (Or.inl rfl) (@ap _ _ _ _ _ _ _ _ aX (@ap _ _ _ _ _ _ _ _ cC (@aq _ _ _ _ _ _ _ _ _ _ _ C__law_take hr (by lia) rfl (@aa _ _ _ _ _ (pv 0) (@aa _ _ _ _ _ (@ap _ _ _ _ _ _ _ _ dA ae ae) ac (by rfl)) (by rfl)) (by decide) (by rfl) (by rfl)) (@ap _ _ _ _ _ _ _ _ dA ae ae)) (@aq _ _ _ _ _ _ _ _ _ _ _ C__law_take hr (by lia) rfl (@aa _ _ _ _ _ (pv 0) (@aa _ _ _ _ _ (@ap _ _ _ _ _ _ _ _ dA ae ae) ac (by rfl)) (by rfl)) (by decide) (by rfl) (by rfl))) (by rfl) (by first|exact .inl rfl|exact .inr rfl|assumption)) (@ag _ _ _ _ _ (@aE _ _ (3) _ _ _ _ (cu).nd rfl (Or.inl rfl) (@aN _ _ _ _ (@aa _ _ _ _ _ (@ap _ _ _ _ _ _ _ _ b5 (pv 2) ae) (@aa _ _ _ _ _ (@ap _ _ _ _ _ _ _ _ cB (@ap _ _ _ _ _ _ _ _ b5 (pv 2) ae) ae) (@aa _ _ _ _ _ (@ap _ _ _ _ _ _ _ _ cB (@ap _ _ _ _ _ _ _ _ b5 (pv 2) ae) ae) (@aa _ _ _ _ _ (@ap _ _ _ _ _ _ _ _ cC (pv 2) (@bi _ _ _ _ _ _ _ ix_list (@aN _ _ _ _ (@aa _ _ _ _ _ ae (@aa _ _ _ _ _ (@gg _ _ _ _ _ _ dU ae) ac (by rfl)) (by rfl))) (@aq _ _ _ _ _ _ _ _ _ _ _ C__law_take hr (by lia) rfl (@aa _ _ _ _ _ (pv 0) (@aa _ _ _ _ _ ae ac (by rfl)) (by rfl)) (by decide) (by rfl) (by rfl)) (fun _ _=>rfl))) (@aa _ _ _ _ _ (@ap _ _ _ _ _ _ _ _ b5 (pv 2) ae) (@aa _ _ _ _ _ (@ap _ _ _ _ _ _ _ _ aX ae (@ap _ _ _ _ _ _ _ _ b5 (pv 2) ae)) ac (by rfl)) (by rfl)) (by rfl)) (by rfl)) (by rfl)) (by rfl))) (by rfl) (by first|exact .inl rfl|exact .inr rfl|assumption)) (@af _ _ _ (@ax _ _ _ _ (@bi _ _ _ _ _ _ _ ix_list (pv 3) (pv 1) (fun _ _=>rfl)))))),?_⟩;have p6:(10:Int) ^ (6:Int).toNat=1000000:=by decide
  refine ⟨_,rfl,10,6,rfl,rfl,⟨by decide,by decide,by decide⟩,wl,_,rfl,(by decide),(by decide),hp,fun r1 H1 a1 c1 b1 w1=>⟨10,6,rfl,rfl,⟨by decide,by decide,by decide⟩,_,_,rfl,rfl,.inr ⟨by decide,by decide⟩,?_⟩⟩;refine ⟨_,rfl,10,6,rfl,rfl,⟨by decide,by decide,by decide⟩,wl,_,rfl,(by decide),(by decide),w1,fun r2 H2 a2 c2 b2 w2=>⟨_,_,rfl,rfl,?_⟩⟩;have r1b:r1 < 1000000:=c1;have r2b:r2 < 1000000:=c2;have f0:0≤(r1 * 10 ^ (6:Int).toNat+r2)∧(r1 * 10 ^ (6:Int).toNat+r2) < 1000000000000:=by rw [p6];lia
  have m10:=fF (r1 * 10 ^ (6:Int).toNat+r2) 10 (by decide);have m3:=fF (r1 * 10 ^ (6:Int).toNat+r2) 3 (by decide);have m101:=fF (r1 * 10 ^ (6:Int).toNat+r2) 101 (by decide);have m2:=fF (r1 * 10 ^ (6:Int).toNat+r2) 2 (by decide);have m9:=fF (r1 * 10 ^ (6:Int).toNat+r2) 9 (by decide);refine ⟨_,rfl,_,_,rfl,rfl,(show (0:Int) < 10 by decide),_,rfl,_,_,rfl,rfl,(show (0:Int) < 3 by decide),_,_,rfl,rfl,_,rfl,_,_,rfl,rfl,(show (0:Int) < 101 by decide),_,_,rfl,rfl,_,rfl,_,rfl,(by show 2≤sizeLine;decide),fun p3 n3=>?_⟩;have s3:=Same.new n3 (.lst [V.int 1,.int (-1)]);have e3:upd H2 p3 (.lst [V.int 1,.int (-1)]) p3=some (.lst [V.int 1,.int (-1)]):=ad;have w3:=w2.keep s3;have n3w:=w2.ne n3;have b3:But wl H2 _:=But.of s3;generalize upd H2 p3 (.lst [V.int 1,.int (-1)])=H3 at s3 e3 w3 b3 ⊢;refine ⟨_,rfl,wl,2,rfl,by decide,by decide,w3,fun r3 H4 a3 c3 b4 w4=>?_⟩;obtain ⟨s1,hs1,vs1⟩:=pm a3 c3;refine ⟨p3,_,_,_,rfl,rfl,SqL.of (b4 _ _ n3w e3),hs1,_,_,rfl,rfl,.inl ⟨by lia,by lia⟩,?_⟩;refine ⟨_,rfl,_,_,rfl,rfl,(show (0:Int) < 2 by decide),_,rfl,_,_,rfl,rfl,(show (0:Int) < 9 by decide),_,_,rfl,rfl,(by show 6≤sizeLine;decide),fun p5 n5=>?_⟩;have s5:=Same.new n5 (.lst (([(r1 * 10 ^ (6:Int).toNat+r2) % 10,(r1 * 10 ^ (6:Int).toNat+r2) % 3 - 1,(r1 * 10 ^ (6:Int).toNat+r2) % 101 - 50,(r1 * 10 ^ (6:Int).toNat+r2) * s1,(r1 * 10 ^ (6:Int).toNat+r2) % 2,1+(r1 * 10 ^ (6:Int).toNat+r2) % 9]:List Int).map V.int));obtain ⟨el,hel,mel⟩:=on (xs:=[(r1 * 10 ^ (6:Int).toNat+r2) % 10,(r1 * 10 ^ (6:Int).toNat+r2) % 3 - 1,(r1 * 10 ^ (6:Int).toNat+r2) % 101 - 50,(r1 * 10 ^ (6:Int).toNat+r2) * s1,(r1 * 10 ^ (6:Int).toNat+r2) % 2,1+(r1 * 10 ^ (6:Int).toNat+r2) % 9]) y0 y6;refine ⟨_,rfl,_,rfl,p5,_,_,_,rfl,rfl,SqL.of ad,hel,?_⟩;have sb:-1000000000000 < el∧el < 1000000000000:=by
    simp only [aai,aa5,or_false] at mel;rcases mel with rfl|rfl|rfl|rfl|rfl|rfl
    · lia
    · lia
    · lia
    · rcases vs1 with rfl|rfl <;> lia
    · lia
    · lia
  exact q el _ sb.1 sb.2 ((((b1.trans b2).trans b3).trans b4).trans (But.of s5)) (w4.keep s5)
def kw:Sp:=fun vs H Q _=>∃ w n,vs=[.ref w,.int n]∧1≤n∧n≤20∧Pot H w ∧
  ∀ p ns H',But w H H'→Pot H' w→H p=none→H' p=some (.lst (ns.map V.int))→(ns.length:Int)=n→e9 ns→Q (.ref p) H'
abbrev d3:Stmt:=top 27
theorem bu:FnScope ["pot","many","way","found","k","kind"] ["pot","many"] (ao d3):=⟨rfl,rfl,rfl,by decide +kernel,rfl,by decide +kernel,by decide +kernel⟩
theorem rf (F:Fun K "_law_row" "_law_row" d3 f fd) (B:Bu K mg) (C__law_take:Cal P w K mg base "_law_take" 2 ["pot","many"] dh) (C__law_number:Cal P w K mg base "_law_number" 3 ["pot","way"] fY):FnOk P w K mg base CX0 4 f fd ["pot","many"] kw:=by
  refine F.ok bu (fun vs H Q E h=>?_) (fun cdv A outer s H vs Q E hr h=>?_)
  · obtain ⟨w,m,rfl,_⟩:=h;rfl
  obtain ⟨wl,n,rfl,h1,h20,hp,q⟩:=h;refine ⟨_,(@ag _ _ _ _ _ (@aE _ _ (2) _ _ _ _ (bu).nd rfl (Or.inl rfl) (@aq _ _ _ _ _ _ _ _ _ _ _ C__law_take hr (by lia) rfl (@aa _ _ _ _ _ (pv 0) (@aa _ _ _ _ _ ae ac (by rfl)) (by rfl)) (by decide) (by rfl) (by rfl)) (by rfl) (by first|exact .inl rfl|exact .inr rfl|assumption)) (@ag _ _ _ _ _ (@aE _ _ (3) _ _ _ _ (bu).nd rfl (Or.inl rfl) (@aN _ _ _ _ ac) (by rfl) (by first|exact .inl rfl|exact .inr rfl|assumption)) (@ag _ _ _ _ _ (@bd _ _ _ _ _ _ _ _ aaC rfl (@bp _ _ _ _ _ _ rfl B.irange (@aa _ _ _ _ _ (pv 1) ac (by rfl)) (by rfl)) (@am _ _ (4) _ (bu).nd rfl (Or.inl rfl) (.inl rfl)) (@ag _ _ _ _ _ (@aE _ _ (5) _ _ _ _ (bu).nd rfl (Or.inl rfl) (pv 2) (by rfl) (by first|exact .inl rfl|exact .inr rfl|assumption)) (@eK _ _ _ _ _ (@aW _ _ _ _ _ _ _ _ (@aG _ _ _ _ _ _ _ _ qz (pv 2) ae (ay _)) (@af _ _ _ (@aE _ _ (5) _ _ _ _ (bu).nd rfl (Or.inl rfl) (@aq _ _ _ _ _ _ _ _ _ _ _ C__law_take hr (by lia) rfl (@aa _ _ _ _ _ (pv 0) (@aa _ _ _ _ _ ae ac (by rfl)) (by rfl)) (by decide) (by rfl) (by rfl)) (by rfl) (by first|exact .inl rfl|exact .inr rfl|assumption))) aF) (@af _ _ _ (@bQ _ _ _ _ (@jC _ _ _ _ _ _ _ _ _ _ _ _ abt PySem.F.slot_list_append PySem.F.type_list_append g6 (pv 3) (@aa _ _ _ _ _ (@aq _ _ _ _ _ _ _ _ _ _ _ C__law_number hr (by lia) rfl (@aa _ _ _ _ _ (pv 0) (@aa _ _ _ _ _ (pv 5) ac (by rfl)) (by rfl)) (by decide) (by rfl) (by rfl)) ac (by rfl)) (by rfl) (by rfl) (by rfl) (by rfl) (by rfl)) (by rfl))))) (by intro _;rfl)) (@eK _ _ _ _ _ (@aW _ _ _ _ _ _ _ _ (@aG _ _ _ _ _ _ _ _ bj (pv 2) ae (ay _)) (@af _ _ _ (@aE _ _ (3) _ _ _ _ (bu).nd rfl (Or.inl rfl) (@ap _ _ _ _ _ _ _ _ iF (@jy _ _ _ _ _ _ _ _ _ _ lR (pv 3) l7 (@l5 _ _ _ ae)) (pv 1)) (by rfl) (by first|exact .inl rfl|exact .inr rfl|assumption))) aF) (@af _ _ _ (@ax _ _ _ _ (pv 3))))))),?_⟩;refine ⟨_,rfl,wl,9,rfl,by decide,by decide,hp,fun y H1 y0 y9 b1 w1=>?_⟩;refine ⟨(by show 0≤sizeLine;decide),fun pf nf=>?_⟩;have nfw:=w1.ne nf;have hfree:H pf=none:=w1.free b1 nf;refine ⟨_,rfl,n,rfl,by lia,by lia,a9 (n:=n.toNat) (fun j σ H'=>∃ (ns:List Int) (c4 c5:Option V),σ=[some (.ref wl),some (.int n),some (.int y),some (.ref pf),c4,c5]∧H' pf=some (.lst (ns.map V.int))∧ns.length=j∧e9 ns∧But wl H1 H'∧Pot H' wl) ⟨[],_,_,rfl,ad,rfl,(fun _ z=>nomatch z),But.new nf _,w1.keep (Same.new nf _)⟩ ?_ ?_⟩
  · rintro j σ H2 hj ⟨ns,c4,c5,rfl,ef,hl,hs,b2,w2⟩;refine ⟨_,rfl,fun σ H3=>∃ kd,σ=[some (.ref wl),some (.int n),some (.int y),some (.ref pf),some (.int (0+(j:Int))),some (.int kd)]∧0≤kd∧kd < 6∧But wl H2 H3∧Pot H3 wl,?_,?_⟩
    · refine ⟨_,rfl,_,_,rfl,rfl,_,rfl,fJ (fun c=>?_) (fun c=>?_)⟩
      · exact ⟨_,rfl,wl,6,rfl,by decide,by decide,w2,fun r H3 a3 c3 b3 w3=>⟨r,rfl,a3,c3,b3,w3⟩⟩
      · have c:¬ (5 < y):=fun z=>c (decide_eq_true z);exact ⟨y,rfl,y0,by lia,But.refl,w2⟩
    · rintro σ H3 ⟨kd,rfl,k0,k6,b3,w3⟩;have ef3:=b3 _ _ nfw ef;refine ⟨_,rfl,.inl ⟨rfl,_,SqL.of ef3⟩,_,rfl,_,rfl,wl,kd,rfl,k0,k6,w3,fun r H4 r1 r2 b4 w4=>?_⟩;have ef4:=b4 _ _ nfw ef3;refine ⟨pf,_,_,rfl,rfl,ef4,aB (by rw [aab];lia),?_⟩;refine ⟨ns++[r],_,_,rfl,by rw [ad,aaM];rfl,by rw [aav,hl];rfl,fun x hx=>(aax.mp hx).elim (hs x) fun z=>by rw [aaI.mp z];exact ⟨r1,r2⟩,fun c o nc hc=>?_,?_⟩
      · by_cases z:c=pf
        · subst z;rw [nf] at hc;cases hc
        · rw [ak z];exact ((b2.trans b3).trans b4) c o nc hc
      · obtain ⟨wa,wb,wc,we⟩:=w4;exact ⟨wa,wb,wc,by rw [ak (abF nfw)];exact we⟩
  · rintro σ H2 ⟨ns,c4,c5,rfl,ef,hl,hs,b2,w2⟩;have lns:(ns.length:Int)=n:=by lia
    refine ⟨fun σ H3=>∃ pr ms,σ=[some (.ref wl),some (.int n),some (.int y),some (.ref pr),c4,c5]∧H3 pr=some (.lst (ms.map V.int))∧ms.length=ns.length∧e9 ms∧But wl H2 H3∧Pot H3 wl∧H pr=none,?_,?_⟩
    · refine ⟨_,rfl,rfl,_,rfl,fJ (fun c=>?_) (fun c=>?_)⟩
      · refine ⟨_,rfl,1,rfl,pf,_,rfl,SqL.of ef,fun p3 n3=>?_⟩;have s3:=Same.new n3 (.lst (iW (ns.map V.int) none (some 1)));obtain ⟨x0,r0,rfl⟩:∃ x0 r0,ns=x0 :: r0:=by
          cases ns with
          | nil=>simp at lns;lia
          | cons x r=>exact ⟨x,r,rfl⟩
        have ec:iW ((x0 :: r0).map V.int) none (some 1)=[V.int x0]:=by
          unfold iW HT.sIx;simp
        rw [ec] at s3 ⊢;refine ⟨_,rfl,p3,n,_,rfl,rfl,ad,by lia,by lia,fQ (by simp;lia),fun p4 n4=>?_⟩;have s4:=Same.new n4 (.lst (aaF n.toNat [V.int x0]).flatten);have er:(aaF n.toNat [V.int x0]).flatten=(aaF n.toNat x0).map V.int:=by simp
        have S4:=s3.trans s4;refine ⟨p4,aaF n.toNat x0,rfl,by rw [ad,er],by rw [List.length_replicate];lia,fun x hx=>?_,But.of S4,w2.keep S4,?_⟩
        · rw [List.eq_of_mem_replicate hx];exact hs x0 aaq
        · have n4':H2 p4=none:=s3.free n4;have n41:H1 p4=none:=by
            cases e:H1 p4 with
            | none=>rfl
            | some o=>rw [b2 _ _ (w2.ne n4') e] at n4';cases n4'
          exact w1.free b1 n41
      · exact ⟨pf,ns,rfl,ef,rfl,hs,But.refl,w2,hfree⟩
    · rintro σ H3 ⟨pr,ms,rfl,er,lm,hm,b3,w3,fr⟩;exact ⟨_,rfl,q pr ms H3 ((b1.trans b2).trans b3) w3 fr er (by lia) hm⟩
def fW:Sp:=fun vs H Q _=>∃ w,vs=[.ref w]∧Pot H w∧∀ gs H',1≤gs.length→gs.length≤3→dG gs→But w H H'→Pot H' w→Q (.str (ar gs)) H'
abbrev cU:Stmt:=top 28
theorem gL:FnScope ["pot"] ["pot"] (ao cU):=⟨rfl,rfl,rfl,by decide +kernel,rfl,by decide +kernel,by decide +kernel⟩
theorem iH (F:Fun K "_law_signs" "_law_signs" cU f fd) (C__law_take:Cal P w K mg base "_law_take" 2 ["pot","many"] dh):FnOk P w K mg base CX0 3 f fd ["pot"] fW:=by
  refine F.ok gL (fun vs H Q E h=>?_) (fun cdv A outer s H vs Q E hr h=>?_)
  · obtain ⟨x,rfl,_⟩:=h;rfl
  obtain ⟨wl,rfl,hw,q⟩:=h;refine ⟨_,(@af _ _ _ (@ax _ _ _ _ (@bi _ _ _ _ _ _ _ ix_list (@aN _ _ _ _ (@aa _ _ _ _ _ br (@aa _ _ _ _ _ br (@aa _ _ _ _ _ br (@aa _ _ _ _ _ br (@aa _ _ _ _ _ br (@aa _ _ _ _ _ br (@aa _ _ _ _ _ br (@aa _ _ _ _ _ br ac (by rfl)) (by rfl)) (by rfl)) (by rfl)) (by rfl)) (by rfl)) (by rfl)) (by rfl))) (@aq _ _ _ _ _ _ _ _ _ _ _ C__law_take hr (by lia) rfl (@aa _ _ _ _ _ (pv 0) (@aa _ _ _ _ _ ae ac (by rfl)) (by rfl)) (by decide) (by rfl) (by rfl)) (fun _ _=>rfl)))),?_⟩;refine ⟨(by show 8≤sizeLine;decide),fun p1 n1=>?_⟩;have w1:=hw.keep (Same.new n1 (.lst [.str "+",.str "-",.str "*",.str "+-",.str "+*",.str "-*",.str "+-*",.str "+-*"]));refine ⟨_,rfl,wl,8,rfl,by decide,by decide,w1,fun r1 H1 a1 b1 g1 w2=>?_⟩;obtain ⟨gs,hg,l1,l2,l3⟩:=ud a1 b1;exact ⟨p1,_,_,_,rfl,rfl,SqL.of (g1 _ _ (hw.ne n1) ad),hg,q gs H1 l1 l2 l3 ((But.new n1 _).trans g1) w2⟩
end
open PySem L2
structure Cp (K:aaa) (mg:Str→Option Value) (tk:Tok) (aP:Addr):Prop where
  gMOST_NUMBERS:mg "MOST_NUMBERS" = some (.int 9 tk)
  gSIGNS_TO_PUT:mg "SIGNS_TO_PUT" = some (.ref aP)
  sSIGNS_TO_PUT:∀ H,SqT K H aP ix
theorem PairsIn.mono {H H':Hp} (t:Tups H H') {ps:List (Int × Int)} {vs:List V} (p:PairsIn H ps vs):PairsIn H' ps vs:=by
  induction p with
  | nil=>exact .nil
  | cons z _ ih=>obtain ⟨a,e,h⟩:=z;exact .cons ⟨a,e,t _ _ h⟩ ih
theorem PairsIn.app {H:Hp} {ps qs:List (Int × Int)} {vs us:List V} (a:PairsIn H ps vs) (b:PairsIn H qs us):PairsIn H (ps++qs) (vs++us):=by
  induction a with
  | nil=>exact b
  | cons x _ ih=>exact .cons x ih
theorem PairsIn.snoc {H:Hp} {ps:List (Int × Int)} {vs:List V} {p:Int × Int} {v:V} (h:PairsIn H ps vs) (x:PairIn H p v):PairsIn H (ps++[p]) (vs++[v]):=PairsIn.app h (.cons x .nil)
def sfR (n m:Nat):List (Int × Int):=(abd (n - m)).map fun (f:Nat)=>((f:Int),((f+m:Nat):Int))
def sfl (n i:Nat):List (Int × Int):=(abd i).flatMap fun m=>sfR n m
theorem jf (n i:Nat):sfl n (i+1)=sfl n i++sfR n i:=by
  unfold sfl;rw [List.range_succ,ab6];simp
theorem iw (n i:Nat):(sfl n i).length≤i * n:=by
  induction i with
  | zero=>simp [sfl]
  | succ i ih =>
    rw [jf,aav];have : (sfR n i).length≤n:=by simp [sfR]
    rw [Nat.succ_mul];lia
theorem lU (n:Nat) (a b:Nat) (h1:a≤b) (h2:b < n):((a:Int),(b:Int))∈sfl n n:=by
  unfold sfl sfR;rw [acw];refine ⟨b - a,aaH.mpr (by lia),?_⟩;rw [List.mem_map];refine ⟨a,aaH.mpr (by lia),?_⟩;have : a+(b - a)=b:=by lia
  rw [this]
section
variable {P:Program} {w:World} {K:aaa} {mg:Str→Option Value} {base:Heap} {f:Addr} {fd:FuncData}
def ir:Sp:=fun vs H Q _=>∃ (a:Addr) (ns:List Int),vs=[.ref a]∧H a=some (.lst (ns.map V.int))∧1≤ns.length∧ns.length≤9∧∀ H',Same H H'→Q (.bl true) H'
abbrev gc:Stmt:=top 8
theorem mX:FnScope ["thing"] ["thing"] (ao gc):=⟨rfl,rfl,rfl,by decide +kernel,rfl,by decide +kernel,by decide +kernel⟩
theorem nv {tk:Tok} {aP:Addr} (F:Fun K "is_row" "is_row" gc f fd) (B:Bu K mg) (B3:Cp K mg tk aP) (C_is_whole:Cal P w K mg base "is_whole" 1 ["thing"] (fN K)):FnOk P w K mg base CX0 2 f fd ["thing"] ir:=by
  refine F.ok mX (fun vs H Q E h=>?_) (fun cdv A outer s H vs Q E hr h=>?_)
  · obtain ⟨x,v,rfl,_⟩:=h;rfl
  obtain ⟨a,ns,rfl,ea,h1,h2,q⟩:=h;refine ⟨_,(@ag _ _ _ _ _ (@aW _ _ _ _ _ _ _ _ (@PW.pt _ _ _ (@dR _ _ _ _ _ _ _ (@bq _ _ _ _ (@bc _ _ _ (@ah _ _ _ _ _ _ _ _ _ (@aA _ ("list")) rfl B.iisinstance aag (@aa _ _ _ _ _ (pv 0) (@aa _ _ _ _ _ (@aH _ _ (.ty "list") _ _ rfl B.ilist aa7 rfl (by decide) (by decide)) ac (by rfl)) (by rfl)) (by decide) (by decide) (by rfl) (by rfl)) (by intro _;rfl))) (@cL _ _ _ _ (@bq _ _ _ _ (@oh _ _ _ _ _ _ _ _ _ _ _ _ gj gj ae (@ah _ _ _ _ _ _ _ _ _ aD rfl B.ilen aaL (@aa _ _ _ _ _ (pv 0) ac (by rfl)) (by decide) (by decide) (by rfl) (by rfl)) (@md _ _ (.int 9) _ _ rfl B3.gMOST_NUMBERS ⟨_,rfl⟩ (by decide)) (by with_unfolding_all rfl)))))) (@af _ _ _ (@ax _ _ _ _ dg)) aF) (@af _ _ _ (@ax _ _ _ _ (@ah _ _ _ _ _ _ _ _ _ (@e8 _ rfl) rfl B.iall abW (@aa _ _ _ _ _ (@cF _ _ _ _ _ _ _ _ (["number"]) ([none]) _ _ _ _ rfl (@eO _ _ _ _ (pv 0)) rfl trivial trivial (fun _ _ _ _=>⟨(@am _ _ (0) _ (show aaZ (["number"]:List Str) by decide +kernel) rfl (Or.inl rfl) (.inr rfl)),aY,(@aq _ _ _ _ _ _ _ _ _ _ _ C_is_whole hr (by lia) rfl (@aa _ _ _ _ _ (pv 0) ac (by rfl)) (by decide) (by rfl) (by rfl))⟩) (by rfl) (by rfl) (by rfl) (by rfl) (by intro _;rfl)) ac (by rfl)) (by decide) (by decide) (by rfl) (by rfl))))),?_⟩;have hl:(ns.map V.int).length=ns.length:=aab _;refine ⟨_,rfl,_,_,true,rfl,.lst ea,rfl,true,rfl,aR ?_⟩;refine ⟨_,rfl,a,_,rfl,.inl (SqL.of ea),_,_,rfl,rfl,true,congrArg V.bl (decide_eq_true (by lia)),a4 ?_⟩;refine ⟨_,_,rfl,rfl,true,congrArg V.bl (decide_eq_true (by lia)),aR ?_⟩;refine ⟨_,rfl,a,rfl,⟨_,SqL.of ea⟩,?_⟩;refine cN (Trn.list (xs:=ns.map V.int)) (fun i ys H'=>H'=H∧ys=(aaF i true).map V.bl) ⟨rfl,rfl⟩ (fun i ys H' hi p=>by rw [p.1,p.2];exact ⟨SqL.of ea,aB (by simp;lia)⟩) (fun i x ys H1 H' hi hx p Nx nx=>?_) (fun ys H' p p5 n5=>?_)
  · obtain ⟨rfl,rfl⟩:=p;obtain ⟨rfl,hx⟩:=hx;rw [aap] at hx;obtain ⟨c,_,rfl⟩:=abh.mp hx;refine ⟨_,rfl,_,_,rfl,.int c,nx _ _ ⟨rfl,?_⟩⟩;rw [List.replicate_succ',aaM];rfl
  obtain ⟨rfl,rfl⟩:=p;refine ⟨p5,_,rfl,SqL.of ad,?_⟩;have e:((aaF (ns.map V.int).length true).all id)=true:=by simp
  rw [e];exact q _ (Same.new n5 _)
def fc:Sp:=fun vs H Q _=>∃ (a:Addr) (ns:List Int),vs=[.ref a]∧H a=some (.lst (ns.map V.int))∧1≤ns.length∧ns.length≤9∧∀ H',Same H H'→Q .non H'
abbrev dY:Stmt:=top 10
theorem ji:FnScope ["thing"] ["thing"] (ao dY):=⟨rfl,rfl,rfl,by decide +kernel,rfl,by decide +kernel,by decide +kernel⟩
theorem jF (F:Fun K "need_row" "need_row" dY f fd) (C_is_row:Cal P w K mg base "is_row" 2 ["thing"] ir):FnOk P w K mg base CX0 3 f fd ["thing"] fc:=by
  refine F.ok ji (fun vs H Q E h=>?_) (fun cdv A outer s H vs Q E hr h=>?_)
  · obtain ⟨x,v,rfl,_⟩:=h;rfl
  obtain ⟨a,ns,rfl,ea,h1,h2,q⟩:=h;refine ⟨_,(@af _ _ _ (@aW _ _ _ _ _ _ _ _ (@bq _ _ _ _ (@bc _ _ _ (@aq _ _ _ _ _ _ _ _ _ _ _ C_is_row hr (by lia) rfl (@aa _ _ _ _ _ (pv 0) ac (by rfl)) (by decide) (by rfl) (by rfl)) (by intro _;rfl))) (@af _ _ _ ju) aF)),?_⟩;exact ⟨_,rfl,a,ns,rfl,ea,h1,h2,fun H' hS=>⟨true,rfl,aR (q H' hS)⟩⟩
def pN:Sp:=fun vs H Q _=>∃ n:Nat,vs=[.int n]∧n≤9∧∀ p us H',Same H H'→H p=none→H' p=some (.lst us)→PairsIn H' (sfl n n) us→Q (.ref p) H'
abbrev bW:Stmt:=top 12
theorem fi:FnScope ["many"] ["many"] (ao bW):=⟨rfl,rfl,rfl,by decide +kernel,rfl,by decide +kernel,by decide +kernel⟩
theorem fo (F:Fun K "shorter_first" "shorter_first" bW f fd) (B:Bu K mg):FnOk P w K mg base CX0 1 f fd ["many"] pN:=by
  refine F.ok fi (fun vs H Q E h=>?_) (fun cdv A outer s H vs Q E hr h=>?_)
  · obtain ⟨l,rfl,_⟩:=h;rfl
  obtain ⟨n,rfl,h9,q⟩:=h;refine ⟨_,(@af _ _ _ (@ax _ _ _ _ (@qX _ _ _ _ _ _ _ _ _ _ _ (["more","first","many"]) ([none,none,some 0]) _ _ _ _ _ _ _ rfl (@bp _ _ _ _ _ _ rfl B.irange (@aa _ _ _ _ _ (pv 0) ac (by rfl)) (by rfl)) rfl ⟨rfl,trivial⟩ ⟨⟨rfl,Or.inl rfl,Or.inl rfl⟩,trivial⟩ (fun _ _ _ _=>⟨(@am _ _ (0) _ (show aaZ (["more","first","many"]:List Str) by decide +kernel) rfl (Or.inl rfl) (.inr rfl)),aY,(@bp _ _ _ _ _ _ rfl B.irange (@aa _ _ _ _ _ (@ap _ _ _ _ _ _ _ _ cB (pv 2) (pv 0)) ac (by rfl)) (by rfl)),(@am _ _ (1) _ (show aaZ (["more","first","many"]:List Str) by decide +kernel) rfl (Or.inl rfl) (.inr rfl)),aY,(@au _ _ _ _ _ (@aa _ _ _ _ _ (pv 1) (@aa _ _ _ _ _ (@ap _ _ _ _ _ _ _ _ aX (pv 1) (pv 0)) ac (by rfl)) (by rfl)))⟩) (by rfl) (by rfl) (by rfl) (by rfl) (by intro _;rfl) (by intro _ _;rfl)))),?_⟩;refine ⟨_,rfl,n,rfl,by lia,by lia,?_⟩;refine rn (Trn.range (lo:=0) (n:=(n:Int).toNat)) (fun i ys H'=>Same H H'∧PairsIn H' (sfl n i) ys) ⟨Same.refl _,.nil⟩ (fun i ys H' hi p=>trivial) (fun i x ys H1 H' hi hx p Nx nx=>?_) (fun ys H' p p5 n5=>?_)
  · obtain ⟨rfl,rfl⟩:=hx;obtain ⟨S,hp⟩:=p;have hl:=hp.length;have hb:=iw n i;have hn:(n:Int).toNat=n:=by lia
    have hin:i < n:=by lia
    have hb2:i * n≤9 * 9:=acq (by lia) h9;have en:((n:Int) - (0+(i:Int))).toNat=n - i:=by lia
    refine ⟨_,rfl,_,rfl,_,_,rfl,rfl,(n:Int) - (0+(i:Int)),rfl,by lia,by lia,?_⟩;refine rl (Trn.range (lo:=0) (n:=((n:Int) - (0+(i:Int))).toNat)) (fun j zs σ H2=>Same H H2∧(∃ c,σ=[some (.int (0+(i:Int))),c,some (.int n)])∧PairsIn H2 (sfl n i++(sfR n i).take j) zs) ⟨S,⟨_,rfl⟩,by simpa using hp⟩ (fun j zs σ H2 hj p=>⟨trivial,aB (by have:=p.2.2.length;rw [← this,aav,aaJ];lia)⟩) (fun j x zs σ H2 H3 hj hx p Ny ny=>?_) (fun zs σ H2 p=>?_)
    · obtain ⟨rfl,rfl⟩:=hx;obtain ⟨S2,⟨c,rfl⟩,hp2⟩:=p;refine ⟨_,rfl,_,rfl,_,rfl,_,_,rfl,rfl,(by show 2≤sizeLine;decide),fun t ht=>ny _ _ _ ⟨S2.trans (Same.new ht _),⟨_,rfl⟩,?_⟩⟩;have s3:=Same.new ht (.tup [.int (0+(j:Int)),.int (0+(j:Int)+(0+(i:Int)))]);have e:(sfR n i).take (j+1)=(sfR n i).take j++[(((j:Nat):Int),((j+i:Nat):Int))]:=by
        rw [aaA];have : (sfR n i)[j]?=some (((j:Nat):Int),((j+i:Nat):Int)):=by
          unfold sfR;rw [aap,aa1 (by lia)];rfl
        rw [this];rfl
      rw [e,← aaw];refine PairsIn.snoc (PairsIn.mono (Tups.of s3) hp2) ⟨t,rfl,?_⟩;rw [ad];have e1:(0:Int)+(j:Int)=((j:Nat):Int):=by lia
      have e2:(0:Int)+(j:Int)+(0+(i:Int))=((j+i:Nat):Int):=by lia
      show some (HO.tup [V.int (0+(j:Int)),V.int (0+(j:Int)+(0+(i:Int)))])=some (HO.tup [V.int ((j:Nat):Int),V.int ((j+i:Nat):Int)]);rw [e2,e1]
    · obtain ⟨S2,⟨c,rfl⟩,hp2⟩:=p;refine nx _ _ ⟨S2,?_⟩;rw [en,aaY (by simp [sfR]),← jf] at hp2;exact hp2
  · obtain ⟨S,hp⟩:=p;have hn:(n:Int).toNat=n:=by lia
    rw [hn] at hp;have s5:=Same.new n5 (.lst ys);exact q p5 ys _ (S.trans s5) (S.free n5) ad (PairsIn.mono (Tups.of s5) hp)
def ff:Sp:=fun vs H Q _=>∃ gs,vs=[.str (ar gs)]∧dG gs∧Q (.bl true) H
abbrev d0:Stmt:=top 9
theorem jl:FnScope ["thing"] ["thing"] (ao d0):=⟨rfl,rfl,rfl,by decide +kernel,rfl,by decide +kernel,by decide +kernel⟩
theorem jK {tk:Tok} {aP:Addr} (F:Fun K "is_signs" "is_signs" d0 f fd) (B:Bu K mg) (B3:Cp K mg tk aP):FnOk P w K mg base CX0 1 f fd ["thing"] ff:=by
  refine F.ok jl (fun vs H Q E h=>?_) (fun cdv A outer s H vs Q E hr h=>?_)
  · obtain ⟨x,rfl,_⟩:=h;rfl
  obtain ⟨gs,rfl,hs,q⟩:=h;refine ⟨_,(@af _ _ _ (@ax _ _ _ _ (@bZ _ _ _ _ _ _ _ (@ah _ _ _ _ _ _ _ _ _ (@aA _ ("str")) rfl B.iisinstance aag (@aa _ _ _ _ _ (pv 0) (@aa _ _ _ _ _ (@aH _ _ (.ty "str") _ _ rfl B.istr abD rfl (by decide) (by decide)) ac (by rfl)) (by rfl)) (by decide) (by decide) (by rfl) (by rfl)) (@c_ _ _ _ _ _ (@aQ _ _ _ _ _ _ _ _ nq (pv 0) (@md _ _ (.ref aP) _ _ rfl B3.gSIGNS_TO_PUT rfl (by decide)) (by with_unfolding_all rfl)))))),?_⟩;refine ⟨_,rfl,_,_,true,rfl,.str _,rfl,true,rfl,a4 ⟨_,rfl,aP,_,rfl,.inr (B3.sSIGNS_TO_PUT H),rfl,rfl,?_⟩⟩;show Q (.bl (inV (.str (ar gs)) ix)) H;rw [show inV (.str (ar gs)) ix=true from hs];exact q
def di:Sp:=fun vs H Q _=>∃ gs,vs=[.str (ar gs)]∧dG gs∧Q .non H
abbrev cS:Stmt:=top 11
theorem gJ:FnScope ["thing"] ["thing"] (ao cS):=⟨rfl,rfl,rfl,by decide +kernel,rfl,by decide +kernel,by decide +kernel⟩
theorem gN (F:Fun K "need_signs" "need_signs" cS f fd) (C_is_signs:Cal P w K mg base "is_signs" 1 ["thing"] ff):FnOk P w K mg base CX0 2 f fd ["thing"] di:=by
  refine F.ok gJ (fun vs H Q E h=>?_) (fun cdv A outer s H vs Q E hr h=>?_)
  · obtain ⟨x,rfl,_⟩:=h;rfl
  obtain ⟨gs,rfl,hs,q⟩:=h;refine ⟨_,(@af _ _ _ (@aW _ _ _ _ _ _ _ _ (@bq _ _ _ _ (@bc _ _ _ (@aq _ _ _ _ _ _ _ _ _ _ _ C_is_signs hr (by lia) rfl (@aa _ _ _ _ _ (pv 0) ac (by rfl)) (by decide) (by rfl) (by rfl)) (by intro _;rfl))) (@af _ _ _ ju) aF)),?_⟩;exact ⟨_,rfl,gs,rfl,hs,true,rfl,aR q⟩
end
open PySem L2
def wl (s:Nat) (L:List Int) (n l:Nat):Int:=(s:Int) * L.getD l 0 * L.getD (n - l) 0
def cl (s:Nat):Nat→List Int
  | 0=>[0,1]
  | k+1=>cl s k++[((abd (k+1)).map fun j=>wl s (cl s k) (k+2) (1+j)).sum]
section
variable {P:Program} {w:World} {K:aaa} {mg:Str→Option Value} {base:Heap} {f:Addr} {fd:FuncData}
end
open PySem L2
def ky (p:Int × Int):List Key:=[Sum.inl p.1,Sum.inl p.2]
theorem iU {p q:Int × Int} (h:ky p=ky q):p=q:=by
  obtain ⟨a,b⟩:=p;obtain ⟨c,d⟩:=q;simp [ky] at h;rw [h.1,h.2]
theorem PairIn.key {H:Hp} {p:Int × Int} {v:V} (h:PairIn H p v):∃ b,v=.ref b∧H b=some (.tup ((ky p).map kV)):=h
def CutIn (H:Hp) (p:Int × Int) (c:Int) (v:V):Prop:=∃ a x y,v=.ref a∧H a=some (.tup [x,y])∧PairIn H (p.1,c) x∧PairIn H (c+1,p.2) y
theorem PairIn.mono {H H':Hp} {p:Int × Int} {v:V} (t:Tups H H') (h:PairIn H p v):PairIn H' p v:=by
  obtain ⟨a,e,h⟩:=h;exact ⟨a,e,t _ _ h⟩
theorem CutIn.mono {H H':Hp} {p:Int × Int} {c:Int} {v:V} (t:Tups H H') (h:CutIn H p c v):CutIn H' p c v:=by
  obtain ⟨a,x,y,e,h1,h2,h3⟩:=h;exact ⟨a,x,y,e,t _ _ h1,PairIn.mono t h2,PairIn.mono t h3⟩
def bh (p:Int × Int):List Int:=(abd (p.2 - p.1).toNat).map fun (k:Nat)=>p.1+(k:Int)
theorem Paired.snoc {α β:Type} {F:α→β→Prop} {as:List α} {us:List β} {a:α} {u:β} (h:Paired F as us) (x:F a u):Paired F (as++[a]) (us++[u]):=by
  induction h with
  | nil=>exact .cons x .nil
  | cons y _ ih=>exact .cons y ih
theorem Paired.at {α β:Type} {F:α→β→Prop} {as:List α} {us:List β} (p:Paired F as us):∀ {j:Nat} {x:β},us[j]?=some x→∃ a,as[j]?=some a∧F a x:=by
  induction p with
  | nil=>intro j x h;cases h
  | cons a b ih =>
    intro j x h;cases j with
    | zero=>cases h;exact ⟨_,rfl,a⟩
    | succ j=>exact ih (j:=j) h
def Sg.op:Sg→Int→Int→Int
  | .plus,a,b=>a+b
  | .minus,a,b=>a - b
  | .times,a,b=>a * b
theorem kq (x y:Str):(x++y).cps.toList=x.cps.toList++y.cps.toList:=by
  obtain ⟨a⟩:=x;obtain ⟨b⟩:=y;show (a++b).toList=_;rw [Array.toList_append]
def Sg.code:Sg→Nat
  | .plus=>43
  | .minus=>45
  | .times=>42
theorem bT (g:Sg):g.str=⟨#[g.code]⟩:=by cases g <;> rfl
theorem cf:∀ gs:List Sg,(ar gs).cps.toList=gs.map Sg.code
  | []=>rfl
  | g :: r=>by
    show (g.str++ar r).cps.toList=g.code :: r.map Sg.code;rw [kq,cf r,bT];rfl
theorem cR (gs:List Sg):(ar gs).cps.all (· < 128)=true:=by
  rw [← Array.all_toList,cf,aaR];intro c hc;obtain ⟨g,_,rfl⟩:=aal.mp hc;cases g <;> decide
theorem lT {gs:List Sg} {i c:Nat} (h:(ar gs).cps[i]?=some c):∃ g,gs[i]?=some g∧c=g.code:=by
  have h2:(ar gs).cps.toList[i]?=some c:=by simpa using h
  rw [cf,aap] at h2;obtain ⟨g,hg,e⟩:=abh.mp h2;exact ⟨g,hg,e.symm⟩
theorem eB (gs:List Sg):(ar gs).cps.size=gs.length:=by
  have:=congrArg ab7 (cf gs);simpa using this
section
variable {P:Program} {w:World} {K:aaa} {mg:Str→Option Value} {base:Heap} {f:Addr} {fd:FuncData}
def kx:Sp:=fun vs H Q _=>∃ p v,vs=[v]∧PairIn H p v∧0≤p.1∧p.1≤p.2∧p.2 < 100∧∀ a us H',Same H H'→H a=none→H' a=some (.lst us)→Paired (CutIn H' p) (bh p) us→Q (.ref a) H'
abbrev fk:Stmt:=top 14
theorem dW:FnScope ["stretch","first","last"] ["stretch"] (ao fk):=⟨rfl,rfl,rfl,by decide +kernel,rfl,by decide +kernel,by decide +kernel⟩
theorem kQ (F:Fun K "cuts_of" "cuts_of" fk f fd) (B:Bu K mg):FnOk P w K mg base CX0 1 f fd ["stretch"] kx:=by
  refine F.ok dW (fun vs H Q E h=>?_) (fun cdv A outer s H vs Q E hr h=>?_)
  · obtain ⟨p,v,rfl,_⟩:=h;rfl
  obtain ⟨p,v,rfl,⟨a,rfl,ha⟩,h1,h2,h3,q⟩:=h;refine ⟨_,(@ag _ _ _ _ _ (@du _ _ _ _ _ _ (pv 0) (@dy _ _ _ _ _ _ rfl (@aZ _ _ _ _ _ (@am _ _ (1) _ (dW).nd rfl (Or.inr rfl) (.inl rfl)) (@aZ _ _ _ _ _ (@am _ _ (2) _ (dW).nd rfl (Or.inr rfl) (.inl rfl)) cE (by rfl)) (by rfl)) (by rfl) (by rfl)) (by rfl) (by rfl) (by rfl)) (@af _ _ _ (@ax _ _ _ _ (@cF _ _ _ _ _ _ _ _ (["cut","first","last"]) ([none,some 1,some 2]) _ _ _ _ rfl (@ci _ _ _ _ _ _ _ rfl B.irange (@aa _ _ _ _ _ (pv 1) (@aa _ _ _ _ _ (pv 2) ac (by rfl)) (by rfl)) (by rfl) (by rfl)) rfl ⟨rfl,⟨rfl,trivial⟩⟩ ⟨⟨rfl,Or.inl rfl,Or.inl rfl⟩,⟨⟨rfl,Or.inl rfl,Or.inl rfl⟩,trivial⟩⟩ (fun _ _ _ _=>⟨(@am _ _ (0) _ (show aaZ (["cut","first","last"]:List Str) by decide +kernel) rfl (Or.inl rfl) (.inr rfl)),aY,(@au _ _ _ _ _ (@aa _ _ _ _ _ (@au _ _ _ _ _ (@aa _ _ _ _ _ (pv 1) (@aa _ _ _ _ _ (pv 0) ac (by rfl)) (by rfl))) (@aa _ _ _ _ _ (@au _ _ _ _ _ (@aa _ _ _ _ _ (@ap _ _ _ _ _ _ _ _ aX (pv 0) ae) (@aa _ _ _ _ _ (pv 2) ac (by rfl)) (by rfl))) ac (by rfl)) (by rfl)))⟩) (by rfl) (by rfl) (by rfl) (by rfl) (by intro _;rfl))))),?_⟩;refine ⟨_,rfl,a,_,rfl,SqT.of ha,rfl,_,_,rfl,_,_,rfl,rfl,?_⟩;refine ⟨_,rfl,_,rfl,p.1,p.2,rfl,⟨by lia,by lia,by lia,by lia⟩,?_⟩;refine cN (Trn.range (lo:=p.1) (n:=(p.2 - p.1).toNat)) (fun i ys H'=>Same H H'∧Paired (CutIn H' p) ((bh p).take i) ys) ⟨Same.refl _,.nil⟩ (fun i ys H' hi z=>⟨trivial,aB (by have:=z.2.length;rw [← this,aaJ];lia)⟩) (fun i x ys H0 H' hi hx z Nx nx=>?_) (fun ys H' z p5 n5=>?_)
  · obtain ⟨rfl,rfl⟩:=hx;obtain ⟨S,hp⟩:=z;have t2:(2:Nat)≤sizeLine:=by decide
    refine ⟨_,rfl,_,rfl,t2,fun t ht=>?_⟩;have st:=Same.new ht (.tup [.int p.1,.int (p.1+(i:Int))]);refine ⟨_,rfl,_,_,rfl,rfl,_,rfl,t2,fun u hu=>⟨t2,fun v hv=>nx _ _ ?_⟩⟩;have su:=Same.new hu (.tup [.int (p.1+(i:Int)+1),.int p.2]);have sv:=Same.new hv (.tup [.ref t,.ref u]);have S3:=(st.trans su).trans sv;refine ⟨S.trans S3,?_⟩;have e:(bh p).take (i+1)=(bh p).take i++[p.1+(i:Int)]:=by
      rw [aaA];have : (bh p)[i]?=some (p.1+(i:Int)):=by
        unfold bh;rw [aap,aa1 hi];rfl
      rw [this];rfl
    rw [e];exact Paired.snoc (Paired.mapP hp fun _ _ h=>CutIn.mono (Tups.of S3) h) ⟨v,_,_,rfl,ad,⟨t,rfl,sv _ _ (su _ _ ad)⟩,⟨u,rfl,sv _ _ ad⟩⟩
  · obtain ⟨S,hp⟩:=z;rw [aaY (by simp [bh])] at hp;have s5:=Same.new n5 (.lst ys);exact q p5 ys _ (S.trans s5) (S.free n5) ad (Paired.mapP hp fun _ _ h=>CutIn.mono (Tups.of s5) h)
def fb:Sp:=fun vs H Q _=>∃ a g b,vs=[.int a,.str (Sg.str g),.int b]∧a.natAbs < 2 ^ 4000∧b.natAbs < 2 ^ 4000∧Q (.int (g.op a b)) H
abbrev dX:Stmt:=top 17
theorem jh:FnScope ["left","sign","right"] ["left","sign","right"] (ao dX):=⟨rfl,rfl,rfl,by decide +kernel,rfl,by decide +kernel,by decide +kernel⟩
theorem jE (F:Fun K "put_sign" "put_sign" dX f fd):FnOk P w K mg base CX0 1 f fd ["left","sign","right"] fb:=by
  refine F.ok jh (fun vs H Q E h=>?_) (fun cdv A outer s H vs Q E hr h=>?_)
  · obtain ⟨a,g,b,rfl,_⟩:=h;rfl
  obtain ⟨a,g,b,rfl,ha,hb,q⟩:=h;refine ⟨_,(@ag _ _ _ _ _ (@aW _ _ _ _ _ _ _ _ (@aG _ _ _ _ _ _ _ _ bj (pv 1) br (ay _)) (@af _ _ _ (@ax _ _ _ _ (@ap _ _ _ _ _ _ _ _ aX (pv 0) (pv 2)))) aF) (@ag _ _ _ _ _ (@aW _ _ _ _ _ _ _ _ (@aG _ _ _ _ _ _ _ _ bj (pv 1) br (ay _)) (@af _ _ _ (@ax _ _ _ _ (@ap _ _ _ _ _ _ _ _ cB (pv 0) (pv 2)))) aF) (@af _ _ _ (@ax _ _ _ _ (@ap _ _ _ _ _ _ _ _ eQ (pv 0) (pv 2)))))),?_⟩;cases g with
  | plus=>exact ⟨_,rfl,rfl,_,rfl,hU rfl ⟨_,rfl,_,rfl,_,_,rfl,rfl,q⟩⟩
  | minus=>exact ⟨_,rfl,rfl,_,rfl,fG (by decide +kernel) ⟨_,rfl,rfl,_,rfl,hU rfl ⟨_,rfl,_,rfl,_,_,rfl,rfl,q⟩⟩⟩
  | times=>exact ⟨_,rfl,rfl,_,rfl,fG (by decide +kernel) ⟨_,rfl,rfl,_,rfl,fG (by decide +kernel) ⟨_,rfl,_,rfl,_,_,rfl,rfl,⟨ha,hb⟩,q⟩⟩⟩
end
open PySem L2
mutual
def szX:PyData→Nat
  | .list ds=>szXs ds+1
  | .tuple ds=>szXs ds+1
  | .none=>1
  | .bool _=>1
  | .int _=>1
  | .str _=>1
  | .dict kvs=>szKv kvs+1
def szXs:List PyData→Nat
  | []=>0
  | d :: ds=>szX d+szXs ds
def szKv:List (PyData × PyData)→Nat
  | []=>0
  | (k,d) :: r=>szX k+szX d+szKv r
end
mutual
def OkX:PyData→Prop
  | .none=>True
  | .bool _=>True
  | .int i=>i.natAbs < 10 ^ 280
  | .str x=>(reprText x).length≤3000
  | .list ds=>OkXs ds
  | .tuple ds=>OkXs ds
  | .dict kvs=>OkKv kvs
def OkXs:List PyData→Prop
  | []=>True
  | d :: ds=>OkX d∧OkXs ds
def OkKv:List (PyData × PyData)→Prop
  | []=>True
  | (k,d) :: r=>OkX k∧OkX d∧OkKv r
end
mutual
theorem eR : ∀ d:PyData,OkX d→d.showable=true
  | .none,h=>by simp [abv]
  | .bool _,h=>by simp [abv]
  | .int i,h=>by
    simp only [OkX] at h;have z:(10:Nat) ^ 280 < 2 ^ 940:=by decide +kernel
    have : i.natAbs.log2 < 940:=by
      by_cases c:i.natAbs=0
      · rw [c];decide
      · exact (Nat.log2_lt c).mpr (acs h z)
    simp only [abv];exact decide_eq_true (by lia)
  | .str _,h=>by simp [abv]
  | .list ds,h=>by simp only [OkX] at h;simp only [abv];exact ok_showAll ds h
  | .tuple ds,h=>by simp only [OkX] at h;simp only [abv];exact ok_showAll ds h
  | .dict kvs,h=>by simp only [OkX] at h;simp only [abv];exact ok_showKv kvs h
theorem ok_showAll:∀ ds:List PyData,OkXs ds→PyData.showableAll ds=true
  | [],h=>by simp [PyData.showableAll]
  | d :: ds,h=>by
    simp only [OkXs] at h;simp only [PyData.showableAll,eR d h.1,ok_showAll ds h.2,Bool.and_self]
theorem ok_showKv:∀ kvs:List (PyData × PyData),OkKv kvs→PyData.showableKv kvs=true
  | [],h=>by simp [PyData.showableKv]
  | (k,d) :: r,h=>by
    simp only [OkKv] at h;simp only [PyData.showableKv,eR k h.1,eR d h.2.1,ok_showKv r h.2.2,Bool.and_self]
end
mutual
theorem iG:∀ d:PyData,OkX d→d.shown.length+5≤3010 * szX d
  | .none,h=>by show 4+5≤3010 * szX .none;simp [szX]
  | .bool b,h=>by cases b <;> (simp only [szX];decide)
  | .int i,h=>by
    simp only [OkX] at h;have e:=int_text_length_le10 (a:=i) (k:=280) (by decide) h;simp only [szX];show (abg (toString i)).length+5≤3010;rw [ofString_length];lia
  | .str x,h=>by
    simp only [OkX] at h;simp only [szX,PyData.shown];lia
  | .list ds,h=>by
    simp only [OkX] at h;have a:=ok_lenAll ds h;have b:=listText_len_le (acg ds);have c:=PyData.shownAll_length ds;simp only [szX,PyData.shown];lia
  | .tuple ds,h=>by
    simp only [OkX] at h;have a:=ok_lenAll ds h;have b:=tupleText_len_le (acg ds);have c:=PyData.shownAll_length ds;simp only [szX,PyData.shown];lia
  | .dict kvs,h=>by
    simp only [OkX] at h;have a:=ok_lenKv kvs h;have b:=dictText_len_le (PyData.shownKv kvs);have c:=PyData.shownKv_length kvs;simp only [szX,PyData.shown];lia
theorem ok_lenAll:∀ ds:List PyData,OkXs ds→((acg ds).map (·.length)).sum+5 * ds.length≤3010 * szXs ds
  | [],h=>by simp [acg,szXs]
  | d :: ds,h=>by
    simp only [OkXs] at h;have a:=iG d h.1;have b:=ok_lenAll ds h.2;simp only [acg,szXs,aad,List.sum_cons,aaN];lia
theorem ok_lenKv:∀ kvs:List (PyData × PyData),OkKv kvs→((PyData.shownKv kvs).map (·.length)).sum+5 * kvs.length≤3010 * szKv kvs
  | [],h=>by simp [PyData.shownKv,szKv]
  | (k,d) :: r,h=>by
    simp only [OkKv] at h;have a:=iG k h.1;have b:=iG d h.2.1;have c:=ok_lenKv r h.2.2;have e2:(k.shown ++ ": " ++ d.shown).length=k.shown.length+2+d.shown.length:=by
      rw [strLen_append,strLen_append];rfl
    simp only [PyData.shownKv,szKv,aad,List.sum_cons,aaN];lia
end
theorem mf {d:PyData} (h:OkX d) (hs:szX d≤5000):d.shown.length≤sizeLine:=by
  have:=iG d h;exact aaG (show _≤15050000 by lia) (by rw [sizeLine_eq];decide)
def a8:PyData→Bool
  | .int _=>true
  | _=>false
theorem jY (d:PyData):decide (nT d = "int")=a8 d:=by cases d <;> rfl
def aT:PyData→Bool
  | .tuple [a,b]=>a8 a && a8 b
  | _=>false
theorem tj {H:Hp} {ds:List PyData} {xs:List V} (h:DatAll H ds xs) (h2:xs.length=2):∃ l r y z,ds=[l,r]∧xs=[y,z]∧Dat H l y∧Dat H r z:=by
  have hl:=h.len;cases ds with
  | nil=>simp at hl;lia
  | cons l ds=>cases ds with
    | nil=>simp at hl;lia
    | cons r ds=>cases ds with
      | cons _ _=>simp at hl;lia
      | nil =>
        simp only [DatAll] at h;obtain ⟨y,_,rfl,h1,z,_,rfl,h2',rfl⟩:=h;exact ⟨l,r,y,z,rfl,rfl,h1,h2'⟩
theorem pZ {dd:PyData} (c1:aT dd=true):∃ i j,dd=.tuple [.int i,.int j]:=by
  cases dd with
  | tuple l =>
    match l with
    | [a,b] =>
      cases a <;> cases b <;> first|exact ⟨_,_,rfl⟩|simp [aT,a8] at c1
    | []=>simp [aT] at c1
    | [_]=>simp [aT] at c1
    | _ :: _ :: _ :: _=>simp [aT] at c1
  | _=>simp [aT] at c1
def prD:PyData→Option (Int × Int)
  | .tuple [.int a,.int b]=>some (a,b)
  | _=>none
theorem oj (d:PyData):aT d=(prD d).isSome:=by
  cases c:aT d with
  | true=>obtain ⟨i,j,rfl⟩:=pZ c;rfl
  | false =>
    cases e:prD d with
    | none=>rfl
    | some q =>
      unfold prD at e;split at e
      · exact absurd c (by simp [aT,a8])
      · cases e
theorem jw {d:PyData} {q:Int × Int} (h:prD d=some q):d=.tuple [.int q.1,.int q.2]:=by
  unfold prD at h;split at h
  · cases h;rfl
  · cases h
theorem qT {d:PyData} {q:Int × Int} {H:Hp} {v:V} (h:prD d=some q) (hd:Dat H d v):PairIn H q v:=by
  rw [jw h] at hd;simp only [Dat,DatAll] at hd;obtain ⟨a,xs,rfl,ha,_,_,rfl,rfl,_,_,rfl,rfl,rfl⟩:=hd;exact ⟨a,rfl,ha⟩
section
variable {P:Program} {w:World} {K:aaa} {mg:Str→Option Value} {base:Heap} {f:Addr} {fd:FuncData}
def fg:Sp:=fun vs H Q _=>∃ d v,vs=[v]∧Dat H d v∧Q (.bl (aT d)) H
abbrev fj:Stmt:=top 15
theorem kD:FnScope ["thing"] ["thing"] (ao fj):=⟨rfl,rfl,rfl,by decide +kernel,rfl,by decide +kernel,by decide +kernel⟩
theorem kP (F:Fun K "is_pair" "is_pair" fj f fd) (B:Bu K mg) (C_is_whole:Cal P w K mg base "is_whole" 1 ["thing"] (fN K)):FnOk P w K mg base CX0 2 f fd ["thing"] fg:=by
  refine F.ok kD (fun vs H Q E h=>?_) (fun cdv A outer s H vs Q E hr h=>?_)
  · obtain ⟨p,v,rfl,_⟩:=h;rfl
  obtain ⟨d,v,rfl,hd,q⟩:=h;refine ⟨_,(@af _ _ _ (@ax _ _ _ _ (@bZ _ _ _ _ _ _ _ (@ah _ _ _ _ _ _ _ _ _ (@aA _ ("tuple")) rfl B.iisinstance aag (@aa _ _ _ _ _ (pv 0) (@aa _ _ _ _ _ (@aH _ _ (.ty "tuple") _ _ rfl B.ituple abr rfl (by decide) (by decide)) ac (by rfl)) (by rfl)) (by decide) (by decide) (by rfl) (by rfl)) (@bZ _ _ _ _ _ _ _ (@aQ _ _ _ _ _ _ _ _ bj (@ah _ _ _ _ _ _ _ _ _ aD rfl B.ilen aaL (@aa _ _ _ _ _ (pv 0) ac (by rfl)) (by decide) (by decide) (by rfl) (by rfl)) ae (ay _)) (@bZ _ _ _ _ _ _ _ (@aq _ _ _ _ _ _ _ _ _ _ _ C_is_whole hr (by lia) rfl (@aa _ _ _ _ _ (@bi _ _ _ _ _ _ _ ix_tup (pv 0) ae (fun _ _=>rfl)) ac (by rfl)) (by decide) (by rfl) (by rfl)) (@c_ _ _ _ _ _ (@aq _ _ _ _ _ _ _ _ _ _ _ C_is_whole hr (by lia) rfl (@aa _ _ _ _ _ (@bi _ _ _ _ _ _ _ ix_tup (pv 0) ae (fun _ _=>rfl)) ac (by rfl)) (by decide) (by rfl) (by rfl)))))))),?_⟩;cases d with
  | tuple ds =>
    have ty:=hd.ty (K:=K);simp only [Dat] at hd;obtain ⟨a,xs,rfl,ha,hxs⟩:=hd;refine ⟨_,rfl,_,_,true,rfl,ty,rfl,true,rfl,a4 ⟨_,rfl,a,_,rfl,.inr (SqT.of ha),rfl,decide (V.int (xs.length:Nat)=V.int 2),rfl,?_⟩⟩;have lx:=hxs.len;by_cases c:xs.length=2
    · obtain ⟨l,r,y,z,rfl,rfl,h1,h2⟩:=tj hxs c;refine hU rfl ⟨_,rfl,a,_,_,_,rfl,rfl,SqT.of ha,rfl,_,_,rfl,h1.ty,_,rfl,?_⟩;have e:aT (.tuple [l,r])=(a8 l && a8 r):=rfl;rw [jY];rw [e] at q;cases c1:a8 l with
      | true =>
        rw [c1,acx] at q;refine a4 ⟨_,rfl,a,_,_,_,rfl,rfl,SqT.of ha,rfl,_,_,rfl,h2.ty,?_⟩;rw [jY];exact q
      | false =>
        rw [c1,ab3] at q;exact aR q
    · refine fG (fun e=>c (by injection e with e;lia)) ?_;have e:aT (.tuple ds)=false:=by
        match ds,lx with
        | [],_=>rfl
        | [_],_=>rfl
        | [_,_],lx=>exact absurd lx.symm (by intro z;exact c z)
        | _ :: _ :: _ :: _,_=>rfl
      rw [e] at q;exact q
  | none=>exact ⟨_,rfl,_,_,false,rfl,hd.ty,rfl,false,rfl,aR q⟩
  | bool b=>exact ⟨_,rfl,_,_,false,rfl,hd.ty,rfl,false,rfl,aR q⟩
  | int i=>exact ⟨_,rfl,_,_,false,rfl,hd.ty,rfl,false,rfl,aR q⟩
  | str i=>exact ⟨_,rfl,_,_,false,rfl,hd.ty,rfl,false,rfl,aR q⟩
  | list ds=>exact ⟨_,rfl,_,_,false,rfl,hd.ty,rfl,false,rfl,aR q⟩
  | dict ds=>exact ⟨_,rfl,_,_,false,rfl,hd.ty,rfl,false,rfl,aR q⟩
def fe:Sp:=fun vs H Q _=>∃ d v,vs=[v]∧Dat H d v∧∀ H',Same H H'→Q (.bl (aT d)) H'
abbrev cw:Stmt:=top 31
theorem fH:FnScope ["thing"] ["thing"] (ao cw):=⟨rfl,rfl,rfl,by decide +kernel,rfl,by decide +kernel,by decide +kernel⟩
theorem jH (F:Fun K "_law_is_pair" "_law_is_pair" cw f fd) (B:Bu K mg):FnOk P w K mg base CX0 1 f fd ["thing"] fe:=by
  refine F.ok fH (fun vs H Q E h=>?_) (fun cdv A outer s H vs Q E hr h=>?_)
  · obtain ⟨p,v,rfl,_⟩:=h;rfl
  obtain ⟨d,v,rfl,hd,q⟩:=h;refine ⟨_,(@ag _ _ _ _ _ (@aW _ _ _ _ _ _ _ _ (@PW.pt _ _ _ (@dR _ _ _ _ _ _ _ (@bq _ _ _ _ (@bc _ _ _ (@ah _ _ _ _ _ _ _ _ _ (@aA _ ("tuple")) rfl B.iisinstance aag (@aa _ _ _ _ _ (pv 0) (@aa _ _ _ _ _ (@aH _ _ (.ty "tuple") _ _ rfl B.ituple abr rfl (by decide) (by decide)) ac (by rfl)) (by rfl)) (by decide) (by decide) (by rfl) (by rfl)) (by intro _;rfl))) (@cL _ _ _ _ (@aG _ _ _ _ _ _ _ _ g0 (@ah _ _ _ _ _ _ _ _ _ aD rfl B.ilen aaL (@aa _ _ _ _ _ (pv 0) ac (by rfl)) (by decide) (by decide) (by rfl) (by rfl)) ae (ay _))))) (@af _ _ _ (@ax _ _ _ _ dg)) aF) (@af _ _ _ (@ax _ _ _ _ (@aQ _ _ _ _ _ _ _ _ (@kN _ hr.units) (@cF _ _ _ _ _ _ _ _ (["one"]) ([none]) _ _ _ _ rfl (@cZ _ _ _ _ (pv 0)) rfl trivial trivial (fun _ _ _ _=>⟨(@am _ _ (0) _ (show aaZ (["one"]:List Str) by decide +kernel) rfl (Or.inl rfl) (.inr rfl)),(@eM _ _ _ (@PW.pt _ _ _ (@dR _ _ _ _ _ _ _ (@bq _ _ _ _ (@bc _ _ _ (@ah _ _ _ _ _ _ _ _ _ (@eZ _ _ ("int") rfl) rfl B.iisinstance aag (@aa _ _ _ _ _ (pv 0) (@aa _ _ _ _ _ (@aH _ _ (.ty "int") _ _ rfl B.iint aaS rfl (by decide) (by decide)) ac (by rfl)) (by rfl)) (by decide) (by decide) (by rfl) (by rfl)) (by intro _;rfl))) (@cL _ _ _ _ (@bc _ _ _ (@ah _ _ _ _ _ _ _ _ _ (@eZ _ _ ("bool") rfl) rfl B.iisinstance aag (@aa _ _ _ _ _ (pv 0) (@aa _ _ _ _ _ (@aH _ _ (.ty "bool") _ _ rfl B.ibool abw rfl (by decide) (by decide)) ac (by rfl)) (by rfl)) (by decide) (by decide) (by rfl) (by rfl)) (by intro _;rfl)))))),(pv 0)⟩) (by rfl) (by rfl) (by rfl) (by rfl) (by intro _;rfl)) (@aN _ _ _ _ ac) (ay _))))),?_⟩;have r0:=q H (Same.refl _);cases d with
  | tuple ds =>
    have ty:=hd.ty (K:=K);simp only [Dat] at hd;obtain ⟨a,xs,rfl,ha,hxs⟩:=hd;refine ⟨_,rfl,_,_,true,rfl,ty,rfl,true,rfl,aR ⟨_,rfl,a,_,rfl,.inr (SqT.of ha),rfl,_,rfl,?_⟩⟩;have lx:=hxs.len;by_cases c:xs.length=2
    · obtain ⟨l,r,y,z,rfl,rfl,h1,h2⟩:=tj hxs c;refine oR rfl ?_;refine ⟨_,rfl,a,rfl,⟨_,SqT.of ha⟩,?_⟩;have e0:aT (.tuple [l,r])=([l,r].all a8):=by
        show (a8 l && a8 r)=(a8 l && (a8 r && true));rw [Bool.and_true]
      have hel:∀ (i:Nat) (x:V),[y,z][i]?=some x→∃ d,[l,r][i]?=some d∧Dat H d x:=fun i x hx=>by
        match i,hx with
        | 0,hx=>cases hx;exact ⟨l,rfl,h1⟩
        | 1,hx=>cases hx;exact ⟨r,rfl,h2⟩
        | _+2,hx=>cases hx
      refine cN (Trn.tup (xs:=[y,z])) (fun i ys H'=>H'=H∧ys.length≤i∧(ys.length=0↔([l,r].take i).all a8=true)) ⟨rfl,aaQ _,by simp⟩ (fun i ys H' hi p=>⟨by rw [p.1];exact SqT.of ha,aa6 (aaG p.2.1 hi) (show 2 < sizeLine by rw [sizeLine_eq];decide)⟩) (fun i x ys H0 H' hi hx p Nx nx=>?_) (fun ys H' p p5 n5=>?_)
      · obtain ⟨eH,l0,z0⟩:=p;obtain ⟨eH',hx⟩:=hx
        replace eH':=(eH'.trans eH).symm
        subst eH';clear eH;obtain ⟨d,hd,hdx⟩:=hel i x hx;have et:([l,r].take (i+1)).all a8=(([l,r].take i).all a8 && a8 d):=by
          rw [aaA,hd,List.all_append];show (_ && (a8 d && true))=_;rw [Bool.and_true]
        have yes:a8 d=true→Nx ys H:=fun c1=>nx _ _ ⟨rfl,by lia,by rw [et,c1,Bool.and_true];exact z0⟩;have no:∀ v,a8 d=false→Nx (ys++[v]) H:=fun v c1=>nx _ _ ⟨rfl,by rw [aav];exact Nat.succ_le_succ l0,by rw [et,c1,aco,aav];simp⟩;cases d with
        | int k=>exact ⟨_,rfl,_,_,true,rfl,hdx.ty,rfl,true,rfl,aR ⟨_,rfl,_,_,false,rfl,hdx.ty,rfl,false,rfl,aR (yes rfl)⟩⟩
        | bool k=>exact ⟨_,rfl,_,_,true,rfl,hdx.ty,rfl,true,rfl,aR ⟨_,rfl,_,_,true,rfl,hdx.ty,rfl,true,rfl,a4 ⟨_,rfl,no _ rfl⟩⟩⟩
        | none=>exact ⟨_,rfl,_,_,false,rfl,hdx.ty,rfl,false,rfl,a4 (a4 ⟨_,rfl,no _ rfl⟩)⟩
        | str k=>exact ⟨_,rfl,_,_,false,rfl,hdx.ty,rfl,false,rfl,a4 (a4 ⟨_,rfl,no _ rfl⟩)⟩
        | list k=>exact ⟨_,rfl,_,_,false,rfl,hdx.ty,rfl,false,rfl,a4 (a4 ⟨_,rfl,no _ rfl⟩)⟩
        | tuple k=>exact ⟨_,rfl,_,_,false,rfl,hdx.ty,rfl,false,rfl,a4 (a4 ⟨_,rfl,no _ rfl⟩)⟩
        | dict k=>exact ⟨_,rfl,_,_,false,rfl,hdx.ty,rfl,false,rfl,a4 (a4 ⟨_,rfl,no _ rfl⟩)⟩
      · obtain ⟨rfl,l0,z0⟩:=p;have z0:ys.length=0↔[l,r].all a8=true:=z0;have s6:=Same.new n5 (.lst ys);refine ⟨aaQ _,fun p6 n6=>⟨0,p5,p6,ys,[],by decide,rfl,rfl,SqL.of ((Same.new n6 _) _ _ ad),SqL.of ad,?_⟩⟩;have S6:=s6.trans (Same.new n6 (.lst []));have qq:=q _ S6;rw [e0] at qq;cases c1:[l,r].all a8 with
        | true =>
          rw [c1] at qq;have h0:=abb.mp (z0.mpr c1);subst h0;exact .inr ⟨fun _=>true,rfl,(fun j x y h=>by simp at h),qq⟩
        | false =>
          rw [c1] at qq;exact .inl ⟨(fun e=>by rw [z0.mp e] at c1;cases c1),qq⟩
    · have e:aT (.tuple ds)=false:=by
        match ds,lx with
        | [],_=>rfl
        | [_],_=>rfl
        | [_,_],lx=>exact absurd lx.symm (by intro z;exact c z)
        | _ :: _ :: _ :: _,_=>rfl
      rw [e] at r0;rw [decide_eq_false (fun e=>c (by injection e with e;lia))];exact a4 r0
  | none=>exact ⟨_,rfl,_,_,false,rfl,hd.ty,rfl,false,rfl,a4 r0⟩
  | bool b=>exact ⟨_,rfl,_,_,false,rfl,hd.ty,rfl,false,rfl,a4 r0⟩
  | int i=>exact ⟨_,rfl,_,_,false,rfl,hd.ty,rfl,false,rfl,a4 r0⟩
  | str i=>exact ⟨_,rfl,_,_,false,rfl,hd.ty,rfl,false,rfl,a4 r0⟩
  | list ds=>exact ⟨_,rfl,_,_,false,rfl,hd.ty,rfl,false,rfl,a4 r0⟩
  | dict ds=>exact ⟨_,rfl,_,_,false,rfl,hd.ty,rfl,false,rfl,a4 r0⟩
end
open PySem L2
theorem a_ {α β:Type} {l:List α} {f:α→List β} {i:Nat} {x:α} (h:l[i]?=some x):(l.take (i+1)).flatMap f=(l.take i).flatMap f++f x:=by
  rw [aaA,h,ab6];simp
theorem fS {q:Int × Int} {c:Int} (h:c∈bh q):q.1≤c∧c < q.2:=by
  unfold bh at h;obtain ⟨k,hk,rfl⟩:=aal.mp h;have:=aaH.mp hk;lia
theorem gb (n:Nat):∀ p∈sfl n n,0≤p.1∧p.1≤p.2∧p.2 < n:=fun p hp=>by
  unfold sfl sfR at hp;rw [acw] at hp;obtain ⟨m,hm,hp⟩:=hp;rw [List.mem_map] at hp;obtain ⟨f,hf,rfl⟩:=hp;rw [List.mem_range] at hf;simp only;lia
theorem mU:∀ n,n≤9→(sfl n n).Nodup:=by decide +kernel
theorem kA {n:Nat} {q:Int × Int} (h0:0≤q.1) (h1:q.1≤q.2) (h2:q.2 < n):q∈sfl n n:=by
  have:=lU n q.1.toNat q.2.toNat (by lia) (by lia)
  rwa [show ((q.1.toNat:Nat):Int)=q.1 by lia,show ((q.2.toNat:Nat):Int)=q.2 by lia] at this
def two (p:Int × Int):List Int:=[p.1,p.2]
def eV (E:Int × Int→Int × Int) (gs:List Sg) (q:Int × Int):List Int:=(bh q).flatMap fun c=>(two (E (q.1,c))).flatMap fun a=>(two (E (c+1,q.2))).flatMap fun b=>gs.map fun g=>g.op a b
theorem mem_corn {E:Int × Int→Int × Int} {gs:List Sg} {q:Int × Int} {v:Int}:v∈eV E gs q↔∃ c∈bh q,∃ g∈gs,∃ a b,(a=(E (q.1,c)).1∨a=(E (q.1,c)).2)∧(b=(E (c+1,q.2)).1∨b=(E (c+1,q.2)).2)∧g.op a b=v:=by
  unfold eV two;simp only [acw,List.mem_map,aai,aa5,or_false];constructor
  · rintro ⟨c,hc,a,ha,b,hb,g,hg,e⟩;exact ⟨c,hc,g,hg,a,b,ha,hb,e⟩
  · rintro ⟨c,hc,g,hg,a,b,ha,hb,e⟩;exact ⟨c,hc,a,ha,b,hb,g,hg,e⟩
def jeX (E:Int × Int→Int × Int) (q:Int × Int) (c:Int) (g:Sg) (x:Int):List Int:=(two (E (c+1,q.2))).map fun y=>g.op x y
def jeG (E:Int × Int→Int × Int) (q:Int × Int) (c:Int) (g:Sg):List Int:=(two (E (q.1,c))).flatMap (jeX E q c g)
def jeC (E:Int × Int→Int × Int) (gs:List Sg) (q:Int × Int) (c:Int):List Int:=gs.flatMap (jeG E q c)
def jeL (E:Int × Int→Int × Int) (gs:List Sg) (q:Int × Int):List Int:=(bh q).flatMap (jeC E gs q)
theorem mem_je {E:Int × Int→Int × Int} {gs:List Sg} {q:Int × Int} {v:Int}:v∈jeL E gs q↔v∈eV E gs q:=by
  rw [mem_corn];unfold jeL jeC jeG jeX two;simp only [acw,List.mem_map,aai,aa5,or_false];constructor
  · rintro ⟨c,hc,g,hg,a,ha,b,hb,e⟩;exact ⟨c,hc,g,hg,a,b,ha,hb,e⟩
  · rintro ⟨c,hc,g,hg,a,b,ha,hb,e⟩;exact ⟨c,hc,g,hg,a,ha,b,hb,e⟩
def wiL (E:Int × Int→Int × Int) (ns:List Int) (gs:List Sg) (q:Int × Int):List Int:=if q.1=q.2 then [ns.getD q.1.toNat 0] else jeL E gs q
abbrev PPa:=List (MK × PyData)
def lkP (ps:PPa) (q:Int × Int):Option PyData:=(ps.find? fun p=>decide (p.1=.tup [q.1,q.2])).map (·.2)
def PaIn (w:World) (H:Hp) (a:Addr) (ps:PPa):Prop:=∃ es,Pd w H a es∧Paired (fun (p:MK × PyData) (e:MK × V)=>p.1=e.1∧Dat H p.2 e.2) ps es
theorem PaIn.mono {w:World} {H H':Hp} {a:Addr} {ps:PPa} (g:Same H H') (h:PaIn w H a ps):PaIn w H' a ps:=by
  obtain ⟨es,h1,h2⟩:=h;exact ⟨es,h1.mono g,Paired.mapP h2 fun _ _ z=>⟨z.1,Dat.mono g _ _ z.2⟩⟩
theorem kM {H:Hp} {ps:PPa} {es:List (MK × V)} (h:Paired (fun (p:MK × PyData) (e:MK × V)=>p.1=e.1∧Dat H p.2 e.2) ps es) (q:Int × Int) :
    (lkP ps q=none∧bn es (.tup [q.1,q.2])=none)∨∃ d v,lkP ps q=some d∧bn es (.tup [q.1,q.2])=some v∧Dat H d v:=by
  induction h with
  | nil=>exact .inl ⟨rfl,rfl⟩
  | @cons p e ps es h t ih =>
    by_cases c:p.1=.tup [q.1,q.2]
    · right;exact ⟨p.2,e.2,by simp [lkP,aa0,c],cq (h.1.symm.trans c),h.2⟩
    · have e1:lkP (p :: ps) q=lkP ps q:=by simp [lkP,aa0,c]
      rw [e1,cr (fun z=>c (h.1.trans z))];exact ih
def ThIn (w:World) (K:aaa) (H:Hp) (t:Option PPa) (v:V):Prop:=match t with
  | some ps=>∃ a,v=.ref a∧PaIn w H a ps
  | none=>∃ n,TyOf K H v (.type n)∧abM K (.type n) (.type "dict")=some false
theorem TyOf.same {K:aaa} {H H':Hp} {v:V} {t:Value} (g:Same H H') (h:TyOf K H v t):TyOf K H' v t:=by
  cases h with
  | non=>exact .non
  | bl x=>exact .bl x
  | int i=>exact .int i
  | str x=>exact .str x
  | flt x=>exact .flt x
  | lst e=>exact .lst (g _ _ e)
  | frz e=>exact .frz (g _ _ e)
  | tup e=>exact .tup (g _ _ e)
  | dK e=>exact .dK (g _ _ e)
  | dT e=>exact .dT (g _ _ e)
  | ins e a b c d f=>exact .ins (g _ _ e) a b c d f
theorem ThIn.mono {w:World} {K:aaa} {H H':Hp} {t:Option PPa} {v:V} (g:Same H H') (h:ThIn w K H t v):ThIn w K H' t v:=by
  cases t with
  | some ps=>obtain ⟨a,e,h⟩:=h;exact ⟨a,e,h.mono g⟩
  | none=>obtain ⟨n,h1,h2⟩:=h;exact ⟨n,TyOf.same g h1,h2⟩
def fL (n:Nat):Option PPa→Bool
  | none=>false
  | some ps=>decide (ps.length=(sfl n n).length) && (sfl n n).all fun q=>(lkP ps q).isSome
theorem bO (n:Nat) (ps:PPa):fL n (some ps)=(decide (ps.length=(sfl n n).length) && (sfl n n).all fun q=>(lkP ps q).isSome):=rfl
theorem gH {α:Type} {l:List α} {f:α→Bool} {i:Nat} {x:α} (h:l[i]?=some x):(l.take (i+1)).map f=(l.take i).map f++[f x]:=by
  rw [aaA,h,aaM];rfl
section
variable {P:Program} {w:World} {K:aaa} {mg:Str→Option Value} {base:Heap} {f:Addr} {fd:FuncData}
def fZ (w:World) (K:aaa):Sp:=fun vs H Q _=>∃ (t:Option PPa) (v:V) (n:Nat),vs=[v,.int n]∧n≤9∧ThIn w K H t v∧∀ H',Same H H'→Q (.bl (fL n t)) H'
abbrev bA:Stmt:=top 13
theorem bU:FnScope ["thing","many","stretches"] ["thing","many"] (ao bA):=⟨rfl,rfl,rfl,by decide +kernel,rfl,by decide +kernel,by decide +kernel⟩
theorem dB (F:Fun K "has_all_stretches" "has_all_stretches" bA f fd) (B:Bu K mg) (C_shorter_first:Cal P w K mg base "shorter_first" 1 ["many"] pN):FnOk P w K mg base CX0 2 f fd ["thing","many"] (fZ w K):=by
  refine F.ok bU (fun vs H Q E h=>?_) (fun cdv A outer s H vs Q E hr h=>?_)
  · obtain ⟨t,v,n,rfl,_⟩:=h;rfl
  obtain ⟨t,v,n,rfl,h9,ht,q⟩:=h;refine ⟨_,(@ag _ _ _ _ _ (@aE _ _ (2) _ _ _ _ (bU).nd rfl (Or.inl rfl) (@aq _ _ _ _ _ _ _ _ _ _ _ C_shorter_first hr (by lia) rfl (@aa _ _ _ _ _ (pv 1) ac (by rfl)) (by decide) (by rfl) (by rfl)) (by rfl) (by first|exact .inl rfl|exact .inr rfl|assumption)) (@ag _ _ _ _ _ (@aW _ _ _ _ _ _ _ _ (@PW.pt _ _ _ (@dR _ _ _ _ _ _ _ (@bq _ _ _ _ (@bc _ _ _ (@ah _ _ _ _ _ _ _ _ _ (@eY _ ("dict") (w) _ rfl rfl) rfl B.iisinstance aag (@aa _ _ _ _ _ (pv 0) (@aa _ _ _ _ _ (@aH _ _ (.ty "dict") _ _ rfl B.idict abi rfl (by decide) (by decide)) ac (by rfl)) (by rfl)) (by decide) (by decide) (by rfl) (by rfl)) (by intro _;rfl))) (@cL _ _ _ _ (@aG _ _ _ _ _ _ _ _ g0 (@ah _ _ _ _ _ _ _ _ _ (@h_ _ (w) rfl) rfl B.ilen aaL (@aa _ _ _ _ _ (pv 0) ac (by rfl)) (by decide) (by decide) (by rfl) (by rfl)) (@ah _ _ _ _ _ _ _ _ _ aD rfl B.ilen aaL (@aa _ _ _ _ _ (pv 2) ac (by rfl)) (by decide) (by decide) (by rfl) (by rfl)) (ay _))))) (@af _ _ _ (@ax _ _ _ _ dg)) aF) (@af _ _ _ (@ax _ _ _ _ (@ah _ _ _ _ _ _ _ _ _ (@e8 _ rfl) rfl B.iall abW (@aa _ _ _ _ _ (@cF _ _ _ _ _ _ _ _ (["stretch","thing"]) ([none,some 0]) _ _ _ _ rfl (@eO _ _ _ _ (pv 2)) rfl ⟨rfl,trivial⟩ ⟨⟨rfl,Or.inl rfl,Or.inl rfl⟩,trivial⟩ (fun _ _ _ _=>⟨(@am _ _ (0) _ (show aaZ (["stretch","thing"]:List Str) by decide +kernel) rfl (Or.inl rfl) (.inr rfl)),aY,(@qV _ _ _ _ _ _ (w) rfl (u1 hr.units) (pv 0) (pv 1) (by with_unfolding_all rfl))⟩) (by rfl) (by rfl) (by rfl) (by rfl) (by intro _;rfl)) ac (by rfl)) (by decide) (by decide) (by rfl) (by rfl)))))),?_⟩;refine ⟨_,rfl,n,rfl,h9,fun p us H1 s1 np ep hp=>?_⟩;have ht1:=ht.mono s1;have q1:∀ H',Same H1 H'→Q (.bl (fL n t)) H':=fun H' g=>q H' (s1.trans g);clear q;cases t with
  | none =>
    obtain ⟨nm,ty,hk⟩:=ht1;exact ⟨_,rfl,_,_,false,rfl,.inl ty,hk,false,rfl,a4 (q1 _ (Same.refl _))⟩
  | some ps =>
    obtain ⟨a,rfl,es,pd,hes⟩:=ht1;refine ⟨_,rfl,_,_,true,rfl,.inr ⟨a,es,rfl,pd,rfl⟩,rfl,true,rfl,aR ⟨_,rfl,a,es,rfl,pd,_,rfl,p,us,rfl,.inl (SqL.of ep),rfl,_,rfl,?_⟩⟩;have le:es.length=ps.length:=(aar hes).symm;have lu:us.length=(sfl n n).length:=hp.length.symm;by_cases c:ps.length=(sfl n n).length
    · refine oR (by rw [le,lu,c]) ?_;refine ⟨_,rfl,p,rfl,⟨_,SqL.of ep⟩,?_⟩;have l81:=iw n n;have l81':n * n≤9 * 9:=acq h9 h9;refine cN (Trn.list (xs:=us)) (fun i ys H'=>H'=H1∧ys=(((sfl n n).take i).map fun q=>(lkP ps q).isSome).map V.bl) ⟨rfl,rfl⟩ (fun i ys H' hi z=>⟨by rw [z.1];exact SqL.of ep,by rw [z.2,aab,aab,aaJ];exact aB (by lia)⟩) (fun i x ys H0 H' hi hx z Nx nx=>?_) (fun ys H' z p5 n5=>?_)
      · obtain ⟨rfl,rfl⟩:=z;obtain ⟨rfl,hx⟩:=hx;obtain ⟨q1',hq1,hpx⟩:=jD hp hx;obtain ⟨b,rfl,eb⟩:=PairIn.key hpx;have eo:(bn es (.tup [q1'.1,q1'.2])).isSome=(lkP ps q1').isSome:=by
          rcases kM hes q1' with ⟨e1,e2⟩|⟨d,v,e1,e2,_⟩
          · rw [e1,e2];rfl
          · rw [e1,e2];rfl
        refine ⟨_,rfl,_,rfl,a,_,rfl,⟨es,_,pd,MkIn.pair eb,rfl⟩,nx _ _ ⟨rfl,?_⟩⟩;rw [eo,gH hq1,aaM];rfl
      · obtain ⟨rfl,rfl⟩:=z;refine ⟨p5,_,rfl,SqL.of ad,?_⟩;have e:((((sfl n n).take us.length).map fun q=>(lkP ps q).isSome).all id)=fL n (some ps):=by
          rw [lu,abf,List.all_map];rw [bO,decide_eq_true c,acx];rfl
        rw [e];exact q1 _ (Same.new n5 _)
    · have e:fL n (some ps)=false:=by rw [bO,decide_eq_false c,ab3]
      rw [e] at q1;rw [decide_eq_false (fun z=>c (by have:=V.int.inj z;lia))];exact a4 (q1 _ (Same.refl _))
def GtE (E:Int × Int→Int × Int) (w:World) (H:Hp) (a:Addr) (n:Nat):Prop:=∃ es,Pd w H a es∧∀ q:Int × Int,0≤q.1→q.1≤q.2→q.2 < n→∃ t,bn es (.tup [q.1,q.2])=some (.ref t)∧H t=some (.tup [.int (E q).1,.int (E q).2])
theorem GtE.mono {E:Int × Int→Int × Int} {w:World} {H H':Hp} {a:Addr} {n:Nat} (g:Same H H') (h:GtE E w H a n):GtE E w H' a n:=by
  obtain ⟨es,h1,h2⟩:=h;exact ⟨es,h1.mono g,fun q a b c=>by obtain ⟨t,e1,e2⟩:=h2 q a b c;exact ⟨t,e1,g _ _ e2⟩⟩
def qP (w:World):Sp:=fun vs H Q _=>∃ (d:Addr) (E:Int × Int→Int × Int) (n:Nat) (gs:List Sg) (q:Int × Int) (v:V),vs=[.ref d,.str (ar gs),v]∧PairIn H q v∧0≤q.1∧q.1≤q.2∧q.2 < n∧n≤9∧gs.length≤3∧GtE E w H d n ∧
  (∀ q:Int × Int,0≤q.1→q.1≤q.2→q.2 < n→(E q).1.natAbs < 2 ^ 4000∧(E q).2.natAbs < 2 ^ 4000) ∧
  ∀ p H',Same H H'→H p=none→H' p=some (.lst ((jeL E gs q).map V.int))→Q (.ref p) H'
abbrev dk:Stmt:=top 21
theorem iy:FnScope ["paper","signs","stretch"] ["paper","signs","stretch"] (ao dk):=⟨rfl,rfl,rfl,by decide +kernel,rfl,by decide +kernel,by decide +kernel⟩
theorem iM (F:Fun K "join_ends" "join_ends" dk f fd) (C_cuts_of:Cal P w K mg base "cuts_of" 1 ["stretch"] kx) (C_put_sign:Cal P w K mg base "put_sign" 1 ["left","sign","right"] fb):FnOk P w K mg base CX0 2 f fd ["paper","signs","stretch"] (qP w):=by
  refine F.ok iy (fun vs H Q E h=>?_) (fun cdv A outer s H vs Q E hr h=>?_)
  · obtain ⟨d,E0,n,gs,q,v,rfl,_⟩:=h;rfl
  obtain ⟨d,En0,n,gs,q,v,rfl,hv,q0,q1,q2,n9,g3,⟨es0,pd0,hG⟩,hB,qq⟩:=h;refine ⟨_,(@af _ _ _ (@ax _ _ _ _ (@qW _ _ _ _ _ _ _ _ _ _ _ _ _ _ _ _ _ (["before","behind","sign","left","right","signs","paper"]) ([none,none,none,none,none,some 1,some 0]) _ _ _ _ _ _ _ _ _ _ _ _ _ rfl (@eO _ _ _ _ (@aq _ _ _ _ _ _ _ _ _ _ _ C_cuts_of hr (by lia) rfl (@aa _ _ _ _ _ (pv 2) ac (by rfl)) (by decide) (by rfl) (by rfl))) rfl ⟨rfl,⟨rfl,trivial⟩⟩ ⟨⟨rfl,Or.inl rfl,Or.inl rfl⟩,⟨⟨rfl,Or.inl rfl,Or.inl rfl⟩,trivial⟩⟩ (fun _ _ _ _=>⟨(@pW _ _ _ _ _ _ (2) rfl rfl (@aZ _ _ _ _ _ (@am _ _ (0) _ (show aaZ (["before","behind","sign","left","right","signs","paper"]:List Str) by decide +kernel) rfl (Or.inl rfl) (.inr rfl)) (@aZ _ _ _ _ _ (@am _ _ (1) _ (show aaZ (["before","behind","sign","left","right","signs","paper"]:List Str) by decide +kernel) rfl (Or.inl rfl) (.inr rfl)) cE (by rfl)) (by rfl)) (by rfl) (by rfl)),aY,(@iB _ _ _ _ (pv 5)),(@am _ _ (2) _ (show aaZ (["before","behind","sign","left","right","signs","paper"]:List Str) by decide +kernel) rfl (Or.inl rfl) (.inr rfl)),aY,(@l_ _ _ _ _ _ rfl (@bC _ _ _ _ _ _ (w) rfl (u1 hr.units) (pv 6) (pv 0) (fun _ _=>rfl))),(@am _ _ (3) _ (show aaZ (["before","behind","sign","left","right","signs","paper"]:List Str) by decide +kernel) rfl (Or.inl rfl) (.inr rfl)),aY,(@l_ _ _ _ _ _ rfl (@bC _ _ _ _ _ _ (w) rfl (u1 hr.units) (pv 6) (pv 1) (fun _ _=>rfl))),(@am _ _ (4) _ (show aaZ (["before","behind","sign","left","right","signs","paper"]:List Str) by decide +kernel) rfl (Or.inl rfl) (.inr rfl)),aY,(@aq _ _ _ _ _ _ _ _ _ _ _ C_put_sign hr (by lia) rfl (@aa _ _ _ _ _ (pv 3) (@aa _ _ _ _ _ (pv 2) (@aa _ _ _ _ _ (pv 4) ac (by rfl)) (by rfl)) (by rfl)) (by decide) (by rfl) (by rfl))⟩) (by rfl) (by rfl) (by rfl) (by rfl) (by intro _;rfl) (by intro _ _;rfl) (by intro _ _;rfl) (by intro _ _;rfl)))),?_⟩;refine ⟨_,rfl,q,v,rfl,hv,q0,q1,by lia,fun pc us H1 s1 npc epc hcut=>⟨pc,rfl,⟨_,SqL.of epc⟩,?_⟩⟩;have pd1:=pd0.mono s1;have hG1:∀ q:Int × Int,0≤q.1→q.1≤q.2→q.2 < n→∃ t,bn es0 (.tup [q.1,q.2])=some (.ref t)∧H1 t=some (.tup [.int (En0 q).1,.int (En0 q).2]):=fun q a b c=>by
    obtain ⟨t,e1,e2⟩:=hG q a b c;exact ⟨t,e1,s1 _ _ e2⟩
  have lc:=aar hcut;have l8:(bh q).length≤8:=by unfold bh;rw [aab,List.length_range];lia
  refine rm (Trn.list (xs:=us)) (fun i ys H'=>H'=H1∧ys.length≤12 * i∧ys=(((bh q).take i).flatMap (jeC En0 gs q)).map V.int) ⟨rfl,aaQ _,rfl⟩ (fun i ys H' hi z=>by rw [z.1];exact SqL.of epc) (fun i x ys H0 H' hi hx z Nx nx=>?_) (fun ys H' z p5 n5=>?_)
  · obtain ⟨eH,l0,z0⟩:=z;obtain ⟨eH',hx⟩:=hx
    replace eH':=(eH'.trans eH).symm
    subst eH';clear eH;obtain ⟨c,hc,t,xb,yb,rfl,et,hxb,hyb⟩:=Paired.at hcut hx;obtain ⟨bx,rfl,ebx⟩:=PairIn.key hxb;obtain ⟨byy,rfl,eby⟩:=PairIn.key hyb;have hcm:=fS (aay hc);obtain ⟨t1,v1,e1⟩:=hG1 (q.1,c) q0 hcm.1 (by simp only;lia);obtain ⟨t2,v2,e2⟩:=hG1 (c+1,q.2) (by simp only;lia) (by simp only;lia) q2;have bs:=hB (q.1,c) q0 hcm.1 (by simp only;lia);have bt:=hB (c+1,q.2) (by simp only;lia) (by simp only;lia) q2;refine ⟨t,_,rfl,SqT.of et,rfl,_,_,rfl,_,_,rfl,rfl,?_⟩;refine ⟨_,rfl,_,rfl,cR gs,?_⟩;refine mi (Trn.str (z:=ar gs)) (fun a ys' σ' H'=>∃ c2 c3 c4,σ'=[some (.ref bx),some (.ref byy),c2,c3,c4,some (.str (ar gs)),some (.ref d)]∧H'=H1∧ys'.length≤12 * i+4 * a∧ys'=(((bh q).take i).flatMap (jeC En0 gs q)++(gs.take a).flatMap (jeG En0 q c)).map V.int) ⟨_,_,_,rfl,rfl,by lia,by simpa using z0⟩ (fun _ _ _ _ _ _=>trivial) (fun a x ys1 σ1 H2 H2' ha it z Nx1 nx1=>?_) (fun ys1 σ1 H2 z=>?_)
    · obtain ⟨c2,c3,c4,rfl,eH,l1,z1⟩:=z;obtain ⟨eH',cc,hcc,rfl⟩:=it
      replace eH':=(eH'.trans eH).symm
      subst eH';clear eH;obtain ⟨g,hg,rfl⟩:=lT hcc;have ha3:a < 3:=by rw [eB] at ha;lia
      refine ⟨_,rfl,_,rfl,d,.ref t1,rfl,⟨es0,_,pd1,MkIn.pair ebx,v1.symm⟩,t1,rfl,⟨_,SqT.of e1⟩,?_⟩;refine mi (Trn.tup (xs:=[V.int (En0 (q.1,c)).1,V.int (En0 (q.1,c)).2])) (fun b ys' σ' H'=>∃ c3 c4,σ'=[some (.ref bx),some (.ref byy),some (.str ⟨#[g.code]⟩),c3,c4,some (.str (ar gs)),some (.ref d)]∧H'=H1∧ys'.length≤12 * i+4 * a+2 * b∧ys'=(((bh q).take i).flatMap (jeC En0 gs q)++(gs.take a).flatMap (jeG En0 q c)++((two (En0 (q.1,c))).take b).flatMap (jeX En0 q c g)).map V.int) ⟨_,_,rfl,rfl,by lia,by simpa using z1⟩ (fun b ys' σ' H' hb z=>by obtain ⟨_,_,_,rfl,_⟩:=z;exact SqT.of e1) (fun b x ys2 σ2 H3 H3' hb it z Nx2 nx2=>?_) (fun ys2 σ2 H3 z=>?_)
      · obtain ⟨c3,c4,rfl,eH,l2,z2⟩:=z;obtain ⟨eH',hx2⟩:=it
        replace eH':=(eH'.trans eH).symm
        subst eH';clear eH;have hb2:b < 2:=hb;obtain ⟨xv,hxv,rfl,bxv⟩:∃ xv,(two (En0 (q.1,c)))[b]?=some xv∧x=V.int xv∧xv.natAbs < 2 ^ 4000:=by
          have : b=0∨b=1:=by lia
          rcases this with rfl|rfl
          · exact ⟨_,rfl,(aas hx2).symm,bs.1⟩
          · exact ⟨_,rfl,(aas hx2).symm,bs.2⟩
        refine ⟨_,rfl,_,rfl,d,.ref t2,rfl,⟨es0,_,pd1,MkIn.pair eby,v2.symm⟩,t2,rfl,⟨_,SqT.of e2⟩,?_⟩;refine qe (Trn.tup (xs:=[V.int (En0 (c+1,q.2)).1,V.int (En0 (c+1,q.2)).2])) (fun u ys' σ' H'=>∃ c4,σ'=[some (.ref bx),some (.ref byy),some (.str ⟨#[g.code]⟩),some (.int xv),c4,some (.str (ar gs)),some (.ref d)]∧H'=H1∧ys'.length≤12 * i+4 * a+2 * b+u∧ys'=(((bh q).take i).flatMap (jeC En0 gs q)++(gs.take a).flatMap (jeG En0 q c)++((two (En0 (q.1,c))).take b).flatMap (jeX En0 q c g)++((two (En0 (c+1,q.2))).take u).map fun y=>g.op xv y).map V.int) ⟨_,rfl,rfl,by lia,by simpa using z2⟩ (fun u ys' σ' H' hu z=>?_) (fun u y ys3 σ3 H4 H4' hu it z Nx3 nx3=>?_) (fun ys3 σ3 H4 z=>?_)
        · obtain ⟨_,_,rfl,l3,_⟩:=z;have hu2:u≤2:=hu;exact ⟨SqT.of e2,aB (by lia)⟩
        · obtain ⟨c4,rfl,eH,l3,z3⟩:=z;obtain ⟨eH',hy3⟩:=it
          replace eH':=(eH'.trans eH).symm
          subst eH';clear eH;have hu2:u < 2:=hu;obtain ⟨yv,hyv,rfl,byv⟩:∃ yv,(two (En0 (c+1,q.2)))[u]?=some yv∧y=V.int yv∧yv.natAbs < 2 ^ 4000:=by
            have : u=0∨u=1:=by lia
            rcases this with rfl|rfl
            · exact ⟨_,rfl,(aas hy3).symm,bt.1⟩
            · exact ⟨_,rfl,(aas hy3).symm,bt.2⟩
          refine ⟨_,rfl,_,rfl,_,rfl,xv,g,yv,by rw [bT];rfl,bxv,byv,nx3 _ _ _ ⟨_,rfl,rfl,by rw [aav];simp only [aaN,abR];lia,?_⟩⟩;rw [z3,aaA,hyv];simp
        · obtain ⟨c4,rfl,rfl,l3,z3⟩:=z;refine nx2 _ _ _ ⟨_,_,rfl,rfl,by have : [V.int (En0 (c+1,q.2)).1,V.int (En0 (c+1,q.2)).2].length=2:=rfl;lia,?_⟩;rw [z3,a_ (f:=jeX En0 q c g) hxv,← aaw];rfl
      · obtain ⟨c3,c4,rfl,rfl,l2,z2⟩:=z;refine nx1 _ _ _ ⟨_,_,_,rfl,rfl,by have : [V.int (En0 (q.1,c)).1,V.int (En0 (q.1,c)).2].length=2:=rfl;lia,?_⟩;rw [z2,a_ (f:=jeG En0 q c) hg,← aaw];rfl
    · obtain ⟨c2,c3,c4,rfl,rfl,l1,z1⟩:=z;rw [eB] at l1 z1;refine nx _ _ ⟨rfl,by lia,?_⟩;rw [z1,a_ (f:=jeC En0 gs q) hc,abf];rfl
  · obtain ⟨rfl,_,rfl⟩:=z;rw [← lc,abf];have s5:=Same.new n5 (.lst ((jeL En0 gs q).map V.int));exact qq p5 _ (s1.trans s5) (s1.free n5) ad
end
open PySem L2
theorem mG {E:Int × Int→Int × Int} {gs:List Sg} {q:Int × Int} (hq:q.1 < q.2) (hg:gs≠[]):eV E gs q≠[]:=fun z=>by
  obtain ⟨g,hg⟩:∃ g,g∈gs:=List.exists_mem_of_ne_nil _ hg;have hc:q.1∈bh q:=by
    unfold bh;exact aal.mpr ⟨0,aaH.mpr (by lia),by simp⟩
  have : g.op (E (q.1,q.1)).1 (E (q.1+1,q.2)).1∈eV E gs q:=mem_corn.mpr ⟨q.1,hc,g,hg,_,_,.inl rfl,.inl rfl,rfl⟩;rw [z] at this;simp at this
theorem rP {E:Int × Int→Int × Int} {ns:List Int} {gs:List Sg} {q:Int × Int} (hg:gs≠[]) (h:q.1≤q.2):wiL E ns gs q≠[]:=by
  unfold wiL;by_cases e:q.1=q.2
  · rw [if_pos e];simp
  · rw [if_neg e];intro z;obtain ⟨x,hx⟩:=List.exists_mem_of_ne_nil _ (mG (E:=E) (q:=q) (by lia) hg);have:=mem_je.mpr hx;rw [z] at this;cases this
def dP (ns:List Int) (gs:List Sg) (E:Int × Int→Int × Int) (q:Int × Int):Bool:=(wiL E ns gs q).all fun m=>decide ((E q).1≤m) && decide (m≤(E q).2)
def EP (ps:PPa) (q:Int × Int):Int × Int:=((lkP ps q).bind prD).getD (0,0)
def cb (ns:List Int) (gs:List Sg) (ps:PPa):Bool:=fL ns.length (some ps) && ps.all (fun p=>(prD p.2).isSome) && (sfl ns.length ns.length).all (dP ns gs (EP ps))
def eE (ns:List Int) (gs:List Sg):Option PPa→Option (Int × Int)
  | none=>none
  | some ps=>if cb ns gs ps=true then some (EP ps (0,(ns.length:Int) - 1)) else none
theorem dH {ns:List Int} {gs:List Sg} {ps:PPa} (h:cb ns gs ps=false):eE ns gs (some ps)=none:=by
  show (if cb ns gs ps=true then _ else none)=none;rw [h];rfl
theorem jo {ns:List Int} {gs:List Sg} {ps:PPa} (h:cb ns gs ps=true):eE ns gs (some ps)=some (EP ps (0,(ns.length:Int) - 1)):=by
  show (if cb ns gs ps=true then some _ else none)=_;rw [if_pos h]
theorem eT {ps:PPa} {q:Int × Int} {d:PyData} (h:lkP ps q=some d):(MK.tup [q.1,q.2],d)∈ps:=by
  unfold lkP at h;obtain ⟨p,hp,rfl⟩:=abh.mp h;have h1:=List.mem_of_find?_eq_some hp;have h2:=List.find?_some hp;have h2:p.1=MK.tup [q.1,q.2]:=of_decide_eq_true h2;rw [← h2];exact h1
mutual
theorem Dat.keep {H H':Hp} (g:∀ c ob,(∀ k,ob≠.dT k)→(∀ φ,ob≠.ext φ)→H c=some ob→H' c=some ob):∀ (d:PyData) (v:V),Dat H d v→Dat H' d v
  | .none,v,h=>by simp only [Dat] at h ⊢;exact h
  | .bool b,v,h=>by simp only [Dat] at h ⊢;exact h
  | .int i,v,h=>by simp only [Dat] at h ⊢;exact h
  | .str x,v,h=>by simp only [Dat] at h ⊢;exact h
  | .list ds,v,h=>by
    simp only [Dat] at h ⊢;obtain ⟨a,xs,e,h1,h2⟩:=h;exact ⟨a,xs,e,g _ _ (fun _ z=>nomatch z) (fun _ z=>nomatch z) h1,DatAll.keep g ds xs h2⟩
  | .tuple ds,v,h=>by
    simp only [Dat] at h ⊢;obtain ⟨a,xs,e,h1,h2⟩:=h;exact ⟨a,xs,e,g _ _ (fun _ z=>nomatch z) (fun _ z=>nomatch z) h1,DatAll.keep g ds xs h2⟩
  | .dict kvs,v,h=>by
    simp only [Dat] at h ⊢;obtain ⟨a,xs,e,h1,h2⟩:=h;exact ⟨a,xs,e,g _ _ (fun _ z=>nomatch z) (fun _ z=>nomatch z) h1,DatKv.keep g kvs xs h2⟩
theorem DatAll.keep {H H':Hp} (g:∀ c ob,(∀ k,ob≠.dT k)→(∀ φ,ob≠.ext φ)→H c=some ob→H' c=some ob):∀ (ds:List PyData) (vs:List V),DatAll H ds vs→DatAll H' ds vs
  | [],vs,h=>by simp only [DatAll] at h ⊢;exact h
  | d :: ds,vs,h=>by
    simp only [DatAll] at h ⊢;obtain ⟨v,r,e,h1,h2⟩:=h;exact ⟨v,r,e,Dat.keep g d v h1,DatAll.keep g ds r h2⟩
theorem DatKv.keep {H H':Hp} (g:∀ c ob,(∀ k,ob≠.dT k)→(∀ φ,ob≠.ext φ)→H c=some ob→H' c=some ob):∀ (kvs:List (PyData × PyData)) (ks:List (Key × V)),DatKv H kvs ks→DatKv H' kvs ks
  | [],ks,h=>by simp only [DatKv] at h ⊢;exact h
  | (k,d) :: r,ks,h=>by
    simp only [DatKv] at h ⊢;obtain ⟨q,v,t,e1,e2,h1,h2⟩:=h;exact ⟨q,v,t,e1,e2,Dat.keep g d v h1,DatKv.keep g r t h2⟩
end
def OkP (ps:PPa):Prop:=∀ p∈ps,OkX p.2
theorem p7:(10:Nat) ^ 280 < 2 ^ 4000∧0 < (10:Nat) ^ 280:=by decide +kernel
theorem qF {ps:PPa} (h:OkP ps) (q:Int × Int):(EP ps q).1.natAbs < 2 ^ 4000∧(EP ps q).2.natAbs < 2 ^ 4000:=by
  have key:(EP ps q).1.natAbs < 10 ^ 280∧(EP ps q).2.natAbs < 10 ^ 280:=by
    have z:EP ps q=(0,0)→(EP ps q).1.natAbs < 10 ^ 280∧(EP ps q).2.natAbs < 10 ^ 280:=fun e=>by rw [e];exact ⟨p7.2,p7.2⟩
    cases e:lkP ps q with
    | none=>exact z (by unfold EP;rw [e];rfl)
    | some d =>
      have e1:EP ps q=(prD d).getD (0,0):=by unfold EP;rw [e];rfl
      cases e2:prD d with
      | none=>exact z (by rw [e1,e2];rfl)
      | some x =>
        have e3:EP ps q=x:=by rw [e1,e2];rfl
        have:=h _ (eT e);rw [show (MK.tup [q.1,q.2],d).2=d from rfl,jw e2] at this;simp only [OkX,OkXs] at this;rw [e3];exact ⟨this.1,this.2.1⟩
  exact ⟨acs key.1 p7.1,acs key.2 p7.1⟩
theorem oW {w:World} {H:Hp} {a:Addr} {ps:PPa} {n:Nat} (hp:PaIn w H a ps) (h1:fL n (some ps)=true) (h2:ps.all (fun p=>(prD p.2).isSome)=true):GtE (EP ps) w H a n:=by
  obtain ⟨es,pd,hes⟩:=hp;refine ⟨es,pd,fun q q0 q1 q2=>?_⟩;rw [bO,aa4,aaR] at h1;have hs:=h1.2 q (kA q0 q1 q2);rcases kM hes q with ⟨e1,_⟩|⟨d,v,e1,e2,hd⟩
  · rw [e1] at hs;cases hs
  · have hpr:=aaR.mp h2 _ (eT e1);obtain ⟨x,hx⟩:=ab8.mp hpr;have hx:prD d=some x:=hx;obtain ⟨t,rfl,ht⟩:=qT hx hd;refine ⟨t,e2,?_⟩;have : EP ps q=x:=by unfold EP;rw [e1];show (prD d).getD (0,0)=x;rw [hx];rfl
    rw [this];exact ht
section
variable {P:Program} {w:World} {K:aaa} {mg:Str→Option Value} {base:Heap} {f:Addr} {fd:FuncData}
def fV (w:World):Sp:=fun vs H Q _=>∃ (r d:Addr) (E:Int × Int→Int × Int) (ns:List Int) (gs:List Sg) (q:Int × Int) (v:V),vs=[.ref r,.str (ar gs),.ref d,v]∧H r=some (.lst (ns.map V.int))∧PairIn H q v∧0≤q.1∧q.1≤q.2∧q.2 < ns.length∧ns.length≤9∧gs.length≤3∧gs≠[]∧GtE E w H d ns.length ∧
  (∀ q:Int × Int,0≤q.1→q.1≤q.2→q.2 < ns.length→(E q).1.natAbs < 2 ^ 4000∧(E q).2.natAbs < 2 ^ 4000)∧∀ H',Same H H'→Q (.bl (dP ns gs E q)) H'
abbrev dl:Stmt:=top 20
theorem bw:FnScope ["row","signs","paper","stretch","low","high","first","last","worths"] ["row","signs","paper","stretch"] (ao dl):=⟨rfl,rfl,rfl,by decide +kernel,rfl,by decide +kernel,by decide +kernel⟩
theorem iN (F:Fun K "is_within" "is_within" dl f fd) (B:Bu K mg) (C_join_ends:Cal P w K mg base "join_ends" 2 ["paper","signs","stretch"] (qP w)):FnOk P w K mg base CX0 3 f fd ["row","signs","paper","stretch"] (fV w):=by
  refine F.ok bw (fun vs H Q E h=>?_) (fun cdv A outer s H vs Q E hr h=>?_)
  · obtain ⟨r,d,E0,ns,gs,q,v,rfl,_⟩:=h;rfl
  obtain ⟨r,d,E0,ns,gs,q,v,rfl,er,hv,q0,q1,q2,n9,g3,gne,⟨es,pd,hG⟩,hB,qq⟩:=h;refine ⟨_,(@ag _ _ _ _ _ (@du _ _ _ _ _ _ (@bC _ _ _ _ _ _ (w) rfl (u1 hr.units) (pv 2) (pv 3) (fun _ _=>rfl)) (@dy _ _ _ _ _ _ rfl (@aZ _ _ _ _ _ (@am _ _ (4) _ (bw).nd rfl (Or.inl rfl) (.inl rfl)) (@aZ _ _ _ _ _ (@am _ _ (5) _ (bw).nd rfl (Or.inl rfl) (.inl rfl)) cE (by rfl)) (by rfl)) (by rfl) (by rfl)) (by rfl) (by rfl) (by rfl)) (@ag _ _ _ _ _ (@du _ _ _ _ _ _ (pv 3) (@dy _ _ _ _ _ _ rfl (@aZ _ _ _ _ _ (@am _ _ (6) _ (bw).nd rfl (Or.inl rfl) (.inl rfl)) (@aZ _ _ _ _ _ (@am _ _ (7) _ (bw).nd rfl (Or.inl rfl) (.inl rfl)) cE (by rfl)) (by rfl)) (by rfl) (by rfl)) (by rfl) (by rfl) (by rfl)) (@eK _ _ _ _ _ (@aE _ _ (8) _ _ _ _ (bw).nd rfl (Or.inl rfl) (@ox _ _ _ _ _ _ _ _ (@aG _ _ _ _ _ _ _ _ bj (pv 6) (pv 7) (ay _)) (@aN _ _ _ _ (@aa _ _ _ _ _ (@bi _ _ _ _ _ _ _ ix_list (pv 0) (pv 6) (fun _ _=>rfl)) ac (by rfl))) (@aq _ _ _ _ _ _ _ _ _ _ _ C_join_ends hr (by lia) rfl (@aa _ _ _ _ _ (pv 2) (@aa _ _ _ _ _ (pv 1) (@aa _ _ _ _ _ (pv 3) ac (by rfl)) (by rfl)) (by rfl)) (by decide) (by rfl) (by rfl))) (by rfl) (by first|exact .inl rfl|exact .inr rfl|assumption)) (@af _ _ _ (@ax _ _ _ _ (@bZ _ _ _ _ _ _ _ (@aQ _ _ _ _ _ _ _ _ gj (pv 4) (@ah _ _ _ _ _ _ _ _ _ (@dL _ rfl) rfl B.imin abC (@aa _ _ _ _ _ (pv 8) ac (by rfl)) (by decide) (by decide) (by rfl) (by rfl)) (ay _)) (@c_ _ _ _ _ _ (@aQ _ _ _ _ _ _ _ _ gj (@ah _ _ _ _ _ _ _ _ _ (@dO _ rfl) rfl B.imax abX (@aa _ _ _ _ _ (pv 8) ac (by rfl)) (by decide) (by decide) (by rfl) (by rfl)) (pv 5) (ay _))))))))),?_⟩;obtain ⟨b,rfl,eb⟩:=PairIn.key hv;have eb2:H b=some (.tup [.int q.1,.int q.2]):=eb;obtain ⟨t,v1,e1⟩:=hG q q0 q1 q2;have wne:=rP (E:=E0) (ns:=ns) gne q1;refine ⟨_,rfl,_,rfl,d,.ref t,rfl,⟨es,_,pd,MkIn.pair eb2,v1.symm⟩,t,_,rfl,SqT.of e1,rfl,_,_,rfl,_,_,rfl,rfl,?_⟩;refine ⟨_,rfl,b,_,rfl,SqT.of eb2,rfl,_,_,rfl,_,_,rfl,rfl,?_⟩;refine ⟨fun σ H'=>∃ p,σ=[some (.ref r),some (.str (ar gs)),some (.ref d),some (.ref b),some (.int (E0 q).1),some (.int (E0 q).2),some (.int q.1),some (.int q.2),some (.ref p)]∧Same H H'∧H' p=some (.lst ((wiL E0 ns gs q).map V.int)),?_,?_⟩
  · by_cases c:q.1=q.2
    · have hix:q.1.toNat < ns.length:=by lia
      have eat:atI (ns.map V.int) q.1=some (.int (ns.getD q.1.toNat 0)):=by
        have h:atI (ns.map V.int) ((q.1.toNat:Nat):Int)=some (.int (ns.getD q.1.toNat 0)):=bS (by rw [aap,aac hix,aaP,aac hix];rfl)
        rwa [show ((q.1.toNat:Nat):Int)=q.1 by lia] at h
      refine ⟨_,rfl,_,rfl,rfl,_,rfl,hU (congrArg V.int c) ⟨_,rfl,_,rfl,r,_,_,_,rfl,rfl,SqL.of er,eat,(by show 1≤sizeLine;decide),fun p np=>⟨p,rfl,Same.new np _,?_⟩⟩⟩;rw [ad];unfold wiL;rw [if_pos c];rfl
    · refine ⟨_,rfl,_,rfl,rfl,_,rfl,fG (fun z=>c (V.int.inj z)) ⟨_,rfl,_,rfl,_,rfl,d,E0,ns.length,gs,q,.ref b,rfl,hv,q0,q1,q2,n9,g3,⟨es,pd,hG⟩,hB,fun p H' s' np ep=>⟨p,rfl,s',?_⟩⟩⟩;rw [ep];unfold wiL;rw [if_neg c]
  · rintro σ H' ⟨p,rfl,S,ep⟩;refine ⟨_,rfl,_,rfl,p,_,rfl,SqL.of ep,wne,fun m hm hmin=>⟨_,_,rfl,rfl,_,rfl,?_⟩⟩;have q3:=qq _ S;by_cases c1:(E0 q).1≤m
    · rw [decide_eq_true c1];refine a4 ⟨_,rfl,p,_,rfl,SqL.of ep,wne,fun M hM hmax=>⟨_,rfl,_,_,rfl,rfl,?_⟩⟩;show Q (V.bl (decide (M≤(E0 q).2))) H';have e:dP ns gs E0 q=decide (M≤(E0 q).2):=by
        unfold dP;rw [acb,aaR,decide_eq_true_eq];constructor
        · intro h;have:=h M hM;rw [aa4,decide_eq_true_eq,decide_eq_true_eq] at this;exact this.2
        · intro h x hx;rw [aa4,decide_eq_true_eq,decide_eq_true_eq];exact ⟨Int.le_trans c1 (hmin x hx),Int.le_trans (hmax x hx) h⟩
      rw [← e];exact q3
    · rw [decide_eq_false c1];have e:dP ns gs E0 q=false:=by
        unfold dP;rw [List.all_eq_false];exact ⟨m,hm,by rw [decide_eq_false c1,ab3];exact aae⟩
      rw [e] at q3;exact aR q3
def lN (w:World) (K:aaa):Sp:=fun vs H Q _=>∃ (r:Addr) (ns:List Int) (gs:List Sg) (t:Option PPa) (v:V),vs=[.ref r,.str (ar gs),v]∧H r=some (.lst (ns.map V.int))∧1≤ns.length∧ns.length≤9∧1≤gs.length∧gs.length≤3∧dG gs∧ThIn w K H t v∧(∀ ps,t=some ps→OkP ps) ∧
  ∀ H',Same H H'→(eE ns gs t=none→Q .non H')∧(∀ e tt,eE ns gs t=some e→H' tt=some (.tup [.int e.1,.int e.2])→Q (.ref tt) H')
abbrev cT:Stmt:=top 19
theorem gK:FnScope ["row","signs","thing"] ["row","signs","thing"] (ao cT):=⟨rfl,rfl,rfl,by decide +kernel,rfl,by decide +kernel,by decide +kernel⟩
theorem gQ (F:Fun K "bounds_say" "bounds_say" cT f fd) (B:Bu K mg) (C_need_row:Cal P w K mg base "need_row" 3 ["thing"] fc) (C_need_signs:Cal P w K mg base "need_signs" 2 ["thing"] di) (C_has_all_stretches:Cal P w K mg base "has_all_stretches" 2 ["thing","many"] (fZ w K))
    (C_is_pair:Cal P w K mg base "is_pair" 2 ["thing"] fg) (C_is_within:Cal P w K mg base "is_within" 3 ["row","signs","paper","stretch"] (fV w)) (C_shorter_first:Cal P w K mg base "shorter_first" 1 ["many"] pN):FnOk P w K mg base CX0 4 f fd ["row","signs","thing"] (lN w K):=by
  refine F.ok gK (fun vs H Q E h=>?_) (fun cdv A outer s H vs Q E hr h=>?_)
  · obtain ⟨r,ns,gs,t,v,rfl,_⟩:=h;rfl
  obtain ⟨r,ns,gs,t,v,rfl,er,n1,n9,g1,g3,hs,ht,hok,qq⟩:=h;refine ⟨_,(@ag _ _ _ _ _ (@bQ _ _ _ _ (@aq _ _ _ _ _ _ _ _ _ _ _ C_need_row hr (by lia) rfl (@aa _ _ _ _ _ (pv 0) ac (by rfl)) (by decide) (by rfl) (by rfl)) (by rfl)) (@ag _ _ _ _ _ (@bQ _ _ _ _ (@aq _ _ _ _ _ _ _ _ _ _ _ C_need_signs hr (by lia) rfl (@aa _ _ _ _ _ (pv 1) ac (by rfl)) (by decide) (by rfl) (by rfl)) (by rfl)) (@ag _ _ _ _ _ (@aW _ _ _ _ _ _ _ _ (@PW.pt _ _ _ (@dR _ _ _ _ _ _ _ (@bq _ _ _ _ (@bc _ _ _ (@aq _ _ _ _ _ _ _ _ _ _ _ C_has_all_stretches hr (by lia) rfl (@aa _ _ _ _ _ (pv 2) (@aa _ _ _ _ _ (@ah _ _ _ _ _ _ _ _ _ aD rfl B.ilen aaL (@aa _ _ _ _ _ (pv 0) ac (by rfl)) (by decide) (by decide) (by rfl) (by rfl)) ac (by rfl)) (by rfl)) (by decide) (by rfl) (by rfl)) (by intro _;rfl))) (@cL _ _ _ _ (@bq _ _ _ _ (@bc _ _ _ (@ah _ _ _ _ _ _ _ _ _ (@e8 _ rfl) rfl B.iall abW (@aa _ _ _ _ _ (@pX _ _ _ (@cF _ _ _ _ _ _ _ _ (["ends"]) ([none]) _ _ _ _ rfl (@oq _ _ _ _ _ _ (w) rfl (pv 2) (by rfl) (by rfl)) rfl trivial trivial (fun _ _ _ _=>⟨(@am _ _ (0) _ (show aaZ (["ends"]:List Str) by decide +kernel) rfl (Or.inl rfl) (.inr rfl)),aY,(@aq _ _ _ _ _ _ _ _ _ _ _ C_is_pair hr (by lia) rfl (@aa _ _ _ _ _ (pv 0) ac (by rfl)) (by decide) (by rfl) (by rfl))⟩) (by rfl) (by rfl) (by rfl) (by rfl) (by intro _;rfl))) ac (by rfl)) (by decide) (by decide) (by rfl) (by rfl)) (by intro _;rfl)))))) (@af _ _ _ (@ax _ _ _ _ bN)) aF) (@ag _ _ _ _ _ (@aW _ _ _ _ _ _ _ _ (@bq _ _ _ _ (@bc _ _ _ (@ah _ _ _ _ _ _ _ _ _ (@e8 _ rfl) rfl B.iall abW (@aa _ _ _ _ _ (@cF _ _ _ _ _ _ _ _ (["stretch","row","signs","thing"]) ([none,some 0,some 1,some 2]) _ _ _ _ rfl (@eO _ _ _ _ (@aq _ _ _ _ _ _ _ _ _ _ _ C_shorter_first hr (by lia) rfl (@aa _ _ _ _ _ (@ah _ _ _ _ _ _ _ _ _ aD rfl B.ilen aaL (@aa _ _ _ _ _ (pv 0) ac (by rfl)) (by decide) (by decide) (by rfl) (by rfl)) ac (by rfl)) (by decide) (by rfl) (by rfl))) rfl ⟨rfl,⟨rfl,⟨rfl,trivial⟩⟩⟩ ⟨⟨rfl,Or.inl rfl,Or.inl rfl⟩,⟨⟨rfl,Or.inl rfl,Or.inl rfl⟩,⟨⟨rfl,Or.inl rfl,Or.inl rfl⟩,trivial⟩⟩⟩ (fun _ _ _ _=>⟨(@am _ _ (0) _ (show aaZ (["stretch","row","signs","thing"]:List Str) by decide +kernel) rfl (Or.inl rfl) (.inr rfl)),aY,(@aq _ _ _ _ _ _ _ _ _ _ _ C_is_within hr (by lia) rfl (@aa _ _ _ _ _ (pv 1) (@aa _ _ _ _ _ (pv 2) (@aa _ _ _ _ _ (pv 3) (@aa _ _ _ _ _ (pv 0) ac (by rfl)) (by rfl)) (by rfl)) (by rfl)) (by decide) (by rfl) (by rfl))⟩) (by rfl) (by rfl) (by rfl) (by rfl) (by intro _;rfl)) ac (by rfl)) (by decide) (by decide) (by rfl) (by rfl)) (by intro _;rfl))) (@af _ _ _ (@ax _ _ _ _ bN)) aF) (@af _ _ _ (@ax _ _ _ _ (@bC _ _ _ _ _ _ (w) rfl (u1 hr.units) (pv 2) (@au _ _ _ _ _ (@aa _ _ _ _ _ ae (@aa _ _ _ _ _ (@ap _ _ _ _ _ _ _ _ cB (@ah _ _ _ _ _ _ _ _ _ aD rfl B.ilen aaL (@aa _ _ _ _ _ (pv 0) ac (by rfl)) (by decide) (by decide) (by rfl) (by rfl)) ae) ac (by rfl)) (by rfl))) (fun _ _=>rfl)))))))),?_⟩;have hl:(ns.map V.int).length=ns.length:=aab _;have gne:gs≠[]:=fun z=>by rw [z] at g1;simp at g1
  have l81:=iw ns.length ns.length;have l81':ns.length * ns.length≤9 * 9:=acq n9 n9;refine ⟨_,rfl,r,ns,rfl,er,n1,n9,fun H1 s1=>?_⟩;refine ⟨_,rfl,gs,rfl,hs,?_⟩;refine ⟨_,rfl,_,rfl,r,_,rfl,.inl (SqL.of (s1 _ _ er)),?_⟩;rw [hl];refine ⟨t,v,ns.length,rfl,n9,ht.mono s1,fun H2 s2=>⟨_,rfl,?_⟩⟩;have S2:=s1.trans s2;have ht2:=ht.mono S2;cases hh:fL ns.length t with
  | false =>
    have e:eE ns gs t=none:=by
      cases t with
      | none=>rfl
      | some ps=>exact dH (by unfold cb;rw [hh];rfl)
    exact a4 (a4 ((qq _ S2).1 e))
  | true =>
  refine aR ?_;cases t with
  | none=>exact absurd hh (by simp [fL])
  | some ps =>
  have hokp:=hok ps rfl;obtain ⟨d,rfl,hpa⟩:=ht2;obtain ⟨es,pd,hes⟩:=id hpa;have lk:es.length=ps.length:=(aar hes).symm;have hlen:ps.length=(sfl ns.length ns.length).length:=by
    rw [bO,aa4] at hh;exact of_decide_eq_true hh.1
  have hpos:1≤ps.length:=by
    have:=lU ns.length 0 0 (aah _) (by lia);have:=acj this;lia
  obtain ⟨u,hu,hu1⟩:∃ u,H2 d=some u∧((∃ k,u=.dT k)∨∃ φ,u=.ext φ):=by
    rcases pd with ⟨kvs,h,_⟩|⟨kvs,h,_⟩|⟨_,h⟩
    · exact ⟨_,h,.inl ⟨_,rfl⟩⟩
    · exact ⟨_,h.at_,.inr ⟨_,rfl⟩⟩
    · rw [h] at lk;simp at lk;lia
  refine ⟨_,rfl,d,es,u,rfl,pd,hu,fun o=>?_⟩;have S3:∀ c ob,c≠d→H2 c=some ob→upd H2 d (.frz o u) c=some ob:=fun c ob hc e=>by rw [ak hc];exact e
  have e3:upd H2 d (.frz o u) d=some (.frz o u):=ad;have D3:∀ x y,Dat H2 x y→Dat (upd H2 d (.frz o u)) x y:=fun x y=>Dat.keep (fun c ob n1 n2 e=>S3 c ob (fun z=>by
    rw [z,hu] at e;injection e with e
    rcases hu1 with ⟨k,hk⟩|⟨k,hk⟩
    · exact n1 k (e.symm.trans hk)
    · exact n2 k (e.symm.trans hk)) e) x y
  generalize upd H2 d (.frz o u)=H3 at S3 e3 D3 ⊢;refine cN Trn.valsM (fun i ys H'=>H'=H3∧ys=((ps.take i).map fun p=>(prD p.2).isSome).map V.bl) ⟨rfl,rfl⟩ (fun i ys H' hi z=>⟨by rw [z.1];exact e3,by rw [z.2,aab,aab,aaJ];exact aB (by lia)⟩) (fun i x ys H0 H' hi hx z Nx nx=>?_) (fun ys H' z p5 n5=>?_)
  · obtain ⟨rfl,rfl⟩:=z;obtain ⟨rfl,hx⟩:=hx;rw [aap] at hx;obtain ⟨e0,he0,rfl⟩:=abh.mp hx;obtain ⟨p0,hp0,_,hd0⟩:=Paired.at hes he0;refine ⟨_,rfl,p0.2,_,rfl,D3 _ _ hd0,nx _ _ ⟨rfl,?_⟩⟩;rw [oj,gH hp0,aaM];rfl
  obtain ⟨rfl,rfl⟩:=z;have nf:pF H2 d:=fun o' v' e=>by
    rw [hu] at e;injection e with e
    rcases hu1 with ⟨k,hk⟩|⟨k,hk⟩ <;> (rw [hk] at e;cases e)
  rw [aab,lk,abf];obtain ⟨bs,hbs⟩:∃ bs:List Bool,(ps.map fun p=>(prD p.2).isSome)=bs:=⟨_,rfl⟩
  rw [hbs];have s5:=Same.new n5 (.lst (bs.map V.bl));have e5:upd H' p5 (.lst (bs.map V.bl)) p5=_:=ad;have e6:=s5 _ _ e3;generalize upd H' p5 (.lst (bs.map V.bl))=H5 at s5 e5 e6 ⊢;have npd:p5≠d:=fun e=>by rw [e,e6] at e5;cases e5
  have S6:Same H2 (upd H5 d u):=fun c ob hc=>by
    by_cases h:c=d
    · subst h;rw [ad];rw [hu] at hc;exact hc
    · rw [ak h];exact s5 _ _ (S3 c ob h hc)
  have e7:upd H5 d u p5=_:=(ak npd).trans e5;refine ⟨d,o,u,nf,e6,p5,_,rfl,SqL.of e7,?_⟩;have SA:=S2.trans S6;generalize upd H5 d u=HA at S6 SA ⊢;have ea:(bs.all id)=ps.all (fun p=>(prD p.2).isSome):=by rw [← hbs,List.all_map];rfl
  rw [ea];cases hpr:ps.all (fun p=>(prD p.2).isSome) with
  | false =>
    have e:eE ns gs (some ps)=none:=dH (by unfold cb;rw [hh,hpr];rfl);exact ⟨_,rfl,a4 ((qq _ SA).1 e)⟩
  | true =>
  refine ⟨_,rfl,aR ?_⟩;have hG:=oW (hpa.mono S6) hh hpr;have erA:=SA _ _ er;refine ⟨_,rfl,r,_,rfl,.inl (SqL.of erA),?_⟩;rw [hl];refine ⟨ns.length,rfl,n9,fun pS us HB sB npS epS hpS=>⟨pS,rfl,⟨_,SqL.of epS⟩,?_⟩⟩;have SB:=SA.trans sB;have erB:=SB _ _ er;have hGB:=hG.mono sB;have lS:=hpS.length;refine cN (Trn.list (xs:=us)) (fun i ys H'=>Same HB H'∧ys=(((sfl ns.length ns.length).take i).map fun q=>dP ns gs (EP ps) q).map V.bl) ⟨Same.refl _,rfl⟩ (fun i ys H' hi z=>⟨SqL.of (z.1 _ _ epS),by rw [z.2,aab,aab,aaJ];exact aB (by lia)⟩) (fun i x ys H0 H' hi hx z Nx nx=>?_) (fun ys H' z p9 n9'=>?_)
  · obtain ⟨S,rfl⟩:=z;obtain ⟨rfl,hx⟩:=hx;obtain ⟨q1,hq1,hpx⟩:=jD (PairsIn.mono (Tups.of S) hpS) hx;obtain ⟨a0,a1,a2⟩:=gb ns.length q1 (aay hq1);refine ⟨_,rfl,_,rfl,_,rfl,_,rfl,r,d,EP ps,ns,gs,q1,x,rfl,S _ _ erB,hpx,a0,a1,a2,n9,g3,gne,hGB.mono S,(fun q _ _ _=>qF hokp q),fun H2 s2=>nx _ _ ⟨S.trans s2,?_⟩⟩;rw [gH hq1,aaM];rfl
  obtain ⟨S,rfl⟩:=z;rw [← lS,abf];obtain ⟨cs,hcs⟩:∃ cs:List Bool,((sfl ns.length ns.length).map fun q=>dP ns gs (EP ps) q)=cs:=⟨_,rfl⟩
  rw [hcs];have s9:=Same.new n9' (.lst (cs.map V.bl));refine ⟨p9,_,rfl,SqL.of ad,?_⟩;have SC:=(SB.trans S).trans s9;generalize upd H' p9 (.lst (cs.map V.bl))=HC at s9 SC ⊢;have ec:(cs.all id)=(sfl ns.length ns.length).all (dP ns gs (EP ps)):=by rw [← hcs,List.all_map];rfl
  rw [ec];cases hoa:(sfl ns.length ns.length).all (dP ns gs (EP ps)) with
  | false =>
    have e:eE ns gs (some ps)=none:=dH (by unfold cb;rw [hh,hpr,hoa];rfl);exact ⟨_,rfl,a4 ((qq _ SC).1 e)⟩
  | true =>
  have e:eE ns gs (some ps)=some (EP ps (0,(ns.length:Int) - 1)):=jo (by unfold cb;rw [hh,hpr,hoa];rfl);refine ⟨_,rfl,aR ?_⟩;refine ⟨_,rfl,_,rfl,r,_,rfl,.inl (SqL.of (SC _ _ er)),_,_,rfl,rfl,?_⟩;rw [hl];refine ⟨(by show 2≤sizeLine;decide),fun k1 nk1=>?_⟩;have sk:=Same.new nk1 (.tup [.int 0,.int ((ns.length:Int) - 1)]);have SD:=SC.trans sk;obtain ⟨es2,pd2,g2⟩:=(hGB.mono (S.trans s9)).mono sk;obtain ⟨t,v1,v2⟩:=g2 (0,(ns.length:Int) - 1) (Int.le_refl _) (by simp only;lia) (by simp only;lia);refine ⟨d,.ref t,rfl,⟨es2,_,pd2,MkIn.pair (i:=0) (j:=(ns.length:Int) - 1) ad,v1.symm⟩,(qq _ SD).2 _ t e v2⟩
end
open PySem L2
theorem gf {kvs:List (List Key × V)} {k:List Key} {v:V} (h:k∉kvs.map (·.1)):bX kvs k v=kvs++[(k,v)]:=by
  unfold bX;rw [if_neg];intro q;obtain ⟨p,hp,e⟩:=List.any_eq_true.mp q;exact h (aal.mpr ⟨p,hp,of_decide_eq_true e⟩)
theorem jb:∀ {kvs:List (List Key × V)} {k:List Key} {v:V},(kvs.map (·.1)).Nodup→(k,v)∈kvs→bn kvs k=some v
  | [],_,_,_,h=>nomatch h
  | p :: r,k,v,hn,h=>by
    rw [aad,aa2] at hn;rcases aai.mp h with e|h
    · subst e;unfold bn;rw [aa0,decide_eq_true rfl];rfl
    · have ne:p.1≠k:=fun e=>hn.1 (aal.mpr ⟨(k,v),h,e.symm⟩);have:=jb hn.2 h;unfold bn at this ⊢;rw [aa0,decide_eq_false ne];exact this
theorem oG {qs:List (Int × Int)} (h:qs.Nodup):(qs.map ky).Nodup:=by
  induction h with
  | nil=>exact acp
  | @cons q r hq _ ih =>
    rw [aad,aa2];refine ⟨fun z=>?_,ih⟩;obtain ⟨q',hq',e⟩:=aal.mp z;exact hq q' hq' (iU e).symm
theorem jv {α β:Type} {l:List α} {f:α→List β} {i:Nat} {x:α} {q:List β} (h:l[i]?=some x) (hq:q <+: f x):(l.take i).flatMap f++q <+: l.flatMap f:=by
  obtain ⟨hi,e⟩:=aaK.mp h;obtain ⟨t,ht⟩:=hq;refine ⟨t++(l.drop (i+1)).flatMap f,?_⟩;have el:l=l.take i++x :: l.drop (i+1):=by
    rw [← e]
    conv=>lhs;rw [← List.take_append_drop i l,List.drop_eq_getElem_cons hi]
  conv=>rhs;rw [el,ab6,List.flatMap_cons,← ht]
  simp
def a6 (gs:List Sg) (a b:Int):List Int:=gs.map fun g=>g.op a b
theorem fB (E:Int × Int→Int × Int) (gs:List Sg) (q:Int × Int):eV E gs q=(bh q).flatMap fun c=>(two (E (q.1,c))).flatMap fun a=>(two (E (c+1,q.2))).flatMap fun b=>a6 gs a b:=rfl
theorem ng {n:Nat} (h:n≤9):10 ^ (30 * n) < 2 ^ 4000:=aa6 (abp (by decide) (show 30 * n≤270 by lia)) (by decide +kernel)
def bg (j:Nat):List (Int × Int):=(abd (j+1)).map fun (a:Nat)=>((j:Int) - (a:Int),(j:Int))
def aC (n:Nat):List (Int × Int):=(abd n).flatMap bg
theorem db:∀ n,n≤9→(aC n).Nodup:=by decide +kernel
theorem fm (n:Nat):aC (n+1)=aC n++bg n:=by
  unfold aC;rw [List.range_succ,ab6];simp
theorem n8 {j:Nat} {q:Int × Int} (h0:0≤q.1) (h1:q.1≤q.2) (h2:q.2=(j:Int)):q∈bg j:=by
  unfold bg;refine aal.mpr ⟨((j:Int) - q.1).toNat,aaH.mpr (by lia),?_⟩;rw [show (((((j:Int) - q.1).toNat:Nat)):Int)=(j:Int) - q.1 by lia,← h2];congr 1;lia
theorem cA {n:Nat} {q:Int × Int} (h0:0≤q.1) (h1:q.1≤q.2) (h2:q.2 < (n:Int)):q∈aC n:=by
  unfold aC;refine List.mem_flatMap.mpr ⟨q.2.toNat,aaH.mpr (by lia),n8 h0 h1 (by lia)⟩
theorem dz:∀ n,n≤9→(aC n).length≤45:=by decide +kernel
def BtIn (E:Int × Int→Int × Int) (H:Hp) (qs:List (Int × Int)) (kvs:List (List Key × V)):Prop:=Paired (fun (q:Int × Int) (kv:List Key × V)=>kv.1=ky q∧∃ t,kv.2=.ref t∧H t=some (.tup [.int (E q).1,.int (E q).2])) qs kvs
theorem BtIn.mono {E:Int × Int→Int × Int} {H H':Hp} (t:Tups H H') {qs:List (Int × Int)} {kvs:List (List Key × V)} (h:BtIn E H qs kvs):BtIn E H' qs kvs:=Paired.mapP h fun _ _ ⟨e,a,b,c⟩=>⟨e,a,b,t _ _ c⟩
theorem BtIn.keys {E:Int × Int→Int × Int} {H:Hp} {qs:List (Int × Int)} {kvs:List (List Key × V)} (h:BtIn E H qs kvs):kvs.map (·.1)=qs.map ky:=by
  unfold BtIn at h
  induction h with
  | nil=>rfl
  | cons h t ih=>rw [aad,aad,ih,h.1]
theorem BtIn.get {E:Int × Int→Int × Int} {H:Hp} {qs:List (Int × Int)} {kvs:List (List Key × V)} (h:BtIn E H qs kvs) (nd:qs.Nodup) {q:Int × Int} (hq:q∈qs):∃ t,bn kvs (ky q)=some (.ref t)∧H t=some (.tup [.int (E q).1,.int (E q).2]):=by
  have hn:(kvs.map (·.1)).Nodup:=by rw [h.keys];exact oG nd
  obtain ⟨i,hi⟩:=abS.mp hq;have hl:=aar h;have hlt:i < kvs.length:=by have:=(aaK.mp hi).1;lia
  have hk:kvs[i]?=some kvs[i]:=aac hlt;obtain ⟨q',hq',e,t,e2,e3⟩:=Paired.at h hk;rw [hi] at hq';cases hq';refine ⟨t,jb hn ?_,e3⟩;rw [← e,← e2];exact aay hk
def kB (E:Int × Int→Int × Int) (q0 e:Int × Int):Int × Int→Int × Int:=fun q=>if q=q0 then e else E q
theorem lX {E:Int × Int→Int × Int} {q0 e:Int × Int}:kB E q0 e q0=e:=if_pos rfl
theorem lW {E:Int × Int→Int × Int} {q0 e q:Int × Int} (h:¬ q=q0):kB E q0 e q=E q:=if_neg h
theorem BtIn.put {E:Int × Int→Int × Int} {H:Hp} {qs:List (Int × Int)} {kvs:List (List Key × V)} {q0:Int × Int} {m M:Int} {t:Addr} (h:BtIn E H qs kvs) (hn:q0∉qs) (ht:H t=some (.tup [.int m,.int M])):BtIn (kB E q0 (m,M)) H (qs++[q0]) (kvs++[(ky q0,.ref t)]):=by
  refine Paired.app ?_ (.cons ⟨rfl,t,rfl,?_⟩ .nil)
  · have go:∀ {qs:List (Int × Int)} {kvs:List (List Key × V)},BtIn E H qs kvs→q0∉qs→BtIn (kB E q0 (m,M)) H qs kvs:=by
      intro qs kvs h;unfold BtIn at h ⊢
      induction h with
      | nil=>intro _;exact .nil
      | @cons q kv qs kvs h t ih =>
        intro hn;have n1:¬ q=q0:=fun e=>hn (by rw [e];exact aaq);exact .cons ⟨h.1,by rw [lW n1];exact h.2⟩ (ih fun z=>hn (aak _ z))
    exact go h hn
  · rw [lX];exact ht
def bnd (q:Int × Int):Nat:=10 ^ (30 * (q.2 - q.1+1).toNat)
def BdQ (E:Int × Int→Int × Int) (qs:List (Int × Int)):Prop:=∀ q∈qs,(E q).1.natAbs+10≤bnd q∧(E q).2.natAbs+10≤bnd q
theorem BdQ.put {E:Int × Int→Int × Int} {qs:List (Int × Int)} {q0:Int × Int} {m M:Int} (h:BdQ E qs) (h1:m.natAbs+10≤bnd q0) (h2:M.natAbs+10≤bnd q0):BdQ (kB E q0 (m,M)) (qs++[q0]):=fun q hq=>by
  by_cases e:q=q0
  · rw [e,lX];exact ⟨h1,h2⟩
  · rw [lW e];rcases aax.mp hq with hq|hq
    · exact h q hq
    · exact absurd (aaI.mp hq) e
theorem nQ {q:Int × Int} (h0:0≤q.1) (h2:q.2 < 9):bnd q < 2 ^ 4000:=ng (by lia)
theorem BdQ.lt {E:Int × Int→Int × Int} {qs:List (Int × Int)} (h:BdQ E qs) {q:Int × Int} (hq:q∈qs) (h0:0≤q.1) (h2:q.2 < 9):(E q).1.natAbs < 2 ^ 4000∧(E q).2.natAbs < 2 ^ 4000:=by
  obtain ⟨a,b⟩:=h q hq;have c:=nQ h0 h2;exact ⟨aa6 (aaG (Nat.le_add_right _ 10) a) c,aa6 (aaG (Nat.le_add_right _ 10) b) c⟩
def fnE (E:Int × Int→Int × Int) (ns:List Int) (gs:List Sg) (q:Int × Int):List Int:=(if q.1=q.2 then [ns.getD q.1.toNat 0] else [])++eV E gs q
theorem kZ {E:Int × Int→Int × Int} {ns:List Int} {gs:List Sg} (hg:gs≠[]) {q:Int × Int} (h:q.1≤q.2):fnE E ns gs q≠[]:=by
  unfold fnE;by_cases e:q.1=q.2
  · rw [if_pos e];simp
  · rw [if_neg e,ace];exact mG (by lia) hg
theorem oB {a b:Int} {A B:Nat} (hA:10 ^ 30≤A) (hB:10 ^ 30≤B) (ha:a.natAbs+10≤A) (hb:b.natAbs+10≤B) (g:Sg):(g.op a b).natAbs+20≤A * B:=by
  have e:(10:Nat) ^ 30=1000000000000000000000000000000:=by decide
  rw [e] at hA hB;have h1:A * 2≤A * B:=Nat.mul_le_mul_left _ (by lia);have h2:2 * B≤A * B:=Nat.mul_le_mul_right _ (by lia);cases g with
  | plus=>show (a+b).natAbs+20≤A * B;lia
  | minus=>show (a - b).natAbs+20≤A * B;lia
  | times =>
    show (a * b).natAbs+20≤A * B;rw [Int.natAbs_mul];obtain ⟨x,hx⟩:∃ x,a.natAbs=x:=⟨_,rfl⟩
    obtain ⟨y,hy⟩:∃ y,b.natAbs=y:=⟨_,rfl⟩
    rw [hx] at ha ⊢;rw [hy] at hb ⊢;have h3:(x+10) * (y+10)≤A * B:=acq ha hb;have h4:(x+10) * (y+10)=x * y+10 * x+10 * y+100:=by rw [Nat.add_mul,Nat.mul_add];lia
    lia
theorem lA {q:Int × Int} (h:q.1≤q.2):10 ^ 30≤bnd q:=abp (by decide) (by lia)
theorem qp {a c b:Int} (h1:a≤c) (h2:c < b):bnd (a,c) * bnd (c+1,b)=bnd (a,b):=by
  unfold bnd;rw [← Nat.pow_add];congr 1;simp only;lia
theorem o6 {E:Int × Int→Int × Int} {ns:List Int} {gs:List Sg} {q:Int × Int} {qs:List (Int × Int)} (sm:e9 ns) (h0:0≤q.1) (h1:q.1≤q.2) (h2:q.2 < ns.length) (hE:BdQ E qs) (hq:∀ c∈bh q,(q.1,c)∈qs∧(c+1,q.2)∈qs):∀ x∈fnE E ns gs q,x.natAbs+20≤bnd q:=by
  intro x hx;unfold fnE at hx;rcases aax.mp hx with hx|hx
  · by_cases e:q.1=q.2
    · rw [if_pos e] at hx;have hlt:q.1.toNat < ns.length:=by lia
      have : x∈ns:=by
        rw [aaI.mp hx,aaP,aac hlt];exact abe _
      have s:=sm x this;have g:=lA h1;have e2:(10:Nat) ^ 30=1000000000000000000000000000000:=by decide
      lia
    · rw [if_neg e] at hx;cases hx
  · obtain ⟨c,hc,g,_,a,b,ha,hb,e⟩:=mem_corn.mp hx;obtain ⟨i1,i2⟩:=fS hc;obtain ⟨k1,k2⟩:=hq c hc;obtain ⟨b1,b2⟩:=hE _ k1;obtain ⟨b3,b4⟩:=hE _ k2;rw [← e,show bnd q=bnd (q.1,c) * bnd (c+1,q.2) from (qp i1 i2).symm];refine oB (lA (q:=(q.1,c)) i1) (lA (q:=(c+1,q.2)) (by simp only;lia)) ?_ ?_ g
    · rcases ha with rfl|rfl
      · exact b1
      · exact b2
    · rcases hb with rfl|rfl
      · exact b3
      · exact b4
section
variable {P:Program} {w:World} {K:aaa} {mg:Str→Option Value} {base:Heap} {f:Addr} {fd:FuncData}
def fX:Sp:=fun vs H Q _=>∃ a g b,vs=[.str (Sg.str g),.int a,.int b]∧a.natAbs < 2 ^ 4000∧b.natAbs < 2 ^ 4000∧Q (.int (g.op a b)) H
abbrev d9:Stmt:=top 29
theorem jm:FnScope ["sign","one","other"] ["sign","one","other"] (ao d9):=⟨rfl,rfl,rfl,by decide +kernel,rfl,by decide +kernel,by decide +kernel⟩
theorem kO (F:Fun K "_law_put" "_law_put" d9 f fd):FnOk P w K mg base CX0 1 f fd ["sign","one","other"] fX:=by
  refine F.ok jm (fun vs H Q E h=>?_) (fun cdv A outer s H vs Q E hr h=>?_)
  · obtain ⟨a,g,b,rfl,_⟩:=h;rfl
  obtain ⟨a,g,b,rfl,ha,hb,q⟩:=h;refine ⟨_,(@ag _ _ _ _ _ (@aW _ _ _ _ _ _ _ _ (@aG _ _ _ _ _ _ _ _ bj (pv 0) br (ay _)) (@af _ _ _ (@ax _ _ _ _ (@ap _ _ _ _ _ _ _ _ aX (pv 1) (pv 2)))) aF) (@ag _ _ _ _ _ (@aW _ _ _ _ _ _ _ _ (@aG _ _ _ _ _ _ _ _ bj (pv 0) br (ay _)) (@af _ _ _ (@ax _ _ _ _ (@ap _ _ _ _ _ _ _ _ cB (pv 1) (pv 2)))) aF) (@af _ _ _ (@ax _ _ _ _ (@ap _ _ _ _ _ _ _ _ eQ (pv 1) (pv 2)))))),?_⟩;cases g with
  | plus=>exact ⟨_,rfl,rfl,_,rfl,hU rfl ⟨_,rfl,_,rfl,_,_,rfl,rfl,q⟩⟩
  | minus=>exact ⟨_,rfl,rfl,_,rfl,fG (by decide +kernel) ⟨_,rfl,rfl,_,rfl,hU rfl ⟨_,rfl,_,rfl,_,_,rfl,rfl,q⟩⟩⟩
  | times=>exact ⟨_,rfl,rfl,_,rfl,fG (by decide +kernel) ⟨_,rfl,rfl,_,rfl,fG (by decide +kernel) ⟨_,rfl,_,rfl,_,_,rfl,rfl,⟨ha,hb⟩,q⟩⟩⟩
def fh:Sp:=fun vs H Q _=>∃ (r:Addr) (ns:List Int) (gs:List Sg),vs=[.ref r,.str (ar gs)]∧H r=some (.lst (ns.map V.int))∧1≤ns.length∧ns.length≤9∧1≤gs.length∧gs.length≤3∧e9 ns ∧
  ∀ pb kvs E H',Same H H'→H pb=none→H' pb=some (.dT kvs)→BtIn E H' (aC ns.length) kvs→BdQ E (aC ns.length)→Q (.ref pb) H'
abbrev cK:Stmt:=top 30
theorem aU:FnScope ["row","signs","found","j","i","some","k","one","other"] ["row","signs"] (ao cK):=⟨rfl,rfl,rfl,by decide +kernel,rfl,by decide +kernel,by decide +kernel⟩
theorem gO (F:Fun K "_law_bounds" "_law_bounds" cK f fd) (B:Bu K mg) (C__law_put:Cal P w K mg base "_law_put" 1 ["sign","one","other"] fX):FnOk P w K mg base CX0 2 f fd ["row","signs"] fh:=by
  refine F.ok aU (fun vs H Q E h=>?_) (fun cdv A outer s H vs Q E hr h=>?_)
  · obtain ⟨r,ns,gs,rfl,_⟩:=h;rfl
  obtain ⟨r,ns,gs,rfl,er,h1,h9,g1,g3,sm,q⟩:=h;refine ⟨_,(@ag _ _ _ _ _ (@aE _ _ (2) _ _ _ _ (aU).nd rfl (Or.inl rfl) jA (by rfl) (by first|exact .inl rfl|exact .inr rfl|assumption)) (@ag _ _ _ _ _ (@bd _ _ _ _ _ _ _ _ aaC rfl (@bp _ _ _ _ _ _ rfl B.irange (@aa _ _ _ _ _ (@ah _ _ _ _ _ _ _ _ _ aD rfl B.ilen aaL (@aa _ _ _ _ _ (pv 0) ac (by rfl)) (by decide) (by decide) (by rfl) (by rfl)) ac (by rfl)) (by rfl)) (@am _ _ (3) _ (aU).nd rfl (Or.inl rfl) (.inl rfl)) (@af _ _ _ (@bd _ _ _ _ _ _ _ _ aaC rfl (@gZ _ _ _ _ _ _ _ _ rfl B.irange (@aa _ _ _ _ _ (pv 3) (@aa _ _ _ _ _ (@gg _ _ _ _ _ _ dU ae) (@aa _ _ _ _ _ (@gg _ _ _ _ _ _ dU ae) ac (by rfl)) (by rfl)) (by rfl)) (by rfl) (by rfl)) (@am _ _ (4) _ (aU).nd rfl (Or.inl rfl) (.inl rfl)) (@ag _ _ _ _ _ (@aE _ _ (5) _ _ _ _ (aU).nd rfl (Or.inl rfl) (@ap _ _ _ _ _ _ _ _ iF (@aN _ _ _ _ (@aa _ _ _ _ _ (@bi _ _ _ _ _ _ _ ix_list (pv 0) (pv 4) (fun _ _=>rfl)) ac (by rfl))) (@a5 _ _ _ _ _ _ _ _ _ bP rfl B.iint aaS (@aa _ _ _ _ _ (@aQ _ _ _ _ _ _ _ _ bj (pv 4) (pv 3) (ay _)) ac (by rfl)) (by decide) (by decide) (by rfl) (by rfl))) (by rfl) (by first|exact .inl rfl|exact .inr rfl|assumption)) (@ag _ _ _ _ _ (@bd _ _ _ _ _ _ _ _ aaC rfl (@ci _ _ _ _ _ _ _ rfl B.irange (@aa _ _ _ _ _ (pv 4) (@aa _ _ _ _ _ (pv 3) ac (by rfl)) (by rfl)) (by rfl) (by rfl)) (@am _ _ (6) _ (aU).nd rfl (Or.inl rfl) (.inl rfl)) (@af _ _ _ (@bd _ _ _ _ _ _ _ _ aaC rfl (@cZ _ _ _ _ (@dI _ _ _ _ _ _ (u1 hr.units) (pv 2) (@au _ _ _ _ _ (@aa _ _ _ _ _ (pv 4) (@aa _ _ _ _ _ (pv 6) ac (by rfl)) (by rfl))) (fun _ _=>rfl))) (@am _ _ (7) _ (aU).nd rfl (Or.inr rfl) (.inl rfl)) (@af _ _ _ (@bd _ _ _ _ _ _ _ _ aaC rfl (@cZ _ _ _ _ (@dI _ _ _ _ _ _ (u1 hr.units) (pv 2) (@au _ _ _ _ _ (@aa _ _ _ _ _ (@ap _ _ _ _ _ _ _ _ aX (pv 6) ae) (@aa _ _ _ _ _ (pv 3) ac (by rfl)) (by rfl))) (fun _ _=>rfl))) (@am _ _ (8) _ (aU).nd rfl (Or.inr rfl) (.inl rfl)) (@af _ _ _ (@bQ _ _ _ _ (@jC _ _ _ _ _ _ _ _ _ _ _ _ abt ab9 aca fu (pv 5) (@aa _ _ _ _ _ (@cF _ _ _ _ _ _ _ _ (["sign","one","other"]) ([none,some 7,some 8]) _ _ _ _ rfl (@iB _ _ _ _ (pv 1)) rfl ⟨rfl,⟨rfl,trivial⟩⟩ ⟨⟨rfl,Or.inl rfl,Or.inl rfl⟩,⟨⟨rfl,Or.inl rfl,Or.inl rfl⟩,trivial⟩⟩ (fun _ _ _ _=>⟨(@am _ _ (0) _ (show aaZ (["sign","one","other"]:List Str) by decide +kernel) rfl (Or.inl rfl) (.inr rfl)),aY,(@aq _ _ _ _ _ _ _ _ _ _ _ C__law_put hr (by lia) rfl (@aa _ _ _ _ _ (pv 0) (@aa _ _ _ _ _ (pv 1) (@aa _ _ _ _ _ (pv 2) ac (by rfl)) (by rfl)) (by rfl)) (by decide) (by rfl) (by rfl))⟩) (by rfl) (by rfl) (by rfl) (by rfl) (by intro _;rfl)) ac (by rfl)) (by rfl) (by rfl) (by rfl) (by rfl) (by rfl)) (by rfl))) (by intro _;rfl))) (by intro _;rfl))) (by intro _;rfl)) (@af _ _ _ (@lZ _ _ _ _ _ _ _ _ _ (u1 hr.units) (pv 2) (@au _ _ _ _ _ (@aa _ _ _ _ _ (pv 4) (@aa _ _ _ _ _ (pv 3) ac (by rfl)) (by rfl))) (@au _ _ _ _ _ (@aa _ _ _ _ _ (@ah _ _ _ _ _ _ _ _ _ (@dL _ rfl) rfl B.imin abC (@aa _ _ _ _ _ (pv 5) ac (by rfl)) (by decide) (by decide) (by rfl) (by rfl)) (@aa _ _ _ _ _ (@ah _ _ _ _ _ _ _ _ _ (@dO _ rfl) rfl B.imax abX (@aa _ _ _ _ _ (pv 5) ac (by rfl)) (by decide) (by decide) (by rfl) (by rfl)) ac (by rfl)) (by rfl))) rfl)))) (by intro _;rfl))) (by intro _;rfl)) (@af _ _ _ (@ax _ _ _ _ (pv 2))))),?_⟩;have hl:(ns.map V.int).length=ns.length:=aab _;have gne:gs≠[]:=fun z=>by rw [z] at g1;simp at g1
  have t2:(2:Nat)≤sizeLine:=by decide
  have nd:=db ns.length h9;intro d nD;have S2:=Same.new nD (.dT []);have e2:upd H d (.dT []) d=some (.dT []):=ad;have nDH:=nD;generalize upd H d (.dT [])=H2 at S2 e2 ⊢;have nrd:r≠d:=aj er nDH;refine ⟨_,rfl,r,_,rfl,.inl (SqL.of (S2 _ _ er)),_,rfl,by lia,by lia,?_⟩;rw [hl];refine a9 (n:=((ns.length:Nat):Int).toNat) (fun j σ H'=>∃ (kvs:List (List Key × V)) (E:Int × Int→Int × Int) (c3 c4 c5 c6 c7 c8:Option V),σ=[some (.ref r),some (.str (ar gs)),some (.ref d),c3,c4,c5,c6,c7,c8]∧Same H H'∧H' d=some (.dT kvs)∧BtIn E H' (aC j) kvs∧BdQ E (aC j)) ⟨[],fun _=>(0,0),_,_,_,_,_,_,rfl,S2,e2,.nil,fun q hq=>nomatch hq⟩ ?_ ?_
  · rintro j σ H3 hj ⟨kvs3,E3,c3,c4,c5,c6,c7,c8,rfl,S3,e3,hb3,hq3⟩;have ej:(0:Int)+(j:Int)=(j:Int):=by lia
    rw [ej];have hjn:j < ns.length:=by lia
    refine ⟨_,rfl,1,rfl,1,rfl,(j:Int),-1,rfl,⟨by lia,by lia,by decide,by decide⟩,?_⟩;have e4:((j:Int) - (-1)).toNat=j+1:=by lia
    refine dD (Trn.down (hi:=(j:Int)) (n:=((j:Int) - (-1)).toNat)) (fun a σ H'=>∃ (kvs:List (List Key × V)) (E:Int × Int→Int × Int) (c4 c5 c6 c7 c8:Option V),σ=[some (.ref r),some (.str (ar gs)),some (.ref d),some (.int (j:Int)),c4,c5,c6,c7,c8]∧Same H H'∧H' d=some (.dT kvs)∧BtIn E H' (aC j++(bg j).take a) kvs∧BdQ E (aC j++(bg j).take a)) ⟨kvs3,E3,_,_,_,_,_,rfl,S3,e3,by simpa using hb3,by simpa using hq3⟩ (fun _ _ _ _ _=>trivial) ?_ ?_
    · rintro a x σ H4 H4' ha ⟨rfl,rfl⟩ ⟨kvs,E,d4,d5,d6,d7,d8,rfl,S4,e5,hb5,hq5⟩;have ha':a < j+1:=by lia
      obtain ⟨q0,eq0⟩:∃ q0:Int × Int,q0=((j:Int) - (a:Int),(j:Int)):=⟨_,rfl⟩
      have q1:q0.1=(j:Int) - (a:Int):=by rw [eq0]
      have q2:q0.2=(j:Int):=by rw [eq0]
      obtain ⟨i0,hi0⟩:∃ i0:Int,(j:Int) - (a:Int)=i0:=⟨_,rfl⟩
      rw [hi0] at q1 eq0 ⊢;have i0a:0≤i0:=by lia
      have i0j:i0≤(j:Int):=by lia
      have hix:i0.toNat < ns.length:=by lia
      have eat:atI (ns.map V.int) i0=some (.int (ns.getD i0.toNat 0)):=by
        have h:atI (ns.map V.int) ((i0.toNat:Nat):Int)=some (.int (ns.getD i0.toNat 0)):=bS (by rw [aap,aac hix,aaP,aac hix];rfl)
        rwa [show ((i0.toNat:Nat):Int)=i0 by lia] at h
      have er4:=S4 _ _ er;refine ⟨_,rfl,_,rfl,r,_,_,_,rfl,rfl,SqL.of er4,eat,?_⟩;refine ⟨(by show 1≤sizeLine;decide),fun p1 n1=>⟨_,rfl,_,rfl,rfl,.inr ⟨_,rfl,p1,_,_,rfl,rfl,ad,by split <;> decide,by split <;> decide,(by split <;> first|(show 1 * 1≤sizeLine;decide)|(show 1 * 0≤sizeLine;decide)),fun ps nps=>?_⟩⟩⟩;obtain ⟨b0,hb0⟩:∃ b0:List Int,(if q0.1=q0.2 then [ns.getD q0.1.toNat 0] else [])=b0:=⟨_,rfl⟩
      have eb0:(aaF (if decide (V.int i0=V.int (j:Int))=true then (1:Int) else 0).toNat [V.int (ns.getD i0.toNat 0)]).flatten=b0.map V.int:=by
        rw [← hb0,q1,q2];by_cases c:i0=(j:Int)
        · rw [decide_eq_true (by rw [c]),if_pos c];rfl
        · rw [decide_eq_false (fun z=>c (by injection z)),if_neg c];rfl
      rw [eb0];have lb0:b0.length≤1:=by rw [← hb0];split <;> simp
      have s5:=(Same.new n1 (.lst [V.int (ns.getD i0.toNat 0)])).trans (Same.new nps (.lst (b0.map V.int)));have nps4:H4' ps=none:=(Same.new n1 (.lst [V.int (ns.getD i0.toNat 0)])).free nps;have e6:upd (upd H4' p1 (.lst [V.int (ns.getD i0.toNat 0)])) ps (.lst (b0.map V.int)) ps=some (.lst (b0.map V.int)):=ad;generalize upd (upd H4' p1 (.lst [V.int (ns.getD i0.toNat 0)])) ps (.lst (b0.map V.int))=H5 at s5 e6 ⊢;have nDs:d≠ps:=aj e5 nps4;have hR:(bg j)[a]?=some q0:=by
        unfold bg;rw [aap,aa1 ha',eq0,← hi0];rfl
      have prefixT:∀ b,(aC j++(bg j).take b).Nodup:=fun b=>by
        have hjr:(abd ns.length)[j]?=some j:=aa1 hjn;have hp:=jv (f:=bg) hjr (List.take_prefix b (bg j));have e:((abd ns.length).take j).flatMap bg=aC j:=by
          unfold aC;rw [abT,abV (by lia)]
        rw [e] at hp;exact abO hp.sublist nd
      have TT:∀ {H':Hp},But ps H5 H'→Tups H4' H':=fun {H'} b c xs hc=>b _ _ (aj hc nps4) (s5 _ _ hc);have look:∀ {H':Hp} {q':Int × Int} {k:Addr},But ps H5 H'→q'∈aC j++(bg j).take a→H' k=some (.tup [.int q'.1,.int q'.2])→∃ t,DGet H' d (.ref k) (some (.ref t))∧H' t=some (.tup [.int (E q').1,.int (E q').2]):=fun {H' q' k} b hm hk=>by
        obtain ⟨t,v1,v2⟩:=(BtIn.mono (TT b) hb5).get (prefixT a) hm;refine ⟨t,?_,v2⟩;rw [← v1];exact DGet.t (k:=ky q') (b _ _ nDs (s5 _ _ e5)) hk
      refine ⟨_,rfl,_,rfl,i0,(j:Int),rfl,⟨by lia,by lia,by lia,by lia⟩,?_⟩;refine a9 (n:=((j:Int) - i0).toNat) (fun c σ H'=>∃ (xs:List Int) (c6 c7 c8:Option V),σ=[some (.ref r),some (.str (ar gs)),some (.ref d),some (.int (j:Int)),some (.int i0),some (.ref ps),c6,c7,c8]∧But ps H5 H'∧H' ps=some (.lst (xs.map V.int))∧xs.length≤1+c * 12∧xs=b0++((bh q0).take c).flatMap fun c=>(two (E (q0.1,c))).flatMap fun x=>(two (E (c+1,q0.2))).flatMap fun y=>a6 gs x y) ⟨b0,_,_,_,rfl,But.refl,e6,by lia,by simp⟩ ?_ ?_
      · rintro c σ H6 hc ⟨xs6,f6,f7,f8,rfl,b6,ep6,l6,x6⟩;have hcut:(bh q0)[c]?=some (i0+(c:Int)):=by
          unfold bh;rw [aap,aa1 (by rw [q1,q2];lia),q1];rfl
        obtain ⟨cv,hcv⟩:∃ cv:Int,i0+(c:Int)=cv:=⟨_,rfl⟩
        rw [hcv] at hcut ⊢;have cv1:i0≤cv:=by lia
        have cv2:cv < (j:Int):=by lia
        refine ⟨_,rfl,_,rfl,_,rfl,t2,fun k1 nk1=>?_⟩;have sk1:=Same.new nk1 (.tup [.int i0,.int cv]);have ep7:=sk1 _ _ ep6;have ek1:upd H6 k1 (.tup [.int i0,.int cv]) k1=_:=ad;have b7:=b6.trans (But.of sk1);generalize upd H6 k1 (.tup [.int i0,.int cv])=H7 at b7 ep7 ek1 ⊢;obtain ⟨v1,dg1,ev1⟩:=look (q':=(i0,cv)) b7 (aaT _ (cA i0a cv1 cv2)) ek1;refine ⟨d,_,rfl,dg1,v1,rfl,⟨_,SqT.of ev1⟩,?_⟩;have nv1p:v1≠ps:=fun e=>by rw [e,ep7] at ev1;cases ev1
        have m2:(cv+1,(j:Int))∈aC j++(bg j).take a:=by
          refine aat _ ?_;unfold bg;rw [← acz,abT,abV (by lia)];refine aal.mpr ⟨((j:Int) - (cv+1)).toNat,aaH.mpr (by lia),?_⟩;congr 1;lia
        obtain ⟨bs1,bs2⟩:=hq5.lt (q:=(i0,cv)) (aaT _ (cA i0a cv1 cv2)) i0a (by simp only;lia);obtain ⟨bt1,bt2⟩:=hq5.lt (q:=(cv+1,(j:Int))) m2 (by simp only;lia) (by simp only;lia);obtain ⟨E1,hE1⟩:∃ E1,E (i0,cv)=E1:=⟨_,rfl⟩
        obtain ⟨E2,hE2⟩:∃ E2,E (cv+1,(j:Int))=E2:=⟨_,rfl⟩
        rw [hE1] at bs1 bs2 ev1;rw [hE2] at bt1 bt2;have fin:∀ {xs:List Int},xs=xs6++((two E1).flatMap fun x=>(two E2).flatMap fun y=>a6 gs x y)→xs=b0++((bh q0).take (c+1)).flatMap fun c=>(two (E (q0.1,c))).flatMap fun x=>(two (E (c+1,q0.2))).flatMap fun y=>a6 gs x y:=fun {xs} e=>by
          rw [a_ hcut,← aaw,← x6,e,q1,q2,hE1,hE2]
        refine dD (Trn.tup (xs:=[V.int E1.1,V.int E1.2])) (fun o σ H'=>∃ (xs:List Int) (c7 c8:Option V),σ=[some (.ref r),some (.str (ar gs)),some (.ref d),some (.int (j:Int)),some (.int i0),some (.ref ps),some (.int cv),c7,c8]∧But ps H7 H'∧H' ps=some (.lst (xs.map V.int))∧xs.length≤1+c * 12+o * 6∧xs=xs6++((two E1).take o).flatMap fun x=>(two E2).flatMap fun y=>a6 gs x y) ⟨xs6,_,_,rfl,But.refl,ep7,by lia,by simp⟩ ?_ ?_ ?_
        · rintro o σ H8 _ ⟨xs8,_,_,rfl,b8,_⟩;exact SqT.of (b8 _ _ nv1p ev1)
        · rintro o x σ H8 H8' ho ⟨rfl,hx⟩ ⟨xs8,c7,c8,rfl,b8,ep8,l8,x8⟩;have ho2:o < 2:=ho;obtain ⟨xv,hxv,rfl,bxv⟩:∃ xv,(two E1)[o]?=some xv∧x=V.int xv∧xv.natAbs < 2 ^ 4000:=by
            have : o=0∨o=1:=by lia
            rcases this with rfl|rfl
            · exact ⟨_,rfl,(aas hx).symm,bs1⟩
            · exact ⟨_,rfl,(aas hx).symm,bs2⟩
          refine ⟨_,rfl,_,rfl,_,_,rfl,rfl,_,rfl,t2,fun k2 nk2=>?_⟩;have sk2:=Same.new nk2 (.tup [.int (cv+1),.int (j:Int)]);have ep9:=sk2 _ _ ep8;have ek2:upd H8' k2 (.tup [.int (cv+1),.int (j:Int)]) k2=_:=ad;have b9:=b8.trans (But.of sk2);generalize upd H8' k2 (.tup [.int (cv+1),.int (j:Int)])=H9 at b9 ep9 ek2 ⊢;obtain ⟨v2,dg2,ev2⟩:=look (q':=(cv+1,(j:Int))) (b7.trans b9) m2 ek2;rw [hE2] at ev2;refine ⟨d,_,rfl,dg2,v2,rfl,⟨_,SqT.of ev2⟩,?_⟩;have nv2p:v2≠ps:=fun e=>by rw [e,ep9] at ev2;cases ev2
          refine dD (Trn.tup (xs:=[V.int E2.1,V.int E2.2])) (fun u σ H'=>∃ (xs:List Int) (c8:Option V),σ=[some (.ref r),some (.str (ar gs)),some (.ref d),some (.int (j:Int)),some (.int i0),some (.ref ps),some (.int cv),some (.int xv),c8]∧But ps H9 H'∧H' ps=some (.lst (xs.map V.int))∧xs.length≤1+c * 12+o * 6+u * 3∧xs=xs8++((two E2).take u).flatMap fun y=>a6 gs xv y) ⟨xs8,_,rfl,But.refl,ep9,by lia,by simp⟩ ?_ ?_ ?_
          · rintro u σ H8 _ ⟨xs8,_,rfl,b8,_⟩;exact SqT.of (b8 _ _ nv2p ev2)
          · rintro u y σ Ha Ha' hu ⟨rfl,hy⟩ ⟨xsa,c8,rfl,ba,epa,la,xa⟩;have hu2:u < 2:=hu;obtain ⟨yv,hyv,rfl,byv⟩:∃ yv,(two E2)[u]?=some yv∧y=V.int yv∧yv.natAbs < 2 ^ 4000:=by
              have : u=0∨u=1:=by lia
              rcases this with rfl|rfl
              · exact ⟨_,rfl,(aas hy).symm,bt1⟩
              · exact ⟨_,rfl,(aas hy).symm,bt2⟩
            refine ⟨_,rfl,.inl ⟨rfl,_,SqL.of epa⟩,_,rfl,_,rfl,cR gs,?_⟩;refine cN (Trn.str (z:=ar gs)) (fun i ys H'=>H'=Ha'∧ys=((gs.take i).map fun g=>V.int (g.op xv yv))) ⟨rfl,rfl⟩ (fun i ys H' hi z=>⟨trivial,?_⟩) (fun i x ys H1 H' hi it z Nx nx=>?_) (fun ys H' z p9 n9=>?_)
            · rw [z.2,aab,aaJ];exact aB (by lia)
            · obtain ⟨rfl,rfl⟩:=z;obtain ⟨rfl,cc,hcc,rfl⟩:=it;obtain ⟨g,hg,rfl⟩:=lT hcc;refine ⟨_,rfl,_,rfl,_,rfl,xv,g,yv,by rw [bT];rfl,bxv,byv,nx _ _ ⟨rfl,?_⟩⟩;rw [aaA,hg,aaM];rfl
            · obtain ⟨rfl,rfl⟩:=z;have s9:=Same.new n9 (.lst ((gs.take (ar gs).cps.size).map fun g=>V.int (g.op xv yv)));have ez:(gs.take (ar gs).cps.size).map (fun g=>V.int (g.op xv yv))=(a6 gs xv yv).map V.int:=by
                rw [eB,abf];unfold a6;rw [aaD];rfl
              have lg:(a6 gs xv yv).length=gs.length:=by unfold a6;rw [aab]
              refine ⟨ps,p9,_,_,rfl,rfl,s9 _ _ epa,ad,?_,?_⟩
              · rw [ez,aab,aab,lg];exact abz (aB (by lia))
              · rw [ez] at s9 ⊢;refine ⟨xsa++a6 gs xv yv,_,rfl,?_,by rw [aaM];exact ad,?_,?_⟩
                · intro b o hb e;rw [ak hb];exact s9 _ _ (ba _ _ hb e)
                · rw [aav,lg];lia
                · rw [a_ hyv,xa,aaw]
          · rintro σ Ha ⟨xsa,c8,rfl,ba,epa,la,xa⟩;refine ⟨xsa,_,_,rfl,b9.trans ba,epa,?_,?_⟩
            · have la:xsa.length≤1+c * 12+o * 6+2 * 3:=la;lia
            · rw [xa,a_ hxv,x8,aaw];rfl
        · rintro σ H8 ⟨xs8,c7,c8,rfl,b8,ep8,l8,x8⟩;refine ⟨xs8,_,_,_,rfl,b7.trans b8,ep8,?_,fin x8⟩;have l8:xs8.length≤1+c * 12+2 * 6:=l8;lia
      · rintro σ H6 ⟨xs6,f6,f7,f8,rfl,b6,ep6,l6,x6⟩;have q12:q0.1≤q0.2:=by rw [q1,q2];lia
        have x6:xs6=fnE E ns gs q0:=by
          rw [x6,aaY (by rw [show (bh q0).length=(q0.2 - q0.1).toNat by simp [bh],q1,q2];lia),← fB,← hb0];rfl
        have hne:xs6≠[]:=by rw [x6];exact kZ gne q12
        refine ⟨_,rfl,ps,xs6,rfl,SqL.of ep6,hne,fun m hm hmin=>⟨_,rfl,ps,xs6,rfl,SqL.of ep6,hne,fun M hM hmax=>⟨t2,fun tv ntv=>?_⟩⟩⟩;have stv:=Same.new ntv (.tup [.int m,.int M]);refine ⟨_,rfl,_,rfl,_,rfl,t2,fun tk ntk=>?_⟩;have stk:=Same.new ntk (.tup [.int i0,.int (j:Int)]);have b8:=b6.trans (But.of (stv.trans stk));have etv:=stk _ _ (ad (H:=H6) (a:=tv) (o:=.tup [.int m,.int M]));have etk:upd (upd H6 tv (.tup [.int m,.int M])) tk (.tup [.int i0,.int (j:Int)]) tk=some (.tup ((ky q0).map kV)):=by rw [ad,eq0];rfl
        generalize upd (upd H6 tv (.tup [.int m,.int M])) tk (.tup [.int i0,.int (j:Int)])=H8 at b8 etv etk ⊢;have ed8:=b8 _ _ nDs (s5 _ _ e5);have lk:=aar hb5;have pl:(aC j++(bg j).take a).length≤100:=by
          have z1:=dz j (by lia);have z2:((bg j).take a).length≤10:=by rw [aaJ];simp [bg];lia
          rw [aav];lia
        have eN:ky q0∉kvs.map (·.1):=fun z=>by
          rw [hb5.keys] at z;obtain ⟨q',hq',e⟩:=aal.mp z;rw [iU e] at hq';have:=prefixT (a+1);rw [aaA,hR,← aaw] at this;exact (acm.mp this).2.2 _ hq' q0 (by simp) rfl
        refine ⟨d,_,rfl,DPut.t (k:=ky q0) ed8 etk (aB (by lia)),?_⟩;rw [gf eN];have up8:∀ b o,b≠d→H8 b=some o→upd H8 d (.dT (kvs++[(ky q0,.ref tv)])) b=some o:=fun b o hb e=>by rw [ak hb];exact e
        have qn:q0∉aC j++(bg j).take a:=fun z=>by
          have:=prefixT (a+1);rw [aaA,hR,← aaw] at this;exact (acm.mp this).2.2 _ z q0 (by simp) rfl
        have bE:=o6 (E:=E) (gs:=gs) sm (by rw [q1];exact i0a) q12 (by rw [q2];lia) hq5 (fun c hc=>by
          obtain ⟨c1,c2⟩:=fS hc;rw [q1] at c1 ⊢;rw [q2] at c2 ⊢;refine ⟨aaT _ (cA i0a c1 c2),aat _ ?_⟩;unfold bg;rw [← acz,abT,abV (by lia)];refine aal.mpr ⟨((j:Int) - (c+1)).toNat,aaH.mpr (by lia),?_⟩;congr 1;lia)
        rw [← x6] at bE;refine ⟨_,kB E q0 (m,M),_,_,_,_,_,rfl,?_,ad,?_,?_⟩
        · intro b o e;exact up8 _ _ (aj e nDH) (b8 _ _ (aj e (S4.free nps4)) (s5 _ _ (S4 _ _ e)))
        · rw [aaA,hR,← aaw];refine BtIn.put (BtIn.mono (fun b xs e=>up8 _ _ (fun z=>by rw [z,e5] at e;cases e) (TT b8 _ _ e)) hb5) qn ?_;exact up8 _ _ (fun z=>by rw [z,ed8] at etv;cases etv) etv
        · rw [aaA,hR,← aaw];exact hq5.put (aaG (by lia) (bE m hm)) (aaG (by lia) (bE M hM))
    · rintro σ H4 ⟨kvs,E,d4,d5,d6,d7,d8,rfl,S4,e5,hb5,hq5⟩;rw [e4,aaY (by simp [bg]),← fm] at hb5 hq5;exact ⟨kvs,E,_,_,_,_,_,_,rfl,S4,e5,hb5,hq5⟩
  · rintro σ H3 ⟨kvs3,E3,c3,c4,c5,c6,c7,c8,rfl,S3,e3,hb3,hq3⟩;rw [abH] at hb3 hq3;exact ⟨_,rfl,q d kvs3 E3 H3 S3 nDH e3 hb3 hq3⟩
open PySem L2
def iq:Sp:=fun vs H Q _=>∃ (wl r:Addr) (ns:List Int) (gs:List Sg),vs=[.ref wl,.ref r,.str (ar gs)]∧Pot H wl∧r≠wl∧H r=some (.lst (ns.map V.int))∧1≤ns.length∧ns.length≤9∧1≤gs.length∧gs.length≤3∧e9 ns ∧
  ∀ pb kvs E H',But wl H H'→Pot H' wl→H pb=none→H' pb=some (.dT kvs)→BtIn E H' (aC ns.length) kvs→BdQ E (aC ns.length)→Q (.ref pb) H'
abbrev cX:Stmt:=top 33
theorem aJ:FnScope ["pot","row","signs","found","j","i","some","k","one","other","less","more"] ["pot","row","signs"] (ao cX):=⟨rfl,rfl,rfl,by decide +kernel,rfl,by decide +kernel,by decide +kernel⟩
theorem iJ (F:Fun K "_law_loose" "_law_loose" cX f fd) (B:Bu K mg) (C__law_take:Cal P w K mg base "_law_take" 2 ["pot","many"] dh) (C__law_put:Cal P w K mg base "_law_put" 1 ["sign","one","other"] fX):FnOk P w K mg base CX0 3 f fd ["pot","row","signs"] iq:=by
  refine F.ok aJ (fun vs H Q E h=>?_) (fun cdv A outer s H vs Q E hr h=>?_)
  · obtain ⟨wl,r,ns,gs,rfl,_⟩:=h;rfl
  obtain ⟨wl,r,ns,gs,rfl,hP,nrw,er,h1,h9,g1,g3,sm,q⟩:=h;refine ⟨_,(@ag _ _ _ _ _ (@aE _ _ (3) _ _ _ _ (aJ).nd rfl (Or.inl rfl) jA (by rfl) (by first|exact .inl rfl|exact .inr rfl|assumption)) (@ag _ _ _ _ _ (@bd _ _ _ _ _ _ _ _ aaC rfl (@bp _ _ _ _ _ _ rfl B.irange (@aa _ _ _ _ _ (@ah _ _ _ _ _ _ _ _ _ aD rfl B.ilen aaL (@aa _ _ _ _ _ (pv 1) ac (by rfl)) (by decide) (by decide) (by rfl) (by rfl)) ac (by rfl)) (by rfl)) (@am _ _ (4) _ (aJ).nd rfl (Or.inl rfl) (.inl rfl)) (@af _ _ _ (@bd _ _ _ _ _ _ _ _ aaC rfl (@gZ _ _ _ _ _ _ _ _ rfl B.irange (@aa _ _ _ _ _ (pv 4) (@aa _ _ _ _ _ (@gg _ _ _ _ _ _ dU ae) (@aa _ _ _ _ _ (@gg _ _ _ _ _ _ dU ae) ac (by rfl)) (by rfl)) (by rfl)) (by rfl) (by rfl)) (@am _ _ (5) _ (aJ).nd rfl (Or.inl rfl) (.inl rfl)) (@ag _ _ _ _ _ (@aE _ _ (6) _ _ _ _ (aJ).nd rfl (Or.inl rfl) (@ap _ _ _ _ _ _ _ _ iF (@aN _ _ _ _ (@aa _ _ _ _ _ (@bi _ _ _ _ _ _ _ ix_list (pv 1) (pv 5) (fun _ _=>rfl)) ac (by rfl))) (@a5 _ _ _ _ _ _ _ _ _ bP rfl B.iint aaS (@aa _ _ _ _ _ (@aQ _ _ _ _ _ _ _ _ bj (pv 5) (pv 4) (ay _)) ac (by rfl)) (by decide) (by decide) (by rfl) (by rfl))) (by rfl) (by first|exact .inl rfl|exact .inr rfl|assumption)) (@ag _ _ _ _ _ (@bd _ _ _ _ _ _ _ _ aaC rfl (@ci _ _ _ _ _ _ _ rfl B.irange (@aa _ _ _ _ _ (pv 5) (@aa _ _ _ _ _ (pv 4) ac (by rfl)) (by rfl)) (by rfl) (by rfl)) (@am _ _ (7) _ (aJ).nd rfl (Or.inl rfl) (.inl rfl)) (@af _ _ _ (@bd _ _ _ _ _ _ _ _ aaC rfl (@cZ _ _ _ _ (@dI _ _ _ _ _ _ (u1 hr.units) (pv 3) (@au _ _ _ _ _ (@aa _ _ _ _ _ (pv 5) (@aa _ _ _ _ _ (pv 7) ac (by rfl)) (by rfl))) (fun _ _=>rfl))) (@am _ _ (8) _ (aJ).nd rfl (Or.inr rfl) (.inl rfl)) (@af _ _ _ (@bd _ _ _ _ _ _ _ _ aaC rfl (@cZ _ _ _ _ (@dI _ _ _ _ _ _ (u1 hr.units) (pv 3) (@au _ _ _ _ _ (@aa _ _ _ _ _ (@ap _ _ _ _ _ _ _ _ aX (pv 7) ae) (@aa _ _ _ _ _ (pv 4) ac (by rfl)) (by rfl))) (fun _ _=>rfl))) (@am _ _ (9) _ (aJ).nd rfl (Or.inr rfl) (.inl rfl)) (@af _ _ _ (@bQ _ _ _ _ (@jC _ _ _ _ _ _ _ _ _ _ _ _ abt ab9 aca fu (pv 6) (@aa _ _ _ _ _ (@cF _ _ _ _ _ _ _ _ (["sign","one","other"]) ([none,some 8,some 9]) _ _ _ _ rfl (@iB _ _ _ _ (pv 2)) rfl ⟨rfl,⟨rfl,trivial⟩⟩ ⟨⟨rfl,Or.inl rfl,Or.inl rfl⟩,⟨⟨rfl,Or.inl rfl,Or.inl rfl⟩,trivial⟩⟩ (fun _ _ _ _=>⟨(@am _ _ (0) _ (show aaZ (["sign","one","other"]:List Str) by decide +kernel) rfl (Or.inl rfl) (.inr rfl)),aY,(@aq _ _ _ _ _ _ _ _ _ _ _ C__law_put hr (by lia) rfl (@aa _ _ _ _ _ (pv 0) (@aa _ _ _ _ _ (pv 1) (@aa _ _ _ _ _ (pv 2) ac (by rfl)) (by rfl)) (by rfl)) (by decide) (by rfl) (by rfl))⟩) (by rfl) (by rfl) (by rfl) (by rfl) (by intro _;rfl)) ac (by rfl)) (by rfl) (by rfl) (by rfl) (by rfl) (by rfl)) (by rfl))) (by intro _;rfl))) (by intro _;rfl))) (by intro _;rfl)) (@ag _ _ _ _ _ (@aE _ _ (10) _ _ _ _ (aJ).nd rfl (Or.inl rfl) (@ap _ _ _ _ _ _ _ _ cC (@aq _ _ _ _ _ _ _ _ _ _ _ C__law_take hr (by lia) rfl (@aa _ _ _ _ _ (pv 0) (@aa _ _ _ _ _ ae ac (by rfl)) (by rfl)) (by decide) (by rfl) (by rfl)) (@a5 _ _ _ _ _ _ _ _ _ bP rfl B.iint aaS (@aa _ _ _ _ _ (@aQ _ _ _ _ _ _ _ _ bj (@aq _ _ _ _ _ _ _ _ _ _ _ C__law_take hr (by lia) rfl (@aa _ _ _ _ _ (pv 0) (@aa _ _ _ _ _ ae ac (by rfl)) (by rfl)) (by decide) (by rfl) (by rfl)) ae (ay _)) ac (by rfl)) (by decide) (by decide) (by rfl) (by rfl))) (by rfl) (by first|exact .inl rfl|exact .inr rfl|assumption)) (@ag _ _ _ _ _ (@aE _ _ (11) _ _ _ _ (aJ).nd rfl (Or.inl rfl) (@ap _ _ _ _ _ _ _ _ cC (@aq _ _ _ _ _ _ _ _ _ _ _ C__law_take hr (by lia) rfl (@aa _ _ _ _ _ (pv 0) (@aa _ _ _ _ _ ae ac (by rfl)) (by rfl)) (by decide) (by rfl) (by rfl)) (@a5 _ _ _ _ _ _ _ _ _ bP rfl B.iint aaS (@aa _ _ _ _ _ (@aQ _ _ _ _ _ _ _ _ bj (@aq _ _ _ _ _ _ _ _ _ _ _ C__law_take hr (by lia) rfl (@aa _ _ _ _ _ (pv 0) (@aa _ _ _ _ _ ae ac (by rfl)) (by rfl)) (by decide) (by rfl) (by rfl)) ae (ay _)) ac (by rfl)) (by decide) (by decide) (by rfl) (by rfl))) (by rfl) (by first|exact .inl rfl|exact .inr rfl|assumption)) (@af _ _ _ (@lZ _ _ _ _ _ _ _ _ _ (u1 hr.units) (pv 3) (@au _ _ _ _ _ (@aa _ _ _ _ _ (pv 5) (@aa _ _ _ _ _ (pv 4) ac (by rfl)) (by rfl))) (@au _ _ _ _ _ (@aa _ _ _ _ _ (@ap _ _ _ _ _ _ _ _ cB (@ah _ _ _ _ _ _ _ _ _ (@dL _ rfl) rfl B.imin abC (@aa _ _ _ _ _ (pv 6) ac (by rfl)) (by decide) (by decide) (by rfl) (by rfl)) (pv 10)) (@aa _ _ _ _ _ (@ap _ _ _ _ _ _ _ _ aX (@ah _ _ _ _ _ _ _ _ _ (@dO _ rfl) rfl B.imax abX (@aa _ _ _ _ _ (pv 6) ac (by rfl)) (by decide) (by decide) (by rfl) (by rfl)) (pv 11)) ac (by rfl)) (by rfl))) rfl)))))) (by intro _;rfl))) (by intro _;rfl)) (@af _ _ _ (@ax _ _ _ _ (pv 3))))),?_⟩;have hl:(ns.map V.int).length=ns.length:=aab _;have gne:gs≠[]:=fun z=>by rw [z] at g1;simp at g1
  have t2:(2:Nat)≤sizeLine:=by decide
  have nd:=db ns.length h9;intro d nD;have S2:=Same.new nD (.dT []);have e2:upd H d (.dT []) d=some (.dT []):=ad;have nDH:=nD;generalize upd H d (.dT [])=H2 at S2 e2 ⊢;have nrd:r≠d:=aj er nDH;refine ⟨_,rfl,r,_,rfl,.inl (SqL.of (S2 _ _ er)),_,rfl,by lia,by lia,?_⟩;rw [hl];refine a9 (n:=((ns.length:Nat):Int).toNat) (fun j σ H'=>∃ (kvs:List (List Key × V)) (E:Int × Int→Int × Int) (c3 c4 c5 c6 c7 c8 c9 ca:Option V),σ=[some (.ref wl),some (.ref r),some (.str (ar gs)),some (.ref d),c3,c4,c5,c6,c7,c8,c9,ca]∧But wl H H'∧Pot H' wl∧H' d=some (.dT kvs)∧BtIn E H' (aC j) kvs∧BdQ E (aC j)) ⟨[],fun _=>(0,0),_,_,_,_,_,_,_,_,rfl,But.of S2,hP.keep S2,e2,.nil,fun q hq=>nomatch hq⟩ ?_ ?_
  · rintro j σ H3 hj ⟨kvs3,E3,c3,c4,c5,c6,c7,c8,c9,ca,rfl,S3,P3,e3,hb3,hq3⟩;have ej:(0:Int)+(j:Int)=(j:Int):=by lia
    rw [ej];have hjn:j < ns.length:=by lia
    refine ⟨_,rfl,1,rfl,1,rfl,(j:Int),-1,rfl,⟨by lia,by lia,by decide,by decide⟩,?_⟩;have e4:((j:Int) - (-1)).toNat=j+1:=by lia
    refine dD (Trn.down (hi:=(j:Int)) (n:=((j:Int) - (-1)).toNat)) (fun a σ H'=>∃ (kvs:List (List Key × V)) (E:Int × Int→Int × Int) (c4 c5 c6 c7 c8 c9 ca:Option V),σ=[some (.ref wl),some (.ref r),some (.str (ar gs)),some (.ref d),some (.int (j:Int)),c4,c5,c6,c7,c8,c9,ca]∧But wl H H'∧Pot H' wl∧H' d=some (.dT kvs)∧BtIn E H' (aC j++(bg j).take a) kvs∧BdQ E (aC j++(bg j).take a)) ⟨kvs3,E3,_,_,_,_,_,_,_,rfl,S3,P3,e3,by simpa using hb3,by simpa using hq3⟩ (fun _ _ _ _ _=>trivial) ?_ ?_
    · rintro a x σ H4 H4' ha ⟨rfl,rfl⟩ ⟨kvs,E,d4,d5,d6,d7,d8,g9,ga,rfl,S4,P4,e5,hb5,hq5⟩;have ha':a < j+1:=by lia
      obtain ⟨q0,eq0⟩:∃ q0:Int × Int,q0=((j:Int) - (a:Int),(j:Int)):=⟨_,rfl⟩
      have q1:q0.1=(j:Int) - (a:Int):=by rw [eq0]
      have q2:q0.2=(j:Int):=by rw [eq0]
      obtain ⟨i0,hi0⟩:∃ i0:Int,(j:Int) - (a:Int)=i0:=⟨_,rfl⟩
      rw [hi0] at q1 eq0 ⊢;have i0a:0≤i0:=by lia
      have i0j:i0≤(j:Int):=by lia
      have hix:i0.toNat < ns.length:=by lia
      have eat:atI (ns.map V.int) i0=some (.int (ns.getD i0.toNat 0)):=by
        have h:atI (ns.map V.int) ((i0.toNat:Nat):Int)=some (.int (ns.getD i0.toNat 0)):=bS (by rw [aap,aac hix,aaP,aac hix];rfl)
        rwa [show ((i0.toNat:Nat):Int)=i0 by lia] at h
      have er4:=S4 _ _ nrw er;refine ⟨_,rfl,_,rfl,r,_,_,_,rfl,rfl,SqL.of er4,eat,?_⟩;refine ⟨(by show 1≤sizeLine;decide),fun p1 n1=>⟨_,rfl,_,rfl,rfl,.inr ⟨_,rfl,p1,_,_,rfl,rfl,ad,by split <;> decide,by split <;> decide,(by split <;> first|(show 1 * 1≤sizeLine;decide)|(show 1 * 0≤sizeLine;decide)),fun ps nps=>?_⟩⟩⟩;obtain ⟨b0,hb0⟩:∃ b0:List Int,(if q0.1=q0.2 then [ns.getD q0.1.toNat 0] else [])=b0:=⟨_,rfl⟩
      have eb0:(aaF (if decide (V.int i0=V.int (j:Int))=true then (1:Int) else 0).toNat [V.int (ns.getD i0.toNat 0)]).flatten=b0.map V.int:=by
        rw [← hb0,q1,q2];by_cases c:i0=(j:Int)
        · rw [decide_eq_true (by rw [c]),if_pos c];rfl
        · rw [decide_eq_false (fun z=>c (by injection z)),if_neg c];rfl
      rw [eb0];have lb0:b0.length≤1:=by rw [← hb0];split <;> simp
      have s5:=(Same.new n1 (.lst [V.int (ns.getD i0.toNat 0)])).trans (Same.new nps (.lst (b0.map V.int)));have nps4:H4' ps=none:=(Same.new n1 (.lst [V.int (ns.getD i0.toNat 0)])).free nps;have e6:upd (upd H4' p1 (.lst [V.int (ns.getD i0.toNat 0)])) ps (.lst (b0.map V.int)) ps=some (.lst (b0.map V.int)):=ad;generalize upd (upd H4' p1 (.lst [V.int (ns.getD i0.toNat 0)])) ps (.lst (b0.map V.int))=H5 at s5 e6 ⊢;have nDs:d≠ps:=aj e5 nps4;have hR:(bg j)[a]?=some q0:=by
        unfold bg;rw [aap,aa1 ha',eq0,← hi0];rfl
      have prefixT:∀ b,(aC j++(bg j).take b).Nodup:=fun b=>by
        have hjr:(abd ns.length)[j]?=some j:=aa1 hjn;have hp:=jv (f:=bg) hjr (List.take_prefix b (bg j));have e:((abd ns.length).take j).flatMap bg=aC j:=by
          unfold aC;rw [abT,abV (by lia)]
        rw [e] at hp;exact abO hp.sublist nd
      have TT:∀ {H':Hp},But ps H5 H'→Tups H4' H':=fun {H'} b c xs hc=>b _ _ (aj hc nps4) (s5 _ _ hc);have look:∀ {H':Hp} {q':Int × Int} {k:Addr},But ps H5 H'→q'∈aC j++(bg j).take a→H' k=some (.tup [.int q'.1,.int q'.2])→∃ t,DGet H' d (.ref k) (some (.ref t))∧H' t=some (.tup [.int (E q').1,.int (E q').2]):=fun {H' q' k} b hm hk=>by
        obtain ⟨t,v1,v2⟩:=(BtIn.mono (TT b) hb5).get (prefixT a) hm;refine ⟨t,?_,v2⟩;rw [← v1];exact DGet.t (k:=ky q') (b _ _ nDs (s5 _ _ e5)) hk
      refine ⟨_,rfl,_,rfl,i0,(j:Int),rfl,⟨by lia,by lia,by lia,by lia⟩,?_⟩;refine a9 (n:=((j:Int) - i0).toNat) (fun c σ H'=>∃ (xs:List Int) (c6 c7 c8:Option V),σ=[some (.ref wl),some (.ref r),some (.str (ar gs)),some (.ref d),some (.int (j:Int)),some (.int i0),some (.ref ps),c6,c7,c8,g9,ga]∧But ps H5 H'∧H' ps=some (.lst (xs.map V.int))∧xs.length≤1+c * 12∧xs=b0++((bh q0).take c).flatMap fun c=>(two (E (q0.1,c))).flatMap fun x=>(two (E (c+1,q0.2))).flatMap fun y=>a6 gs x y) ⟨b0,_,_,_,rfl,But.refl,e6,by lia,by simp⟩ ?_ ?_
      · rintro c σ H6 hc ⟨xs6,f6,f7,f8,rfl,b6,ep6,l6,x6⟩;have hcut:(bh q0)[c]?=some (i0+(c:Int)):=by
          unfold bh;rw [aap,aa1 (by rw [q1,q2];lia),q1];rfl
        obtain ⟨cv,hcv⟩:∃ cv:Int,i0+(c:Int)=cv:=⟨_,rfl⟩
        rw [hcv] at hcut ⊢;have cv1:i0≤cv:=by lia
        have cv2:cv < (j:Int):=by lia
        refine ⟨_,rfl,_,rfl,_,rfl,t2,fun k1 nk1=>?_⟩;have sk1:=Same.new nk1 (.tup [.int i0,.int cv]);have ep7:=sk1 _ _ ep6;have ek1:upd H6 k1 (.tup [.int i0,.int cv]) k1=_:=ad;have b7:=b6.trans (But.of sk1);generalize upd H6 k1 (.tup [.int i0,.int cv])=H7 at b7 ep7 ek1 ⊢;obtain ⟨v1,dg1,ev1⟩:=look (q':=(i0,cv)) b7 (aaT _ (cA i0a cv1 cv2)) ek1;refine ⟨d,_,rfl,dg1,v1,rfl,⟨_,SqT.of ev1⟩,?_⟩;have nv1p:v1≠ps:=fun e=>by rw [e,ep7] at ev1;cases ev1
        have m2:(cv+1,(j:Int))∈aC j++(bg j).take a:=by
          refine aat _ ?_;unfold bg;rw [← acz,abT,abV (by lia)];refine aal.mpr ⟨((j:Int) - (cv+1)).toNat,aaH.mpr (by lia),?_⟩;congr 1;lia
        obtain ⟨bs1,bs2⟩:=hq5.lt (q:=(i0,cv)) (aaT _ (cA i0a cv1 cv2)) i0a (by simp only;lia);obtain ⟨bt1,bt2⟩:=hq5.lt (q:=(cv+1,(j:Int))) m2 (by simp only;lia) (by simp only;lia);obtain ⟨E1,hE1⟩:∃ E1,E (i0,cv)=E1:=⟨_,rfl⟩
        obtain ⟨E2,hE2⟩:∃ E2,E (cv+1,(j:Int))=E2:=⟨_,rfl⟩
        rw [hE1] at bs1 bs2 ev1;rw [hE2] at bt1 bt2;have fin:∀ {xs:List Int},xs=xs6++((two E1).flatMap fun x=>(two E2).flatMap fun y=>a6 gs x y)→xs=b0++((bh q0).take (c+1)).flatMap fun c=>(two (E (q0.1,c))).flatMap fun x=>(two (E (c+1,q0.2))).flatMap fun y=>a6 gs x y:=fun {xs} e=>by
          rw [a_ hcut,← aaw,← x6,e,q1,q2,hE1,hE2]
        refine dD (Trn.tup (xs:=[V.int E1.1,V.int E1.2])) (fun o σ H'=>∃ (xs:List Int) (c7 c8:Option V),σ=[some (.ref wl),some (.ref r),some (.str (ar gs)),some (.ref d),some (.int (j:Int)),some (.int i0),some (.ref ps),some (.int cv),c7,c8,g9,ga]∧But ps H7 H'∧H' ps=some (.lst (xs.map V.int))∧xs.length≤1+c * 12+o * 6∧xs=xs6++((two E1).take o).flatMap fun x=>(two E2).flatMap fun y=>a6 gs x y) ⟨xs6,_,_,rfl,But.refl,ep7,by lia,by simp⟩ ?_ ?_ ?_
        · rintro o σ H8 _ ⟨xs8,_,_,rfl,b8,_⟩;exact SqT.of (b8 _ _ nv1p ev1)
        · rintro o x σ H8 H8' ho ⟨rfl,hx⟩ ⟨xs8,c7,c8,rfl,b8,ep8,l8,x8⟩;have ho2:o < 2:=ho;obtain ⟨xv,hxv,rfl,bxv⟩:∃ xv,(two E1)[o]?=some xv∧x=V.int xv∧xv.natAbs < 2 ^ 4000:=by
            have : o=0∨o=1:=by lia
            rcases this with rfl|rfl
            · exact ⟨_,rfl,(aas hx).symm,bs1⟩
            · exact ⟨_,rfl,(aas hx).symm,bs2⟩
          refine ⟨_,rfl,_,rfl,_,_,rfl,rfl,_,rfl,t2,fun k2 nk2=>?_⟩;have sk2:=Same.new nk2 (.tup [.int (cv+1),.int (j:Int)]);have ep9:=sk2 _ _ ep8;have ek2:upd H8' k2 (.tup [.int (cv+1),.int (j:Int)]) k2=_:=ad;have b9:=b8.trans (But.of sk2);generalize upd H8' k2 (.tup [.int (cv+1),.int (j:Int)])=H9 at b9 ep9 ek2 ⊢;obtain ⟨v2,dg2,ev2⟩:=look (q':=(cv+1,(j:Int))) (b7.trans b9) m2 ek2;rw [hE2] at ev2;refine ⟨d,_,rfl,dg2,v2,rfl,⟨_,SqT.of ev2⟩,?_⟩;have nv2p:v2≠ps:=fun e=>by rw [e,ep9] at ev2;cases ev2
          refine dD (Trn.tup (xs:=[V.int E2.1,V.int E2.2])) (fun u σ H'=>∃ (xs:List Int) (c8:Option V),σ=[some (.ref wl),some (.ref r),some (.str (ar gs)),some (.ref d),some (.int (j:Int)),some (.int i0),some (.ref ps),some (.int cv),some (.int xv),c8,g9,ga]∧But ps H9 H'∧H' ps=some (.lst (xs.map V.int))∧xs.length≤1+c * 12+o * 6+u * 3∧xs=xs8++((two E2).take u).flatMap fun y=>a6 gs xv y) ⟨xs8,_,rfl,But.refl,ep9,by lia,by simp⟩ ?_ ?_ ?_
          · rintro u σ H8 _ ⟨xs8,_,rfl,b8,_⟩;exact SqT.of (b8 _ _ nv2p ev2)
          · rintro u y σ Ha Ha' hu ⟨rfl,hy⟩ ⟨xsa,c8,rfl,ba,epa,la,xa⟩;have hu2:u < 2:=hu;obtain ⟨yv,hyv,rfl,byv⟩:∃ yv,(two E2)[u]?=some yv∧y=V.int yv∧yv.natAbs < 2 ^ 4000:=by
              have : u=0∨u=1:=by lia
              rcases this with rfl|rfl
              · exact ⟨_,rfl,(aas hy).symm,bt1⟩
              · exact ⟨_,rfl,(aas hy).symm,bt2⟩
            refine ⟨_,rfl,.inl ⟨rfl,_,SqL.of epa⟩,_,rfl,_,rfl,cR gs,?_⟩;refine cN (Trn.str (z:=ar gs)) (fun i ys H'=>H'=Ha'∧ys=((gs.take i).map fun g=>V.int (g.op xv yv))) ⟨rfl,rfl⟩ (fun i ys H' hi z=>⟨trivial,?_⟩) (fun i x ys H1 H' hi it z Nx nx=>?_) (fun ys H' z p9 n9=>?_)
            · rw [z.2,aab,aaJ];exact aB (by lia)
            · obtain ⟨rfl,rfl⟩:=z;obtain ⟨rfl,cc,hcc,rfl⟩:=it;obtain ⟨g,hg,rfl⟩:=lT hcc;refine ⟨_,rfl,_,rfl,_,rfl,xv,g,yv,by rw [bT];rfl,bxv,byv,nx _ _ ⟨rfl,?_⟩⟩;rw [aaA,hg,aaM];rfl
            · obtain ⟨rfl,rfl⟩:=z;have s9:=Same.new n9 (.lst ((gs.take (ar gs).cps.size).map fun g=>V.int (g.op xv yv)));have ez:(gs.take (ar gs).cps.size).map (fun g=>V.int (g.op xv yv))=(a6 gs xv yv).map V.int:=by
                rw [eB,abf];unfold a6;rw [aaD];rfl
              have lg:(a6 gs xv yv).length=gs.length:=by unfold a6;rw [aab]
              refine ⟨ps,p9,_,_,rfl,rfl,s9 _ _ epa,ad,?_,?_⟩
              · rw [ez,aab,aab,lg];exact abz (aB (by lia))
              · rw [ez] at s9 ⊢;refine ⟨xsa++a6 gs xv yv,_,rfl,?_,by rw [aaM];exact ad,?_,?_⟩
                · intro b o hb e;rw [ak hb];exact s9 _ _ (ba _ _ hb e)
                · rw [aav,lg];lia
                · rw [a_ hyv,xa,aaw]
          · rintro σ Ha ⟨xsa,c8,rfl,ba,epa,la,xa⟩;refine ⟨xsa,_,_,rfl,b9.trans ba,epa,?_,?_⟩
            · have la:xsa.length≤1+c * 12+o * 6+2 * 3:=la;lia
            · rw [xa,a_ hxv,x8,aaw];rfl
        · rintro σ H8 ⟨xs8,c7,c8,rfl,b8,ep8,l8,x8⟩;refine ⟨xs8,_,_,_,rfl,b7.trans b8,ep8,?_,fin x8⟩;have l8:xs8.length≤1+c * 12+2 * 6:=l8;lia
      · rintro σ H6 ⟨xs6,f6,f7,f8,rfl,b6,ep6,l6,x6⟩;have q12:q0.1≤q0.2:=by rw [q1,q2];lia
        have x6:xs6=fnE E ns gs q0:=by
          rw [x6,aaY (by rw [show (bh q0).length=(q0.2 - q0.1).toNat by simp [bh],q1,q2];lia),← fB,← hb0];rfl
        have hne:xs6≠[]:=by rw [x6];exact kZ gne q12
        have nwps:wl≠ps:=by obtain ⟨a1,c1,k1,e⟩:=P4;exact aj e nps4
        have P6:Pot H6 wl:=by obtain ⟨a1,c1,k1,e⟩:=P4;exact ⟨a1,c1,k1,b6 _ _ nwps (s5 _ _ e)⟩
        have ndw:d≠wl:=fun z=>by obtain ⟨a1,c1,k1,e⟩:=P4;rw [← z,e5] at e;cases e
        have mul01:∀ (r1:Int) (c:Bool),0≤r1→r1 < 3→0≤r1 * (if c=true then 1 else 0)∧r1 * (if c=true then 1 else 0) < 3:=fun r1 c a b=>by cases c <;> simp <;> lia
        refine ⟨_,rfl,wl,3,rfl,by decide,by decide,P6,fun r1 Ha a0 a3 Ba Pa=>⟨_,rfl,wl,5,rfl,by decide,by decide,Pa,fun r2 Hb _ _ Bb Pb=>⟨rfl,.inr ⟨_,rfl,_,_,rfl,rfl,.inl ⟨by lia,by lia⟩,?_⟩⟩⟩⟩;obtain ⟨x0,x3⟩:=mul01 r1 (decide (V.int r2=V.int 0)) a0 a3;obtain ⟨ls,hls⟩:∃ ls,r1 * (if decide (V.int r2=V.int 0)=true then (1:Int) else 0)=ls:=⟨_,rfl⟩
        rw [hls] at x0 x3;show mx 10 (V.int (r1 * (if decide (V.int r2=V.int 0)=true then (1:Int) else 0))) _ Hb _;rw [hls];refine ⟨_,rfl,wl,3,rfl,by decide,by decide,Pb,fun r3 Hc a0' a3' Bc Pc=>⟨_,rfl,wl,5,rfl,by decide,by decide,Pc,fun r4 H7 _ _ Bd P7=>⟨rfl,.inr ⟨_,rfl,_,_,rfl,rfl,.inl ⟨by lia,by lia⟩,?_⟩⟩⟩⟩;obtain ⟨y0,y3⟩:=mul01 r3 (decide (V.int r4=V.int 0)) a0' a3';obtain ⟨mr,hmr⟩:∃ mr,r3 * (if decide (V.int r4=V.int 0)=true then (1:Int) else 0)=mr:=⟨_,rfl⟩
        rw [hmr] at y0 y3;show mx 11 (V.int (r3 * (if decide (V.int r4=V.int 0)=true then (1:Int) else 0))) _ H7 _;rw [hmr];have B7:But wl H6 H7:=((Ba.trans Bb).trans Bc).trans Bd;have ep7:=B7 _ _ (abF nwps) ep6;refine ⟨_,rfl,ps,xs6,rfl,SqL.of ep7,hne,fun m hm hmin=>⟨_,rfl,_,_,rfl,rfl,_,rfl,ps,xs6,rfl,SqL.of ep7,hne,fun M hM hmax=>⟨_,rfl,_,_,rfl,rfl,t2,fun tv ntv=>?_⟩⟩⟩;have stv:=Same.new ntv (.tup [.int (m - ls),.int (M+mr)]);refine ⟨_,rfl,_,rfl,_,rfl,t2,fun tk ntk=>?_⟩;have stk:=Same.new ntk (.tup [.int i0,.int (j:Int)]);have b8:=stv.trans stk;have etv:=stk _ _ (ad (H:=H7) (a:=tv) (o:=.tup [.int (m - ls),.int (M+mr)]));have etk:upd (upd H7 tv (.tup [.int (m - ls),.int (M+mr)])) tk (.tup [.int i0,.int (j:Int)]) tk=some (.tup ((ky q0).map kV)):=by rw [ad,eq0];rfl
        generalize upd (upd H7 tv (.tup [.int (m - ls),.int (M+mr)])) tk (.tup [.int i0,.int (j:Int)])=H8 at b8 etv etk ⊢;have P8:Pot H8 wl:=P7.keep b8;have all8:∀ b o,b≠wl→b≠ps→H5 b=some o→H8 b=some o:=fun b o n1 n2 e=>b8 _ _ (B7 _ _ n1 (b6 _ _ n2 e));have ed8:=all8 _ _ ndw nDs (s5 _ _ e5);have lk:=aar hb5;have pl:(aC j++(bg j).take a).length≤100:=by
          have z1:=dz j (by lia);have z2:((bg j).take a).length≤10:=by rw [aaJ];simp [bg];lia
          rw [aav];lia
        have qn:q0∉aC j++(bg j).take a:=fun z=>by
          have:=prefixT (a+1);rw [aaA,hR,← aaw] at this;exact (acm.mp this).2.2 _ z q0 (by simp) rfl
        have eN:ky q0∉kvs.map (·.1):=fun z=>by
          rw [hb5.keys] at z;obtain ⟨q',hq',e⟩:=aal.mp z;rw [iU e] at hq';exact qn hq'
        refine ⟨d,_,rfl,DPut.t (k:=ky q0) ed8 etk (aB (by lia)),?_⟩;rw [gf eN];have up8:∀ b o,b≠d→H8 b=some o→upd H8 d (.dT (kvs++[(ky q0,.ref tv)])) b=some o:=fun b o hb e=>by rw [ak hb];exact e
        have bE:=o6 (E:=E) (gs:=gs) sm (by rw [q1];exact i0a) q12 (by rw [q2];lia) hq5 (fun c hc=>by
          obtain ⟨c1,c2⟩:=fS hc;rw [q1] at c1 ⊢;rw [q2] at c2 ⊢;refine ⟨aaT _ (cA i0a c1 c2),aat _ ?_⟩;unfold bg;rw [← acz,abT,abV (by lia)];refine aal.mpr ⟨((j:Int) - (c+1)).toNat,aaH.mpr (by lia),?_⟩;congr 1;lia)
        rw [← x6] at bE;refine ⟨_,kB E q0 (m - ls,M+mr),_,_,_,_,_,_,_,rfl,?_,?_,ad,?_,?_⟩
        · intro b o nb e;exact up8 _ _ (aj e nDH) (all8 _ _ nb (fun z=>by rw [z] at nb e;have:=S4 _ _ nb e;rw [nps4] at this;cases this) (s5 _ _ (S4 _ _ nb e)))
        · obtain ⟨a1,c1,k1,e⟩:=P8;exact ⟨a1,c1,k1,up8 _ _ (abF ndw) e⟩
        · rw [aaA,hR,← aaw];refine BtIn.put (BtIn.mono (fun b xs e=>up8 _ _ (fun z=>by rw [z,e5] at e;cases e) (all8 _ _ (fun z=>by obtain ⟨a1,c1,k1,e'⟩:=P4;rw [z,e'] at e;cases e) (aj e nps4) (s5 _ _ e))) hb5) qn ?_;exact up8 _ _ (fun z=>by rw [z,ed8] at etv;cases etv) etv
        · rw [aaA,hR,← aaw];exact hq5.put (by have:=bE m hm;lia) (by have:=bE M hM;lia)
    · rintro σ H4 ⟨kvs,E,d4,d5,d6,d7,d8,g9,ga,rfl,S4,P4,e5,hb5,hq5⟩;rw [e4,aaY (by simp [bg]),← fm] at hb5 hq5;exact ⟨kvs,E,_,_,_,_,_,_,_,_,rfl,S4,P4,e5,hb5,hq5⟩
  · rintro σ H3 ⟨kvs3,E3,c3,c4,c5,c6,c7,c8,c9,ca,rfl,S3,P3,e3,hb3,hq3⟩;rw [abH] at hb3 hq3;exact ⟨_,rfl,q d kvs3 E3 H3 S3 P3 nDH e3 hb3 hq3⟩
end
open PySem L2
theorem iY {E:Int × Int→Int × Int} {H:Hp} {qs:List (Int × Int)} {kvs:List (List Key × V)} (h:BtIn E H qs kvs):∃ kI:List (List Int × V),kvs=kI.map (fun p=>(p.1.map Sum.inl,p.2))∧kI.map (·.1)=qs.map (fun q=>[q.1,q.2]) ∧
    Paired (fun (q:Int × Int) (e:List Int × V)=>Dat H (.tuple [.int (E q).1,.int (E q).2]) e.2) qs kI:=by
  unfold BtIn at h
  induction h with
  | nil=>exact ⟨[],rfl,rfl,.nil⟩
  | @cons q kv qs kvs h t ih =>
    obtain ⟨kI,e1,e2,e3⟩:=ih;obtain ⟨h1,t,h2,h3⟩:=h;refine ⟨([q.1,q.2],kv.2) :: kI,by rw [e1,aad];congr 1;obtain ⟨a,b⟩:=kv;simp only at h1 ⊢;rw [h1];rfl,by rw [aad,aad,e2],.cons ?_ e3⟩;simp only [Dat,DatAll];exact ⟨t,_,h2,h3,_,_,rfl,rfl,_,_,rfl,rfl,rfl⟩
def ppE (E:Int × Int→Int × Int) (qs:List (Int × Int)):PPa:=qs.map fun q=>(.tup [q.1,q.2],.tuple [.int (E q).1,.int (E q).2])
theorem mH {w:World} {E:Int × Int→Int × Int} {H:Hp} {a:Addr} {qs:List (Int × Int)} {kvs:List (List Key × V)} (ha:H a=some (.dT kvs)) (h:BtIn E H qs kvs):PaIn w H a (ppE E qs):=by
  obtain ⟨kI,rfl,e2,e3⟩:=iY h;refine ⟨_,.inl ⟨kI,ha,rfl⟩,?_⟩;have go:∀ {qs:List (Int × Int)} {kI:List (List Int × V)},kI.map (·.1)=qs.map (fun q=>[q.1,q.2])→Paired (fun (q:Int × Int) (e:List Int × V)=>Dat H (.tuple [.int (E q).1,.int (E q).2]) e.2) qs kI→Paired (fun (p:MK × PyData) (e:MK × V)=>p.1=e.1∧Dat H p.2 e.2) (ppE E qs) (kI.map fun p=>(.tup p.1,p.2)):=by
    intro qs kI e p
    induction p with
    | nil=>exact .nil
    | @cons q k qs ks h t ih =>
      rw [aad,aad] at e;injection e with e1 e2
      exact .cons ⟨congrArg MK.tup e1.symm,h⟩ (ih e2)
  exact go e2 e3
def hT (ks:List Int):Int:=reduceHash (abE (ks.map hashInt))
theorem oA:∀ n m,n≤m→(aC n).Sublist (aC m):=by
  intro n m h
  induction m with
  | zero=>rw [Nat.le_zero.mp h];exact List.Sublist.refl _
  | succ m ih =>
    by_cases e:n=m+1
    · rw [e];exact List.Sublist.refl _
    · rw [fm];exact (ih (by lia)).trans (List.sublist_append_left _ _)
theorem sW:((aC 9).map fun q=>hT [q.1,q.2]).Nodup:=by decide +kernel
theorem nj {n:Nat} (h:n≤9):((aC n).map fun q=>hT [q.1,q.2]).Nodup:=abO ((oA n 9 h).map _) sW
def Sm (d:PyData):Prop:=OkX d∧szX d≤6∧d.depth≤2
def Good (G:Hp) (v:V):Prop:=∃ d,Dat G d v∧Sm d
theorem Good.mono {G G':Hp} (g:Same G G') {v:V} (h:Good G v):Good G' v:=by
  obtain ⟨d,h1,h2⟩:=h;exact ⟨d,Dat.mono g _ _ h1,h2⟩
def At0 (v:V):Prop:=v=.non∨(∃ b,v=.bl b)∨(∃ i,v=.int i∧i.natAbs < 10 ^ 280)∨∃ z,v=.str z∧(reprText z).length≤3000
theorem i9 {v:V} (h:At0 v):∃ d,(∀ G,Dat G d v)∧OkX d∧szX d=1∧d.depth=0:=by
  rcases h with rfl|⟨b,rfl⟩|⟨i,rfl,hi⟩|⟨z,rfl,hz⟩
  · exact ⟨.none,fun G=>by simp only [Dat],by simp only [OkX],by simp [szX],by simp [aaX]⟩
  · exact ⟨.bool b,fun G=>by simp only [Dat],by simp only [OkX],by simp [szX],by simp [aaX]⟩
  · exact ⟨.int i,fun G=>by simp only [Dat],by simp only [OkX];exact hi,by simp [szX],by simp [aaX]⟩
  · exact ⟨.str z,fun G=>by simp only [Dat],by simp only [OkX];exact hz,by simp [szX],by simp [aaX]⟩
theorem cG {G:Hp} {v:V} (h:At0 v):Good G v:=by
  obtain ⟨d,h1,h2,h3,h4⟩:=i9 h;exact ⟨d,h1 G,h2,by lia,by lia⟩
theorem kg:∀ {xs:List V},(∀ x∈xs,At0 x)→∃ ds,(∀ G,DatAll G ds xs)∧OkXs ds∧szXs ds=xs.length∧aaW ds=0
  | [],_=>⟨[],fun G=>by simp only [DatAll],by simp only [OkXs],by simp [szXs],by simp [aaW]⟩
  | x :: xs,h=>by
    obtain ⟨d,h1,h2,h3,h4⟩:=i9 (h x aaq);obtain ⟨ds,k1,k2,k3,k4⟩:=kg (xs:=xs) fun y hy=>h y (aak _ hy);refine ⟨d :: ds,fun G=>by simp only [DatAll];exact ⟨_,_,rfl,h1 G,k1 G⟩,by simp only [OkXs];exact ⟨h2,k2⟩,by simp only [szXs,aaN];lia,by simp only [aaW];lia⟩
theorem az {G:Hp} {p:Addr} {xs:List V} (h:G p=some (.tup xs)∨G p=some (.lst xs)) (hl:xs.length≤4) (hx:∀ x∈xs,At0 x):Good G (.ref p):=by
  obtain ⟨ds,k1,k2,k3,k4⟩:=kg hx;rcases h with h|h
  · exact ⟨.tuple ds,by simp only [Dat];exact ⟨p,xs,rfl,h,k1 G⟩,by simp only [OkX];exact k2,by simp only [szX];lia,by simp only [aaX];lia⟩
  · exact ⟨.list ds,by simp only [Dat];exact ⟨p,xs,rfl,h,k1 G⟩,by simp only [OkX];exact k2,by simp only [szX];lia,by simp only [aaX];lia⟩
theorem qj {G:Hp} {p:Addr} (h:G p=some (.dK [])):Good G (.ref p):=⟨.dict [],by simp only [Dat,DatKv];exact ⟨p,[],rfl,h,rfl⟩,by simp only [OkX,OkKv],by simp [szX,szKv],by simp [aaX,ab4]⟩
def VOk (G:Hp) (ks:List KEn):Prop:=∀ e∈ks,Good G e.2.1∧Good G e.2.2
theorem VOk.mono {G G':Hp} (g:Same G G') {ks:List KEn} (h:VOk G ks):VOk G' ks:=fun e he=>⟨(h e he).1.mono g,(h e he).2.mono g⟩
theorem VOk.put {G:Hp} {ks:List KEn} {k:MK} {y v:V} (h:VOk G ks) (hy:Good G y) (hv:Good G v):VOk G (bK ks k y v):=fun e he=>by
  rcases js he with ⟨e0,h0,e1,e2,e3⟩|rfl
  · rw [e2];refine ⟨(h _ h0).1,?_⟩;rcases e3 with e3|e3
    · rw [e3];exact (h _ h0).2
    · rw [e3];exact hv
  · exact ⟨hy,hv⟩
theorem VOk.drop {G:Hp} {ks:List KEn} {k:MK} (h:VOk G ks):VOk G (cD ks k):=fun e he=>h e (acD.mp he).1
def bv (w z:Addr) (H:Hp):Hp:=off z (off w H)
theorem iQ {w z b:Addr} {H:Hp} (h:b≠w) (h2:b≠z):bv w z H b=H b:=(fq h2).trans (fq h)
theorem bV {w z:Addr} {H H':Hp} (b:But w H H'):Same (bv w z H) (bv w z H'):=fun c o h=>by
  unfold bv off at h ⊢;by_cases c1:c=z
  · rw [if_pos c1] at h;cases h
  · rw [if_neg c1] at h ⊢;by_cases c2:c=w
    · rw [if_pos c2] at h;cases h
    · rw [if_neg c2] at h ⊢;exact b c o c2 h
theorem cg {w z:Addr} {H:Hp}:Same (bv w z H) H:=off_le.trans off_le
theorem cj {w z:Addr} {H H':Hp} (g:Same H H'):Same (bv w z H) (bv w z H'):=bV (But.of g)
theorem iP {w z c:Addr} {H:Hp} {o:HO} (h:bv w z H c=some o):c≠w∧c≠z:=by
  constructor <;> intro e <;> subst e <;> unfold bv off at h
  · by_cases c1:c=z
    · rw [if_pos c1] at h;cases h
    · rw [if_neg c1,if_pos rfl] at h;cases h
  · rw [if_pos rfl] at h;cases h
theorem eS {w z:Addr} {H:Hp} {o:HO}:bv w z (upd H z o)=bv w z H:=by
  funext b;unfold bv off;by_cases c:b=z
  · rw [if_pos c,if_pos c]
  · rw [if_neg c,if_neg c,ak c]
structure Al (wl T:Addr) (H0 H:Hp) (L:List (Addr × HO)):Prop where
  same:Same H0 H
  well:∃ o,H0 wl=some o
  tab:∃ o,H0 T=some o
  has:∀ x∈L,bv wl T H x.1=some x.2
theorem Al.new {wl T:Addr} {H0 H:Hp} {L:List (Addr × HO)} (A:Al wl T H0 H L) {p:Addr} (n:H p=none) (o:HO):Al wl T H0 (upd H p o) ((p,o) :: L) :=
  ⟨A.same.trans (Same.new n o),A.well,A.tab,fun x hx=>by
    rcases aai.mp hx with rfl|hx
    · obtain ⟨_,e1⟩:=A.well;obtain ⟨_,e2⟩:=A.tab;exact (iQ (abF (aj (A.same _ _ e1) n)) (abF (aj (A.same _ _ e2) n))).trans ad
    · exact cj (Same.new n _) _ _ (A.has x hx)⟩
theorem Al.at {wl T:Addr} {H0 H:Hp} {L:List (Addr × HO)} (A:Al wl T H0 H L) (i:Nat) {x:Addr × HO} (h:L[i]?=some x):bv wl T H x.1=some x.2:=A.has x (aay h)
theorem Al.up {wl T:Addr} {H0 H:Hp} {L:List (Addr × HO)} (A:Al wl T H0 H L) (i:Nat) {x:Addr × HO} (h:L[i]?=some x):H x.1=some x.2:=cg _ _ (A.at i h)
theorem DmIn.but {w:World} {H H':Hp} {wl d:Addr} {ks:List KEn} (b:But wl H H') (hp:Pot H wl) (hn:d≠wl) (h:DmIn w H d ks):DmIn w H' d ks :=
  ⟨b _ _ hn h.at_,fun p hp'=>(h.keys p hp').mono (hp.tups b),h.nd,h.len⟩
theorem iE {H:Hp} {E:Int × Int→Int × Int} {qs:List (Int × Int)} {es:List (MK × V)} (h:Paired (fun (p:MK × PyData) (e:MK × V)=>p.1=e.1∧Dat H p.2 e.2) (ppE E qs) es) (k:MK) :
    bn es k=none∨∃ q∈qs,k=.tup [q.1,q.2]∧∃ t,bn es k=some (.ref t)∧H t=some (.tup [.int (E q).1,.int (E q).2]):=by
  induction qs generalizing es with
  | nil=>cases h;exact .inl rfl
  | cons q qs ih =>
    cases h with
    | @cons _ e _ es h t =>
      by_cases c:e.1=k
      · right;have hd:=h.2;simp only [Dat,DatAll] at hd;obtain ⟨a,xs,e1,ha,_,_,rfl,rfl,_,_,rfl,rfl,rfl⟩:=hd;exact ⟨q,aaq,by rw [← c,← h.1],a,by rw [cq c,e1],ha⟩
      · rw [cr c];rcases ih t with h|⟨q',hq,r⟩
        · exact .inl h
        · exact .inr ⟨q',aak _ hq,r⟩
theorem fT {xs:List V} {r:Int} (h0:0≤r) (h1:r < xs.length):∃ x,atI xs r=some x∧x∈xs:=by
  have hlt:r.toNat < xs.length:=by lia
  refine ⟨xs[r.toNat],?_,abe hlt⟩;have h:atI xs ((r.toNat:Nat):Int)=some xs[r.toNat]:=bS (aac hlt)
  rwa [show ((r.toNat:Nat):Int)=r by lia] at h
theorem bf {z:Int} {B:Nat} (hB:B < 10 ^ 280) (h:z.natAbs≤B):At0 (.int z):=.inr (.inr (.inl ⟨z,rfl,aa6 h hB⟩))
theorem mK (b:Bool):At0 (.bl b):=.inr (.inl ⟨b,rfl⟩)
theorem gF:At0 .non:=.inl rfl
theorem i6 {z:Str} (h:(reprText z).length≤3000):At0 (.str z):=.inr (.inr (.inr ⟨z,rfl,h⟩))
theorem fU {a:V} (h:At0 a):∀ x∈[a],At0 x:=fun x hx=>by rw [aaI.mp hx];exact h
theorem aM {a b:V} (ha:At0 a) (hb:At0 b):∀ x∈[a,b],At0 x:=fun x hx=>by
  rcases aai.mp hx with rfl|hx
  · exact ha
  · exact fU hb x hx
theorem qr {a b c:V} (ha:At0 a) (hb:At0 b) (hc:At0 c):∀ x∈[a,b,c],At0 x:=fun x hx=>by
  rcases aai.mp hx with rfl|hx
  · exact ha
  · exact aM hb hc x hx
structure Bn (w:World) (wl d:Addr) (H H':Hp) (ks:List KEn):Prop where
  but:But wl H H'
  pot:Pot H' wl
  dm:DmIn w H' d ks
  vo:VOk (bv wl d H') ks
theorem Bn.put {w:World} {wl d:Addr} {H Hx:Hp} {ks:List KEn} {k:MK} {y v:V} (b:Bn w wl d H Hx ks) (nd:H d=none) (dw:d≠wl) (hk:MkIn Hx k y) (gy:Good (bv wl d Hx) y) (gv:Good (bv wl d Hx) v) (hl:ks.length < 900) :
    Bn w wl d H (upd Hx d (dmX w d (bK ks k y v))) (bK ks k y v) :=
  ⟨fun c o n e=>by rw [ak (aj e nd)];exact b.but c o n e,by obtain ⟨a1,c1,k1,e⟩:=b.pot;exact ⟨a1,c1,k1,by rw [ak (abF dw)];exact e⟩,b.dm.put v hk (by lia),by rw [eS];exact b.vo.put gy gv⟩
theorem Bn.drop {w:World} {wl d:Addr} {H Hx:Hp} {ks:List KEn} {k:MK} (b:Bn w wl d H Hx ks) (nd:H d=none) (dw:d≠wl):Bn w wl d H (upd Hx d (dmX w d (cD ks k))) (cD ks k) :=
  ⟨fun c o n e=>by rw [ak (aj e nd)];exact b.but c o n e,by obtain ⟨a1,c1,k1,e⟩:=b.pot;exact ⟨a1,c1,k1,by rw [ak (abF dw)];exact e⟩,b.dm.drop k,by rw [eS];exact b.vo.drop⟩
theorem Bn.same {w:World} {wl d:Addr} {H Hx Hy:Hp} {ks:List KEn} (b:Bn w wl d H Hx ks) (s:Same Hx Hy):Bn w wl d H Hy ks :=
  ⟨b.but.trans (But.of s),b.pot.keep s,b.dm.mono s,b.vo.mono (cj s)⟩
theorem Bn.step {w:World} {wl d:Addr} {H Hx Hy:Hp} {ks:List KEn} (b:Bn w wl d H Hx ks) (s:But wl Hx Hy) (p:Pot Hy wl) (dw:d≠wl):Bn w wl d H Hy ks :=
  ⟨b.but.trans s,p,DmIn.but s b.pot dw b.dm,b.vo.mono (bV s)⟩
theorem fC {n:Nat} (h:n≤9) {q:Int × Int} (hq:q∈aC n):bnd q≤10 ^ 270:=by
  unfold bnd;refine abp (by decide) ?_;unfold aC bg at hq;obtain ⟨j,hj,hq⟩:=List.mem_flatMap.mp hq;obtain ⟨a,ha,rfl⟩:=aal.mp hq;have h1:=aaH.mp hj;have h2:=aaH.mp ha;simp only;lia
theorem oP {P:Int × Int→V→Prop}:∀ {qs:List (Int × Int)} {kI:List (List Int × V)},kI.map (·.1)=qs.map (fun q=>[q.1,q.2])→Paired (fun (q:Int × Int) (e:List Int × V)=>P q e.2) qs kI→∀ p∈kI,∃ q∈qs,p.1=[q.1,q.2]∧P q p.2
  | _,_,_,.nil,p,hp=>nomatch hp
  | _,_,e,.cons h t,p,hp=>by
    rw [aad,aad] at e;injection e with e1 e2
    rcases aai.mp hp with rfl|hp
    · exact ⟨_,aaq,e1,h⟩
    · obtain ⟨q,hq,r⟩:=oP e2 t p hp;exact ⟨q,aak _ hq,r⟩
theorem kF {ks:List KEn} {e:KEn} (hn:(ks.map (·.1)).Nodup) (he:e∈ks):bn (rdE ks) e.1=some e.2.2:=by
  induction ks with
  | nil=>cases he
  | cons p ks ih =>
    rw [aad,aa2] at hn;show bn ((p.1,p.2.2) :: rdE ks) e.1=_;rcases aai.mp he with rfl|he
    · exact cq rfl
    · have : ¬ p.1=e.1:=fun z=>hn.1 (by rw [z];exact abu he);rw [cr this];exact ih hn.2 he
theorem iZ {C:Nat} (hC:C < 10 ^ 280) (h1:1≤C):∀ {ks:List Int} {xs:List V},BiL ks xs→(∀ k∈ks,k.natAbs≤C)→∀ x∈xs,At0 x
  | _,_,.nil,_,x,hx=>nomatch hx
  | _,_,.cons h t,hk,x,hx=>by
    rcases aai.mp hx with rfl|hx
    · rcases h with rfl|⟨b,rfl,_⟩
      · exact bf hC (hk _ aaq)
      · exact mK b
    · exact iZ hC h1 t (fun k hk'=>hk k (aak _ hk')) x hx
theorem j0 {wl d:Addr} {Hx:Hp} {k:MK} {ks:List Int} {y:V} {ph:HO} (hk:MkIn Hx k y) (e:k=.tup ks) (hb:∀ i∈ks,i.natAbs≤100) (hl:ks.length≤4) (hp:Pot Hx wl) (hd:Hx d=some ph) (hn:∀ xs,ph≠.tup xs):Good (bv wl d Hx) y:=by
  subst e;obtain ⟨b,xs,rfl,h,bl⟩:=hk;have n1:b≠wl:=fun z=>by obtain ⟨_,_,_,e⟩:=hp;rw [z,e] at h;cases h
  have n2:b≠d:=fun z=>by rw [z,hd] at h;injection h with h;exact hn _ h
  have lx:ks.length=xs.length:=aar bl;exact az (.inl ((iQ n1 n2).trans h)) (by lia) (iZ (C:=100) (by decide +kernel) (by decide) bl hb)
theorem fR {wl d:Addr} {Hx:Hp} {x y:Int} {t:Addr} {ph:HO} {B:Nat} (hB:B < 10 ^ 280) (ht:Hx t=some (.tup [.int x,.int y])) (hx:x.natAbs≤B) (hy:y.natAbs≤B) (hp:Pot Hx wl) (hd:Hx d=some ph) (hn:∀ xs,ph≠.tup xs):Good (bv wl d Hx) (.ref t):=by
  have n1:t≠wl:=fun z=>by obtain ⟨_,_,_,e⟩:=hp;rw [z,e] at ht;cases ht
  have n2:t≠d:=fun z=>by rw [z,hd] at ht;injection ht with ht;exact hn _ ht
  exact az (.inl ((iQ n1 n2).trans ht)) (by show 2≤4;decide) (aM (bf hB hx) (bf hB hy))
theorem dJ {w:World} {d:Addr} {ks:List KEn}:∀ xs,dmX w d ks≠.tup xs:=fun _ z=>nomatch z
theorem oS {z:Int} (h:z.natAbs < 10 ^ 280):(PyData.int z).showable=true∧(PyData.int z).shown.length≤sizeLine∧(reprText (PyData.int z).shown).length≤3000:=by
  have ok:OkX (.int z):=by simp only [OkX];exact h
  have l1:(PyData.int z).shown.length≤281:=by
    have e:=int_text_length_le10 (a:=z) (k:=280) (by decide) h;show (abg (toString z)).length≤281;rw [ofString_length];lia
  refine ⟨eR _ ok,mf ok (by simp [szX]),?_⟩;have:=StrLaws.reprText_len (PyData.int z).shown (fun c hc=>by
    rw [show (PyData.int z).shown=abg (toString z) from rfl,Str.ofString_eq_toList] at hc;simp only [List.mem_map] at hc;obtain ⟨ch,_,rfl⟩:=hc;exact aam (show ch.toNat < 4294967296 from ch.val.toBitVec.isLt) (by decide))
  lia
theorem eP {n:Nat} (h:n≤9) {q:Int × Int} (hq:q∈aC n):0≤q.1∧q.1≤8∧0≤q.2∧q.2≤8:=by
  unfold aC bg at hq;obtain ⟨j,hj,hq⟩:=List.mem_flatMap.mp hq;obtain ⟨a,ha,rfl⟩:=aal.mp hq;have h1:=aaH.mp hj;have h2:=aaH.mp ha;simp only;lia
theorem jt {ks:List KEn} {k:MK} {y v:V} (h:∃ e∈ks,e.1=k):(bK ks k y v).length=ks.length:=by
  unfold bK;rw [if_pos,aab];obtain ⟨e,he,e1⟩:=h;exact List.any_eq_true.mpr ⟨e,he,decide_eq_true e1⟩
theorem pU {ks:List KEn} {e:KEn} {v:V} (_:(ks.map (·.1)).Nodup) (h:e∈ks):(bK ks e.1 e.2.1 v).length=ks.length:=jt ⟨e,h,rfl⟩
theorem oe {ks:List KEn} {e:KEn} {k:MK} {y v:V} (h:e∈ks):∃ e0∈bK ks k y v,e0.1=e.1:=by
  unfold bK;split
  · refine ⟨_,abu h,?_⟩;split <;> rfl
  · exact ⟨e,aaT _ h,rfl⟩
open PySem L2
section
variable {P:Program} {w:World} {K:aaa} {mg:Str→Option Value} {base:Heap} {f:Addr} {fd:FuncData}
def kz (w:World):Sp:=fun vs H Q _=>∃ (wl a:Addr) (kvs:List (List Key × V)) (E:Int × Int→Int × Int) (n:Nat),vs=[.ref wl,.ref a]∧Pot H wl∧H a=some (.dT kvs)∧1≤n∧n≤9∧BtIn E H (aC n) kvs∧BdQ E (aC n) ∧
  ∀ d ks H',But wl H H'→Pot H' wl→H d=none→DmIn w H' d ks→VOk (off wl H') ks→ks.length≤60→Q (.ref d) H'
abbrev dr:Stmt:=top 34
theorem aO:FnScope ["pot","paper","found","turn","places","at","other","low","high","far","way"] ["pot","paper"] (ao dr):=⟨rfl,rfl,rfl,by decide +kernel,rfl,by decide +kernel,by decide +kernel⟩
theorem jI (F:Fun K "_law_bent" "_law_bent" dr f fd) (B:Bu K mg) (C__law_take:Cal P w K mg base "_law_take" 2 ["pot","many"] dh):FnOk P w K mg base CX0 3 f fd ["pot","paper"] (kz w):=by
  refine F.ok aO (fun vs H Q E h=>?_) (fun cdv A outer s H vs Q E hr h=>?_)
  · obtain ⟨wl,a,kvs,E0,n,rfl,_⟩:=h;rfl
  obtain ⟨wl,a,kvs,E0,n,rfl,hP,ea,n1,n9,hb,hq,q⟩:=h;refine ⟨_,(@ag _ _ _ _ _ (@aE _ _ (2) _ _ _ _ (aO).nd rfl (Or.inl rfl) (@a5 _ _ _ _ _ _ _ _ _ (@lw _ (w) rfl rfl) rfl B.idict abi (@aa _ _ _ _ _ (pv 1) ac (by rfl)) (by decide) (by decide) (by rfl) (by rfl)) (by rfl) (by first|exact .inl rfl|exact .inr rfl|assumption)) (@ag _ _ _ _ _ (@bd _ _ _ _ _ _ _ _ aaC rfl (@bp _ _ _ _ _ _ rfl B.irange (@aa _ _ _ _ _ (@ap _ _ _ _ _ _ _ _ aX ae (@a5 _ _ _ _ _ _ _ _ _ bP rfl B.iint aaS (@aa _ _ _ _ _ (@aQ _ _ _ _ _ _ _ _ bj (@aq _ _ _ _ _ _ _ _ _ _ _ C__law_take hr (by lia) rfl (@aa _ _ _ _ _ (pv 0) (@aa _ _ _ _ _ ae ac (by rfl)) (by rfl)) (by decide) (by rfl) (by rfl)) ae (ay _)) ac (by rfl)) (by decide) (by decide) (by rfl) (by rfl))) ac (by rfl)) (by rfl)) (@am _ _ (3) _ (aO).nd rfl (Or.inl rfl) (.inl rfl)) (@ag _ _ _ _ _ (@aE _ _ (4) _ _ _ _ (aO).nd rfl (Or.inl rfl) (@a5 _ _ _ _ _ _ _ _ _ (@lr _ (w) rfl rfl) rfl B.ilist aa7 (@aa _ _ _ _ _ (pv 2) ac (by rfl)) (by decide) (by decide) (by rfl) (by rfl)) (by rfl) (by first|exact .inl rfl|exact .inr rfl|assumption)) (@ag _ _ _ _ _ (@aE _ _ (5) _ _ _ _ (aO).nd rfl (Or.inl rfl) (@bi _ _ _ _ _ _ _ ix_list (pv 4) (@aq _ _ _ _ _ _ _ _ _ _ _ C__law_take hr (by lia) rfl (@aa _ _ _ _ _ (pv 0) (@aa _ _ _ _ _ (@ah _ _ _ _ _ _ _ _ _ aD rfl B.ilen aaL (@aa _ _ _ _ _ (pv 4) ac (by rfl)) (by decide) (by decide) (by rfl) (by rfl)) ac (by rfl)) (by rfl)) (by decide) (by rfl) (by rfl)) (fun _ _=>rfl)) (by rfl) (by first|exact .inl rfl|exact .inr rfl|assumption)) (@ag _ _ _ _ _ (@aE _ _ (6) _ _ _ _ (aO).nd rfl (Or.inl rfl) (@bi _ _ _ _ _ _ _ ix_list (pv 4) (@aq _ _ _ _ _ _ _ _ _ _ _ C__law_take hr (by lia) rfl (@aa _ _ _ _ _ (pv 0) (@aa _ _ _ _ _ (@ah _ _ _ _ _ _ _ _ _ aD rfl B.ilen aaL (@aa _ _ _ _ _ (pv 4) ac (by rfl)) (by decide) (by decide) (by rfl) (by rfl)) ac (by rfl)) (by rfl)) (by decide) (by rfl) (by rfl)) (fun _ _=>rfl)) (by rfl) (by first|exact .inl rfl|exact .inr rfl|assumption)) (@ag _ _ _ _ _ (@du _ _ _ _ _ _ (@jz _ _ _ _ _ _ _ _ _ (w) rfl (u1 hr.units) (pv 1) (pv 5) (@au _ _ _ _ _ (@aa _ _ _ _ _ ae (@aa _ _ _ _ _ ae ac (by rfl)) (by rfl))) ⟨rfl,rfl,rfl,rfl⟩) (@dy _ _ _ _ _ _ rfl (@aZ _ _ _ _ _ (@am _ _ (7) _ (aO).nd rfl (Or.inl rfl) (.inl rfl)) (@aZ _ _ _ _ _ (@am _ _ (8) _ (aO).nd rfl (Or.inl rfl) (.inl rfl)) cE (by rfl)) (by rfl)) (by rfl) (by rfl)) (by rfl) (by rfl) (by rfl)) (@ag _ _ _ _ _ (@aE _ _ (9) _ _ _ _ (aO).nd rfl (Or.inl rfl) (@ap _ _ _ _ _ _ _ _ aX ae (@aq _ _ _ _ _ _ _ _ _ _ _ C__law_take hr (by lia) rfl (@aa _ _ _ _ _ (pv 0) (@aa _ _ _ _ _ ae ac (by rfl)) (by rfl)) (by decide) (by rfl) (by rfl))) (by rfl) (by first|exact .inl rfl|exact .inr rfl|assumption)) (@ag _ _ _ _ _ (@aE _ _ (10) _ _ _ _ (aO).nd rfl (Or.inl rfl) (@aq _ _ _ _ _ _ _ _ _ _ _ C__law_take hr (by lia) rfl (@aa _ _ _ _ _ (pv 0) (@aa _ _ _ _ _ ae ac (by rfl)) (by rfl)) (by decide) (by rfl) (by rfl)) (by rfl) (by first|exact .inl rfl|exact .inr rfl|assumption)) (@eK _ _ _ _ _ (@aW _ _ _ _ _ _ _ _ (@aG _ _ _ _ _ _ _ _ sG (pv 10) ae (ay _)) (@af _ _ _ (@eL _ _ _ _ _ _ _ _ _ (w) rfl (u1 hr.units) (pv 2) (pv 5) (@bi _ _ _ _ _ _ _ ix_list (@aN _ _ _ _ (@aa _ _ _ _ _ (@au _ _ _ _ _ (@aa _ _ _ _ _ (@ap _ _ _ _ _ _ _ _ aX (pv 7) (pv 9)) (@aa _ _ _ _ _ (pv 8) ac (by rfl)) (by rfl))) (@aa _ _ _ _ _ (@au _ _ _ _ _ (@aa _ _ _ _ _ (pv 7) (@aa _ _ _ _ _ (@ap _ _ _ _ _ _ _ _ cB (pv 8) (pv 9)) ac (by rfl)) (by rfl))) (@aa _ _ _ _ _ (@au _ _ _ _ _ (@aa _ _ _ _ _ (@ap _ _ _ _ _ _ _ _ cB (pv 7) (pv 9)) (@aa _ _ _ _ _ (pv 8) ac (by rfl)) (by rfl))) (@aa _ _ _ _ _ (@au _ _ _ _ _ (@aa _ _ _ _ _ (pv 7) (@aa _ _ _ _ _ (@ap _ _ _ _ _ _ _ _ aX (pv 8) (pv 9)) ac (by rfl)) (by rfl))) (@aa _ _ _ _ _ (@au _ _ _ _ _ (@aa _ _ _ _ _ (@ap _ _ _ _ _ _ _ _ aX (pv 7) ae) (@aa _ _ _ _ _ (pv 8) ac (by rfl)) (by rfl))) (@aa _ _ _ _ _ (@au _ _ _ _ _ (@aa _ _ _ _ _ (pv 7) (@aa _ _ _ _ _ (@ap _ _ _ _ _ _ _ _ cB (pv 8) ae) ac (by rfl)) (by rfl))) (@aa _ _ _ _ _ (@au _ _ _ _ _ (@aa _ _ _ _ _ (pv 8) (@aa _ _ _ _ _ (pv 7) ac (by rfl)) (by rfl))) (@aa _ _ _ _ _ (@au _ _ _ _ _ (@aa _ _ _ _ _ (@ap _ _ _ _ _ _ _ _ aX (pv 7) ae) (@aa _ _ _ _ _ (@ap _ _ _ _ _ _ _ _ aX (pv 8) ae) ac (by rfl)) (by rfl))) ac (by rfl)) (by rfl)) (by rfl)) (by rfl)) (by rfl)) (by rfl)) (by rfl)) (by rfl))) (pv 10) (fun _ _=>rfl)) rfl)) (@af _ _ _ (@aW _ _ _ _ _ _ _ _ (@aG _ _ _ _ _ _ _ _ bj (pv 10) ae (ay _)) (@af _ _ _ (@eL _ _ _ _ _ _ _ _ _ (w) rfl (u1 hr.units) (pv 2) (pv 5) (@bi _ _ _ _ _ _ _ ix_list (@aN _ _ _ _ (@aa _ _ _ _ _ bN (@aa _ _ _ _ _ (pv 7) (@aa _ _ _ _ _ (@aN _ _ _ _ (@aa _ _ _ _ _ (pv 7) (@aa _ _ _ _ _ (pv 8) ac (by rfl)) (by rfl))) (@aa _ _ _ _ _ (@au _ _ _ _ _ (@aa _ _ _ _ _ (pv 7) ac (by rfl))) (@aa _ _ _ _ _ (@au _ _ _ _ _ (@aa _ _ _ _ _ (pv 7) (@aa _ _ _ _ _ (pv 8) (@aa _ _ _ _ _ (pv 8) ac (by rfl)) (by rfl)) (by rfl))) (@aa _ _ _ _ _ (@au _ _ _ _ _ (@aa _ _ _ _ _ (@a5 _ _ _ _ _ _ _ _ _ (nN hr.gd hr.units) rfl B.istr abD (@aa _ _ _ _ _ (pv 7) ac (by rfl)) (by decide) (by decide) (by rfl) (by rfl)) (@aa _ _ _ _ _ (pv 8) ac (by rfl)) (by rfl))) (@aa _ _ _ _ _ (@au _ _ _ _ _ (@aa _ _ _ _ _ (pv 7) (@aa _ _ _ _ _ bN ac (by rfl)) (by rfl))) (@aa _ _ _ _ _ (@au _ _ _ _ _ (@aa _ _ _ _ _ dg (@aa _ _ _ _ _ (pv 8) ac (by rfl)) (by rfl))) (@aa _ _ _ _ _ (@au _ _ _ _ _ (@aa _ _ _ _ _ (pv 7) (@aa _ _ _ _ _ dg ac (by rfl)) (by rfl))) (@aa _ _ _ _ _ gh ac (by rfl)) (by rfl)) (by rfl)) (by rfl)) (by rfl)) (by rfl)) (by rfl)) (by rfl)) (by rfl)) (by rfl))) (@aq _ _ _ _ _ _ _ _ _ _ _ C__law_take hr (by lia) rfl (@aa _ _ _ _ _ (pv 0) (@aa _ _ _ _ _ ae ac (by rfl)) (by rfl)) (by decide) (by rfl) (by rfl)) (fun _ _=>rfl)) rfl)) (@af _ _ _ (@aW _ _ _ _ _ _ _ _ (@aG _ _ _ _ _ _ _ _ bj (pv 10) ae (ay _)) (@af _ _ _ (@bQ _ _ _ _ (@iD _ _ _ _ _ _ _ (w) rfl (u1 hr.units) (pv 2) (pv 5) ⟨rfl,rfl,rfl,rfl⟩) (by rfl))) (@af _ _ _ (@aW _ _ _ _ _ _ _ _ (@aG _ _ _ _ _ _ _ _ bj (pv 10) ae (ay _)) (@af _ _ _ (@eL _ _ _ _ _ _ _ _ _ (w) rfl (u1 hr.units) (pv 2) (@bi _ _ _ _ _ _ _ ix_list (@aN _ _ _ _ (@aa _ _ _ _ _ (@au _ _ _ _ _ (@aa _ _ _ _ _ ae (@aa _ _ _ _ _ ae ac (by rfl)) (by rfl))) (@aa _ _ _ _ _ (@au _ _ _ _ _ (@aa _ _ _ _ _ (@gg _ _ _ _ _ _ dU ae) (@aa _ _ _ _ _ ae ac (by rfl)) (by rfl))) (@aa _ _ _ _ _ (@au _ _ _ _ _ (@aa _ _ _ _ _ ae (@aa _ _ _ _ _ ae ac (by rfl)) (by rfl))) (@aa _ _ _ _ _ br (@aa _ _ _ _ _ (@au _ _ _ _ _ (@aa _ _ _ _ _ ae ac (by rfl))) (@aa _ _ _ _ _ ae (@aa _ _ _ _ _ bN ac (by rfl)) (by rfl)) (by rfl)) (by rfl)) (by rfl)) (by rfl)) (by rfl))) (@aq _ _ _ _ _ _ _ _ _ _ _ C__law_take hr (by lia) rfl (@aa _ _ _ _ _ (pv 0) (@aa _ _ _ _ _ ae ac (by rfl)) (by rfl)) (by decide) (by rfl) (by rfl)) (fun _ _=>rfl)) (@au _ _ _ _ _ (@aa _ _ _ _ _ (pv 7) (@aa _ _ _ _ _ (pv 8) ac (by rfl)) (by rfl))) rfl)) (@af _ _ _ (@aW _ _ _ _ _ _ _ _ (@aG _ _ _ _ _ _ _ _ bj (pv 10) ae (ay _)) (@ag _ _ _ _ _ (@bQ _ _ _ _ (@iD _ _ _ _ _ _ _ (w) rfl (u1 hr.units) (pv 2) (pv 5) ⟨rfl,rfl,rfl,rfl⟩) (by rfl)) (@af _ _ _ (@eL _ _ _ _ _ _ _ _ _ (w) rfl (u1 hr.units) (pv 2) (@bi _ _ _ _ _ _ _ ix_list (@aN _ _ _ _ (@aa _ _ _ _ _ (@au _ _ _ _ _ (@aa _ _ _ _ _ ae (@aa _ _ _ _ _ ae ac (by rfl)) (by rfl))) (@aa _ _ _ _ _ (@au _ _ _ _ _ (@aa _ _ _ _ _ (@gg _ _ _ _ _ _ dU ae) (@aa _ _ _ _ _ ae ac (by rfl)) (by rfl))) (@aa _ _ _ _ _ (@au _ _ _ _ _ (@aa _ _ _ _ _ ae (@aa _ _ _ _ _ ae ac (by rfl)) (by rfl))) (@aa _ _ _ _ _ br (@aa _ _ _ _ _ (@au _ _ _ _ _ (@aa _ _ _ _ _ ae ac (by rfl))) (@aa _ _ _ _ _ ae (@aa _ _ _ _ _ bN ac (by rfl)) (by rfl)) (by rfl)) (by rfl)) (by rfl)) (by rfl)) (by rfl))) (@aq _ _ _ _ _ _ _ _ _ _ _ C__law_take hr (by lia) rfl (@aa _ _ _ _ _ (pv 0) (@aa _ _ _ _ _ ae ac (by rfl)) (by rfl)) (by decide) (by rfl) (by rfl)) (fun _ _=>rfl)) (@au _ _ _ _ _ (@aa _ _ _ _ _ (pv 7) (@aa _ _ _ _ _ (pv 8) ac (by rfl)) (by rfl))) rfl))) (@af _ _ _ (@aW _ _ _ _ _ _ _ _ (@PW.pt _ _ _ (@iA _ _ _ _ _ _ _ (@aG _ _ _ _ _ _ _ _ bj (pv 10) ae (ay _)) (@iz _ _ _ _ (@kH _ _ _ _ _ _ (w) rfl (u1 hr.units) (pv 5) (pv 1) (by with_unfolding_all rfl))))) (@ag _ _ _ _ _ (@bQ _ _ _ _ (@iD _ _ _ _ _ _ _ (w) rfl (u1 hr.units) (pv 2) (pv 5) ⟨rfl,rfl,rfl,rfl⟩) (by rfl)) (@af _ _ _ (@eL _ _ _ _ _ _ _ _ _ (w) rfl (u1 hr.units) (pv 2) (@a5 _ _ _ _ _ _ _ _ _ gW rfl B.ituple abr (@aa _ _ _ _ _ (@cF _ _ _ _ _ _ _ _ (["number"]) ([none]) _ _ _ _ rfl (@cZ _ _ _ _ (pv 5)) rfl trivial trivial (fun _ _ _ _=>⟨(@am _ _ (0) _ (show aaZ (["number"]:List Str) by decide +kernel) rfl (Or.inl rfl) (.inr rfl)),aY,(@bi _ _ _ _ _ _ _ (@oQ _ _ rfl) (@aN _ _ _ _ (@aa _ _ _ _ _ dg (@aa _ _ _ _ _ dg (@aa _ _ _ _ _ (pv 0) ac (by rfl)) (by rfl)) (by rfl))) (@ah _ _ _ _ _ _ _ _ _ (@ln _ rfl) rfl B.imin abC (@aa _ _ _ _ _ ae (@aa _ _ _ _ _ (pv 0) ac (by rfl)) (by rfl)) (by decide) (by decide) (by rfl) (by rfl)) (fun _ _=>rfl))⟩) (by rfl) (by rfl) (by rfl) (by rfl) (by intro _;rfl)) ac (by rfl)) (by decide) (by decide) (by rfl) (by rfl)) (@au _ _ _ _ _ (@aa _ _ _ _ _ (pv 7) (@aa _ _ _ _ _ (pv 8) ac (by rfl)) (by rfl))) rfl))) (@af _ _ _ (@aW _ _ _ _ _ _ _ _ (@PW.pt _ _ _ (@iA _ _ _ _ _ _ _ (@aG _ _ _ _ _ _ _ _ bj (pv 10) ae (ay _)) (@iA _ _ _ _ _ _ _ (@kH _ _ _ _ _ _ (w) rfl (u1 hr.units) (pv 5) (pv 1) (by with_unfolding_all rfl)) (@iz _ _ _ _ (@kH _ _ _ _ _ _ (w) rfl (u1 hr.units) (pv 6) (pv 1) (by with_unfolding_all rfl)))))) (@af _ _ _ (@du _ _ _ _ _ _ (@au _ _ _ _ _ (@aa _ _ _ _ _ (@bC _ _ _ _ _ _ (w) rfl (u1 hr.units) (pv 1) (pv 6) (fun _ _=>rfl)) (@aa _ _ _ _ _ (@bC _ _ _ _ _ _ (w) rfl (u1 hr.units) (pv 1) (pv 5) (fun _ _=>rfl)) ac (by rfl)) (by rfl))) (@dy _ _ _ _ _ _ rfl (@aZ _ _ _ _ _ (@iC _ _ _ _ _ _ _ (pv 2) (pv 5) (@lV _ (w) rfl (u1 hr.units)) (by intro _;rfl)) (@aZ _ _ _ _ _ (@iC _ _ _ _ _ _ _ (pv 2) (pv 6) (@lV _ (w) rfl (u1 hr.units)) (by intro _;rfl)) cE (by rfl)) (by rfl)) (by rfl) (by rfl)) (by rfl) (by rfl) (by rfl))) aF))))))))))))) (@af _ _ _ (@aW _ _ _ _ _ _ _ _ (@aG _ _ _ _ _ _ _ _ (@q_ _ (w) rfl hr.units) (pv 2) gh (ay _)) (@af _ _ _ (@ax _ _ _ _ (pv 2))) aF))))))))) (by intro _;rfl)) (@af _ _ _ (@ax _ _ _ _ (pv 2))))),?_⟩;have t2:(2:Nat)≤sizeLine:=by decide
  obtain ⟨kI,ek,ek2,ek3⟩:=iY hb;have lk:kI.length=(aC n).length:=by have:=congrArg ab7 ek2;simpa using this
  have l45:=dz n n9;have lpos:1≤(aC n).length:=acj (cA (n:=n) (q:=(0,0)) (Int.le_refl _) (Int.le_refl _) (by simp only;lia));have hnd:(kI.map fun p=>hM w (.tup p.1)).Nodup:=by
    have e:(kI.map fun p=>hM w (.tup p.1))=(aC n).map fun q=>hT [q.1,q.2]:=by
      have:=congrArg (List.map hT) ek2;rw [aaD,aaD] at this;exact this
    rw [e];exact nj n9
  refine ⟨_,rfl,a,kI,rfl,by rw [ea,ek],(fun z=>by rw [z] at lk;simp at lk;lia),hnd,by lia,fun d ks0 nD dm0 rd0=>?_⟩;have S1:=Same.new nD (dmX w d ks0);generalize hH1:upd H d (dmX w d ks0)=H1 at S1 dm0 ⊢;have hP1:=hP.keep S1;refine ⟨_,rfl,wl,3,rfl,by decide,by decide,hP1,fun r0 H2 _ _ B2 hP2=>⟨rfl,.inr ⟨_,rfl,_,_,rfl,rfl,_,rfl,by split <;> decide,by split <;> decide,?_⟩⟩⟩;have turns:(1+(if decide (V.int r0=V.int 0)=true then (1:Int) else 0)).toNat≤2:=by split <;> decide
  obtain ⟨tn,htn⟩:∃ tn,(1+(if decide (V.int r0=V.int 0)=true then (1:Int) else 0)).toNat=tn:=⟨_,rfl⟩
  rw [htn] at turns;have dw:d≠wl:=abF (by obtain ⟨_,_,_,e⟩:=hP;exact aj e nD);have daN:a≠d:=aj ea nD;have dm2:=DmIn.but B2 hP1 dw dm0;have B02:=(But.of S1:But wl H H1).trans B2;have good0:VOk (bv wl d H2) ks0:=fun e he=>by
    have h1:(e.1,e.2.2)∈rdE ks0:=aal.mpr ⟨e,he,rfl⟩;rw [rd0] at h1;obtain ⟨p,hp,e1⟩:=aal.mp h1;injection e1 with e1 e2
    obtain ⟨q1,hq1,e3,e4⟩:=oP (P:=fun q v=>Dat H (.tuple [.int (E0 q).1,.int (E0 q).2]) v) ek2 ek3 p hp;have qb:=eP n9 hq1;refine ⟨j0 (dm2.keys e he) (by rw [← e1,e3]) (fun k hk=>by
      simp only [aai,aa5,or_false] at hk;rcases hk with rfl|rfl <;> lia) (by show 2≤4;decide) hP2 dm2.at_ dJ,?_⟩
    simp only [Dat,DatAll] at e4;obtain ⟨t,_,e5,ht,_,_,rfl,rfl,_,_,rfl,rfl,rfl⟩:=e4;obtain ⟨x1,x2⟩:=hq q1 hq1;have x3:=fC n9 hq1;have hC:(10:Nat) ^ 270 < 10 ^ 280:=by decide +kernel
    rw [← e2,e5];exact fR hC (hP.tups B02 _ _ ht) (by lia) (by lia) hP2 dm2.at_ dJ
  have ne0:ks0≠[]:=fun z=>by
    rw [z] at rd0;have:=congrArg ab7 rd0;simp [rdE] at this;lia
  have l0:ks0.length≤45:=by
    have:=congrArg ab7 rd0;unfold rdE at this;rw [aab,aab] at this;lia
  have aw:a≠wl:=fun z=>by obtain ⟨_,_,_,e⟩:=hP;rw [← z,ea] at e;cases e
  have dN:∀ {H':Hp},But wl H H'→∀ b o,H b=some o→b≠wl→H' b=some o:=fun b c o e n=>b c o n e;refine a9 (n:=(1+(if decide (V.int r0=V.int 0)=true then (1:Int) else 0)).toNat) (fun i σ H'=>∃ (ks:List KEn) (c3 c4 c5 c6 c7 c8 c9 ca:Option V),σ=[some (.ref wl),some (.ref a),some (.ref d),c3,c4,c5,c6,c7,c8,c9,ca]∧But wl H H'∧Pot H' wl∧DmIn w H' d ks∧VOk (bv wl d H') ks∧ks≠[]∧ks.length≤45+i) ⟨ks0,_,_,_,_,_,_,_,_,rfl,B02,hP2,dm2,good0,ne0,by lia⟩ ?_ ?_
  · rintro i σ H3 hi ⟨ks,c3,c4,c5,c6,c7,c8,c9,ca,rfl,B3,hP3,dm3,vo3,ne3,l3⟩;have hi2:i < 2:=by lia
    have lks:1≤ks.length:=acC.mpr ne3;refine ⟨_,rfl,d,ks,rfl,dm3,fun pl npl=>?_⟩;have sl:=Same.new npl (.lst (ks.map (·.2.1)));have epl:upd H3 pl (.lst (ks.map (·.2.1))) pl=_:=ad;have nplw:pl≠wl:=hP3.ne npl;have B4:=B3.trans (But.of sl);have hP4:=hP3.keep sl;have dm4:=dm3.mono sl;have vo4:=vo3.mono (cj sl);generalize upd H3 pl (.lst (ks.map (·.2.1)))=H4 at B4 epl hP4 dm4 vo4 ⊢;have ll:(ks.map (·.2.1)).length=ks.length:=aab _;refine ⟨_,rfl,_,rfl,_,rfl,pl,_,rfl,.inl (SqL.of epl),wl,((ks.map (·.2.1)).length:Nat),rfl,by lia,by lia,hP4,fun r1 H5 a1 b1 B5 hP5=>?_⟩;rw [ll] at b1;obtain ⟨e1,hk1⟩:∃ e1,ks[r1.toNat]?=some e1:=⟨ks[r1.toNat]'(by lia),aac _⟩
    have at1:atI (ks.map (·.2.1)) r1=some e1.2.1:=by
      have h:atI (ks.map (·.2.1)) ((r1.toNat:Nat):Int)=some e1.2.1:=bS (by rw [aap,hk1];rfl)
      rwa [show ((r1.toNat:Nat):Int)=r1 by lia] at h
    have epl5:=B5 _ _ nplw epl;refine ⟨pl,_,_,_,rfl,rfl,SqL.of epl5,at1,?_⟩;refine ⟨_,rfl,_,rfl,_,rfl,pl,_,rfl,.inl (SqL.of epl5),wl,((ks.map (·.2.1)).length:Nat),rfl,by lia,by lia,hP5,fun r2 H6 a2 b2 B6 hP6=>?_⟩;rw [ll] at b2;obtain ⟨e2,hk2⟩:∃ e2,ks[r2.toNat]?=some e2:=⟨ks[r2.toNat]'(by lia),aac _⟩
    have at2:atI (ks.map (·.2.1)) r2=some e2.2.1:=by
      have h:atI (ks.map (·.2.1)) ((r2.toNat:Nat):Int)=some e2.2.1:=bS (by rw [aap,hk2];rfl)
      rwa [show ((r2.toNat:Nat):Int)=r2 by lia] at h
    have epl6:=B6 _ _ nplw epl5;refine ⟨pl,_,_,_,rfl,rfl,SqL.of epl6,at2,?_⟩;have B46:=B5.trans B6;have b6:=B4.trans B46;have dm6:=DmIn.but B46 hP4 dw dm4;have vo6:=vo4.mono (bV B46);have m1:=aay hk1;have m2:=aay hk2;have ea6:=b6 _ _ aw ea;have hb6:=BtIn.mono (hP.tups b6) hb;obtain ⟨es,pd,hes⟩:=mH (w:=w) ea6 hb6;have bn6:Bn w wl d H H6 ks:=⟨b6,hP6,dm6,vo6⟩
    refine ⟨_,rfl,a,es,rfl,pd,_,rfl,t2,fun p0 n0=>?_⟩;have s0:=Same.new n0 (.tup [V.int 0,.int 0]);have ep0:upd H6 p0 (.tup [V.int 0,.int 0]) p0=_:=ad;have bn7:=bn6.same s0;have pd7:=pd.mono s0;have hes7:Paired (fun (p:MK × PyData) (e:MK × V)=>p.1=e.1∧Dat (upd H6 p0 (.tup [V.int 0,.int 0])) p.2 e.2) (ppE E0 (aC n)) es:=Paired.mapP hes fun _ _ z=>⟨z.1,Dat.mono s0 _ _ z.2⟩
    generalize upd H6 p0 (.tup [V.int 0,.int 0])=H7 at bn7 pd7 hes7 ep0 ⊢;have hk7:=bn7.dm.keys _ m1;obtain ⟨B,hB,lo,hi,tt,ett,hlo,hhi,eo⟩:∃ (B:Nat) (_:B < 10 ^ 280) (lo hi:Int) (tt:Addr),H7 tt=some (.tup [.int lo,.int hi])∧lo.natAbs+20≤B∧hi.natAbs+20≤B∧(bn es e1.1).getD (.ref p0)=.ref tt:=by
      refine ⟨10 ^ 270+30,by decide +kernel,?_⟩;rcases iE hes7 e1.1 with z|⟨q1,hq1,_,t,z,ht⟩
      · exact ⟨0,0,p0,ep0,by show 0+20≤_;exact aaG (by lia) (Nat.le_add_left 30 _),by show 0+20≤_;exact aaG (by lia) (Nat.le_add_left 30 _),by rw [z];rfl⟩
      · obtain ⟨x1,x2⟩:=hq q1 hq1;have x3:=fC n9 hq1;generalize (10:Nat) ^ 270=C at x3;exact ⟨_,_,t,ht,by lia,by lia,by rw [z];rfl⟩
    refine ⟨bn es e1.1,⟨es,e1.1,pd7,hk7,rfl⟩,?_⟩;rw [eo];refine ⟨tt,_,rfl,SqT.of ett,rfl,_,_,rfl,_,_,rfl,rfl,?_⟩;refine ⟨_,rfl,wl,5,rfl,by decide,by decide,bn7.pot,fun r3 H7b a3 b3 B7b hP7b=>⟨_,_,rfl,rfl,?_⟩⟩;have bn7b:=bn7.step B7b hP7b dw;refine ⟨_,rfl,wl,14,rfl,by decide,by decide,hP7b,fun wy H8 aw0 aw1 B8 hP8=>?_⟩;have bn8:=bn7b.step B8 hP8 dw;have hk1':=bn8.dm.keys _ m1;have hk2':=bn8.dm.keys _ m2;have gy1:=(bn8.vo _ m1).1;have gy2:=(bn8.vo _ m2).1;have ai:∀ {z:Int},z.natAbs≤B→At0 (.int z):=fun h=>bf hB h;obtain ⟨fr,hfr⟩:∃ fr,(1:Int)+r3=fr:=⟨_,rfl⟩
    have fr1:1≤fr∧fr≤5:=by lia
    obtain ⟨iv,hiv⟩:∃ iv:Int,0+(i:Int)=iv:=⟨_,rfl⟩
    refine ⟨fun σ H'=>∃ (ks':List KEn),σ=[some (.ref wl),some (.ref a),some (.ref d),some (.int iv),some (.ref pl),some e1.2.1,some e2.2.1,some (.int lo),some (.int hi),some (.int fr),some (.int wy)]∧Bn w wl d H H' ks'∧ks'.length≤45+(i+1),?_,?_⟩
    · rw [← hfr,← hiv];have A:Al wl d H8 H8 []:=⟨Same.refl _,let ⟨_,_,_,e⟩:=hP8;⟨_,e⟩,⟨_,bn8.dm.at_⟩,fun x hx=>nomatch hx⟩
      refine ⟨_,rfl,_,_,rfl,rfl,_,rfl,fJ (fun c=>?_) (fun c=>?_)⟩
      · have c:wy < 8:=of_decide_eq_true c;refine ⟨_,rfl,_,rfl,_,_,rfl,rfl,_,rfl,(by show 2≤sizeLine;decide),fun u1 n_u1=>?_⟩
        replace A:=A.new n_u1 (.tup [V.int (lo+(1+r3)),.int hi])
        generalize upd H8 u1 (.tup [V.int (lo+(1+r3)),.int hi])=h_u1 at A ⊢;refine ⟨_,rfl,_,rfl,_,rfl,_,_,rfl,rfl,(by show 2≤sizeLine;decide),fun u2 n_u2=>?_⟩
        replace A:=A.new n_u2 (.tup [V.int lo,.int (hi - (1+r3))])
        generalize upd h_u1 u2 (.tup [V.int lo,.int (hi - (1+r3))])=h_u2 at A ⊢;refine ⟨_,rfl,_,rfl,_,_,rfl,rfl,_,rfl,(by show 2≤sizeLine;decide),fun u3 n_u3=>?_⟩
        replace A:=A.new n_u3 (.tup [V.int (lo - (1+r3)),.int hi])
        generalize upd h_u2 u3 (.tup [V.int (lo - (1+r3)),.int hi])=h_u3 at A ⊢;refine ⟨_,rfl,_,rfl,_,rfl,_,_,rfl,rfl,(by show 2≤sizeLine;decide),fun u4 n_u4=>?_⟩
        replace A:=A.new n_u4 (.tup [V.int lo,.int (hi+(1+r3))])
        generalize upd h_u3 u4 (.tup [V.int lo,.int (hi+(1+r3))])=h_u4 at A ⊢;refine ⟨_,rfl,_,_,rfl,rfl,_,rfl,(by show 2≤sizeLine;decide),fun u5 n_u5=>?_⟩
        replace A:=A.new n_u5 (.tup [V.int (lo+1),.int hi])
        generalize upd h_u4 u5 (.tup [V.int (lo+1),.int hi])=h_u5 at A ⊢;refine ⟨_,rfl,_,rfl,_,_,rfl,rfl,(by show 2≤sizeLine;decide),fun u6 n_u6=>?_⟩
        replace A:=A.new n_u6 (.tup [V.int lo,.int (hi - 1)])
        generalize upd h_u5 u6 (.tup [V.int lo,.int (hi - 1)])=h_u6 at A ⊢;refine ⟨_,rfl,_,rfl,(by show 2≤sizeLine;decide),fun u7 n_u7=>?_⟩
        replace A:=A.new n_u7 (.tup [V.int hi,.int lo])
        generalize upd h_u6 u7 (.tup [V.int hi,.int lo])=h_u7 at A ⊢;refine ⟨_,rfl,_,_,rfl,rfl,_,rfl,_,_,rfl,rfl,(by show 2≤sizeLine;decide),fun u8 n_u8=>?_⟩
        replace A:=A.new n_u8 (.tup [V.int (lo+1),.int (hi+1)])
        generalize upd h_u7 u8 (.tup [V.int (lo+1),.int (hi+1)])=h_u8 at A ⊢;refine ⟨(by show 8≤sizeLine;decide),fun ul n_ul=>?_⟩
        replace A:=A.new n_ul (.lst [V.ref u1,.ref u2,.ref u3,.ref u4,.ref u5,.ref u6,.ref u7,.ref u8])
        generalize upd h_u8 ul (.lst [V.ref u1,.ref u2,.ref u3,.ref u4,.ref u5,.ref u6,.ref u7,.ref u8])=h_ul at A ⊢;obtain ⟨v,hv,hmem⟩:=fT (xs:=[V.ref u1,.ref u2,.ref u3,.ref u4,.ref u5,.ref u6,.ref u7,.ref u8]) aw0 (by show wy < 8;lia);have gv:Good (bv wl d h_ul) v:=by
          simp only [aai,aa5,or_false] at hmem;rcases hmem with rfl|rfl|rfl|rfl|rfl|rfl|rfl|rfl
          · exact az (.inl (A.at 8 rfl)) (by show 2≤4;decide) (aM (ai (by lia)) (ai (by lia)))
          · exact az (.inl (A.at 7 rfl)) (by show 2≤4;decide) (aM (ai (by lia)) (ai (by lia)))
          · exact az (.inl (A.at 6 rfl)) (by show 2≤4;decide) (aM (ai (by lia)) (ai (by lia)))
          · exact az (.inl (A.at 5 rfl)) (by show 2≤4;decide) (aM (ai (by lia)) (ai (by lia)))
          · exact az (.inl (A.at 4 rfl)) (by show 2≤4;decide) (aM (ai (by lia)) (ai (by lia)))
          · exact az (.inl (A.at 3 rfl)) (by show 2≤4;decide) (aM (ai (by lia)) (ai (by lia)))
          · exact az (.inl (A.at 2 rfl)) (by show 2≤4;decide) (aM (ai (by lia)) (ai (by lia)))
          · exact az (.inl (A.at 1 rfl)) (by show 2≤4;decide) (aM (ai (by lia)) (ai (by lia)))
        have bn9:=bn8.same A.same;refine ⟨_,rfl,ul,_,_,_,rfl,rfl,SqL.of (A.up 0 rfl),hv,?_⟩;refine ⟨_,rfl,_,rfl,d,ks,e1.1,rfl,bn9.dm,hk1'.mono (fun b xs=>A.same b _),by lia,?_⟩;exact ⟨_,rfl,bn9.put nD dw (hk1'.mono (fun b xs=>A.same b _)) (gy1.mono (cj A.same)) gv (by lia),aaG (cy _ _ _ _) (by lia)⟩
      · refine ⟨_,rfl,rfl,_,rfl,fJ (fun c2=>?_) (fun c2=>?_)⟩
        · skip
          refine ⟨_,rfl,_,rfl,_,rfl,(by show 2≤sizeLine;decide),fun u1 n_u1=>?_⟩
          replace A:=A.new n_u1 (.lst [V.int lo,.int hi])
          generalize upd H8 u1 (.lst [V.int lo,.int hi])=h_u1 at A ⊢;refine ⟨_,rfl,(by show 1≤sizeLine;decide),fun u2 n_u2=>?_⟩
          replace A:=A.new n_u2 (.tup [V.int lo])
          generalize upd h_u1 u2 (.tup [V.int lo])=h_u2 at A ⊢;refine ⟨_,rfl,_,rfl,_,rfl,(by show 3≤sizeLine;decide),fun u3 n_u3=>?_⟩
          replace A:=A.new n_u3 (.tup [V.int lo,.int hi,.int hi])
          generalize upd h_u2 u3 (.tup [V.int lo,.int hi,.int hi])=h_u3 at A ⊢;have hsh:=oS (z:=lo) (aa6 (by lia) hB);refine ⟨_,rfl,_,.int lo,rfl,by simp only [Dat],.inl ⟨_,rfl⟩,hsh.1,by simp [aaX],hsh.2.1,_,rfl,(by show 2≤sizeLine;decide),fun u4 n_u4=>?_⟩
          replace A:=A.new n_u4 (.tup [V.str (PyData.int lo).shown,.int hi])
          generalize upd h_u3 u4 (.tup [V.str (PyData.int lo).shown,.int hi])=h_u4 at A ⊢;refine ⟨_,rfl,(by show 2≤sizeLine;decide),fun u5 n_u5=>?_⟩
          replace A:=A.new n_u5 (.tup [V.int lo,.non])
          generalize upd h_u4 u5 (.tup [V.int lo,.non])=h_u5 at A ⊢;refine ⟨_,rfl,(by show 2≤sizeLine;decide),fun u6 n_u6=>?_⟩
          replace A:=A.new n_u6 (.tup [V.bl true,.int hi])
          generalize upd h_u5 u6 (.tup [V.bl true,.int hi])=h_u6 at A ⊢;refine ⟨_,rfl,(by show 2≤sizeLine;decide),fun u7 n_u7=>?_⟩
          replace A:=A.new n_u7 (.tup [V.int lo,.bl false])
          generalize upd h_u6 u7 (.tup [V.int lo,.bl false])=h_u7 at A ⊢;refine fun u8 n_u8=>?_
          replace A:=A.new n_u8 (.dK [])
          generalize upd h_u7 u8 (.dK [])=h_u8 at A ⊢;refine ⟨(by show 10≤sizeLine;decide),fun ul n_ul=>?_⟩
          replace A:=A.new n_ul (.lst [V.non,.int lo,.ref u1,.ref u2,.ref u3,.ref u4,.ref u5,.ref u6,.ref u7,.ref u8])
          generalize upd h_u8 ul (.lst [V.non,.int lo,.ref u1,.ref u2,.ref u3,.ref u4,.ref u5,.ref u6,.ref u7,.ref u8])=h_ul at A ⊢;refine ⟨_,rfl,wl,10,rfl,by decide,by decide,hP8.keep A.same,fun r5 H9 c0 c1 B9 hP9=>?_⟩;obtain ⟨v,hv,hmem⟩:=fT (xs:=[V.non,.int lo,.ref u1,.ref u2,.ref u3,.ref u4,.ref u5,.ref u6,.ref u7,.ref u8]) c0 (by show r5 < 10;lia);have gv0:Good (bv wl d h_ul) v:=by
            simp only [aai,aa5,or_false] at hmem;rcases hmem with rfl|rfl|rfl|rfl|rfl|rfl|rfl|rfl|rfl|rfl
            · exact cG gF
            · exact cG (ai (by lia))
            · exact az (.inr (A.at 8 rfl)) (by show 2≤4;decide) (aM (ai (by lia)) (ai (by lia)))
            · exact az (.inl (A.at 7 rfl)) (by show 1≤4;decide) (fU (ai (by lia)))
            · exact az (.inl (A.at 6 rfl)) (by show 3≤4;decide) (qr (ai (by lia)) (ai (by lia)) (ai (by lia)))
            · exact az (.inl (A.at 5 rfl)) (by show 2≤4;decide) (aM (i6 hsh.2.2) (ai (by lia)))
            · exact az (.inl (A.at 4 rfl)) (by show 2≤4;decide) (aM (ai (by lia)) gF)
            · exact az (.inl (A.at 3 rfl)) (by show 2≤4;decide) (aM (mK _) (ai (by lia)))
            · exact az (.inl (A.at 2 rfl)) (by show 2≤4;decide) (aM (ai (by lia)) (mK _))
            · exact qj (A.at 1 rfl)
          have gv:=gv0.mono (bV B9);have bn9:=(bn8.same A.same).step B9 hP9 dw;refine ⟨ul,_,_,_,rfl,rfl,SqL.of (B9 _ _ (iP (A.at 0 rfl)).1 (A.up 0 rfl)),hv,?_⟩;refine ⟨_,rfl,_,rfl,d,ks,e1.1,rfl,bn9.dm,bn9.dm.keys _ m1,by lia,?_⟩;exact ⟨_,rfl,bn9.put nD dw (bn9.dm.keys _ m1) (bn9.vo _ m1).1 gv (by lia),aaG (cy _ _ _ _) (by lia)⟩
        · refine ⟨_,rfl,rfl,_,rfl,fJ (fun c3=>?_) (fun c3=>?_)⟩
          · skip
            refine ⟨_,rfl,d,_,rfl,.inr (.inl ⟨ks,bn8.dm,rfl⟩),_,rfl,ks,e1.1,_,bn8.dm,hk1',kF bn8.dm.nd m1,?_⟩;exact ⟨_,rfl,bn8.drop nD dw,aaG (abQ _ _) (by lia)⟩
          · refine ⟨_,rfl,rfl,_,rfl,fJ (fun c4=>?_) (fun c4=>?_)⟩
            · skip
              refine ⟨_,rfl,_,rfl,(by show 2≤sizeLine;decide),fun v0 n_v0=>?_⟩
              replace A:=A.new n_v0 (.tup [V.int lo,.int hi])
              generalize upd H8 v0 (.tup [V.int lo,.int hi])=h_v0 at A ⊢;refine ⟨_,rfl,(by show 2≤sizeLine;decide),fun u1 n_u1=>?_⟩
              replace A:=A.new n_u1 (.tup [V.int 0,.int 99])
              generalize upd h_v0 u1 (.tup [V.int 0,.int 99])=h_u1 at A ⊢;refine ⟨_,rfl,(by show 2≤sizeLine;decide),fun u2 n_u2=>?_⟩
              replace A:=A.new n_u2 (.tup [V.int (-1),.int 0])
              generalize upd h_u1 u2 (.tup [V.int (-1),.int 0])=h_u2 at A ⊢;refine ⟨(by show 2≤sizeLine;decide),fun u3 n_u3=>?_⟩
              replace A:=A.new n_u3 (.tup [V.int 1,.int 0])
              generalize upd h_u2 u3 (.tup [V.int 1,.int 0])=h_u3 at A ⊢;refine ⟨(by show 1≤sizeLine;decide),fun u4 n_u4=>?_⟩
              replace A:=A.new n_u4 (.tup [V.int 0])
              generalize upd h_u3 u4 (.tup [V.int 0])=h_u4 at A ⊢;refine ⟨(by show 7≤sizeLine;decide),fun ul n_ul=>?_⟩
              replace A:=A.new n_ul (.lst [V.ref u1,.ref u2,.ref u3,.str "a",.ref u4,.int 0,.non])
              generalize upd h_u4 ul (.lst [V.ref u1,.ref u2,.ref u3,.str "a",.ref u4,.int 0,.non])=h_ul at A ⊢;refine ⟨_,rfl,wl,7,rfl,by decide,by decide,bn8.pot.keep A.same,fun r5 H9 c0 c1 B9 hP9=>?_⟩;obtain ⟨y,hy,hmem⟩:=fT (xs:=[V.ref u1,.ref u2,.ref u3,.str "a",.ref u4,.int 0,.non]) c0 (by show r5 < 7;lia);have bn9:=(bn8.same A.same).step B9 hP9 dw;have gk:∃ k,MkIn H9 k y∧Good (bv wl d H9) y:=by
                have m9:∀ {x:Addr × HO},bv wl d h_ul x.1=some x.2→bv wl d H9 x.1=some x.2:=fun h=>bV B9 _ _ h;have small:(100:Nat) < 10 ^ 280:=by decide +kernel
                simp only [aai,aa5,or_false] at hmem;rcases hmem with rfl|rfl|rfl|rfl|rfl|rfl|rfl
                · exact ⟨.tup [0,99],⟨u1,_,rfl,cg _ _ (m9 (A.at 4 rfl)),BiL.ints [0,99]⟩,az (.inl (m9 (A.at 4 rfl))) (by show 2≤4;decide) (aM (bf small (by decide)) (bf small (by decide)))⟩
                · exact ⟨.tup [-1,0],⟨u2,_,rfl,cg _ _ (m9 (A.at 3 rfl)),BiL.ints [-1,0]⟩,az (.inl (m9 (A.at 3 rfl))) (by show 2≤4;decide) (aM (bf small (by decide)) (bf small (by decide)))⟩
                · exact ⟨.tup [1,0],⟨u3,_,rfl,cg _ _ (m9 (A.at 2 rfl)),BiL.ints [1,0]⟩,az (.inl (m9 (A.at 2 rfl))) (by show 2≤4;decide) (aM (bf small (by decide)) (bf small (by decide)))⟩
                · exact ⟨.str "a",rfl,cG (i6 (by decide +kernel))⟩
                · exact ⟨.tup [0],⟨u4,_,rfl,cg _ _ (m9 (A.at 1 rfl)),BiL.ints [0]⟩,az (.inl (m9 (A.at 1 rfl))) (by show 1≤4;decide) (fU (bf small (by decide)))⟩
                · exact ⟨.int 0,rfl,cG (bf small (by decide))⟩
                · exact ⟨.non,rfl,cG gF⟩
              obtain ⟨k,hk,gy⟩:=gk;refine ⟨ul,_,_,_,rfl,rfl,SqL.of (B9 _ _ (iP (A.at 0 rfl)).1 (A.up 0 rfl)),hy,d,ks,k,rfl,bn9.dm,hk,by lia,?_⟩;exact ⟨_,rfl,bn9.put nD dw hk gy (az (.inl (bV B9 _ _ (A.at 5 rfl))) (by show 2≤4;decide) (aM (ai (by lia)) (ai (by lia)))) (by lia),aaG (cy _ _ _ _) (by lia)⟩
            · refine ⟨_,rfl,rfl,_,rfl,fJ (fun c5=>?_) (fun c5=>?_)⟩
              · skip
                refine ⟨_,rfl,d,_,rfl,.inr (.inl ⟨ks,bn8.dm,rfl⟩),_,rfl,ks,e1.1,_,bn8.dm,hk1',kF bn8.dm.nd m1,?_⟩;have bnd8:=bn8.drop (k:=e1.1) nD dw;have ld:(cD ks e1.1).length≤ks.length:=abQ _ _;generalize hHd:upd H8 d (dmX w d (cD ks e1.1))=Hd at bnd8 ⊢;have A:Al wl d Hd Hd []:=⟨Same.refl _,let ⟨_,_,_,e⟩:=bnd8.pot;⟨_,e⟩,⟨_,bnd8.dm.at_⟩,fun x hx=>nomatch hx⟩
                refine ⟨_,rfl,_,rfl,(by show 2≤sizeLine;decide),fun v0 n_v0=>?_⟩
                replace A:=A.new n_v0 (.tup [V.int lo,.int hi])
                generalize upd Hd v0 (.tup [V.int lo,.int hi])=h_v0 at A ⊢;refine ⟨_,rfl,(by show 2≤sizeLine;decide),fun u1 n_u1=>?_⟩
                replace A:=A.new n_u1 (.tup [V.int 0,.int 99])
                generalize upd h_v0 u1 (.tup [V.int 0,.int 99])=h_u1 at A ⊢;refine ⟨_,rfl,(by show 2≤sizeLine;decide),fun u2 n_u2=>?_⟩
                replace A:=A.new n_u2 (.tup [V.int (-1),.int 0])
                generalize upd h_u1 u2 (.tup [V.int (-1),.int 0])=h_u2 at A ⊢;refine ⟨(by show 2≤sizeLine;decide),fun u3 n_u3=>?_⟩
                replace A:=A.new n_u3 (.tup [V.int 1,.int 0])
                generalize upd h_u2 u3 (.tup [V.int 1,.int 0])=h_u3 at A ⊢;refine ⟨(by show 1≤sizeLine;decide),fun u4 n_u4=>?_⟩
                replace A:=A.new n_u4 (.tup [V.int 0])
                generalize upd h_u3 u4 (.tup [V.int 0])=h_u4 at A ⊢;refine ⟨(by show 7≤sizeLine;decide),fun ul n_ul=>?_⟩
                replace A:=A.new n_ul (.lst [V.ref u1,.ref u2,.ref u3,.str "a",.ref u4,.int 0,.non])
                generalize upd h_u4 ul (.lst [V.ref u1,.ref u2,.ref u3,.str "a",.ref u4,.int 0,.non])=h_ul at A ⊢;refine ⟨_,rfl,wl,7,rfl,by decide,by decide,bnd8.pot.keep A.same,fun r5 H9 c0 c1 B9 hP9=>?_⟩;obtain ⟨y,hy,hmem⟩:=fT (xs:=[V.ref u1,.ref u2,.ref u3,.str "a",.ref u4,.int 0,.non]) c0 (by show r5 < 7;lia);have bn9:=(bnd8.same A.same).step B9 hP9 dw;have gk:∃ k,MkIn H9 k y∧Good (bv wl d H9) y:=by
                  have m9:∀ {x:Addr × HO},bv wl d h_ul x.1=some x.2→bv wl d H9 x.1=some x.2:=fun h=>bV B9 _ _ h;have small:(100:Nat) < 10 ^ 280:=by decide +kernel
                  simp only [aai,aa5,or_false] at hmem;rcases hmem with rfl|rfl|rfl|rfl|rfl|rfl|rfl
                  · exact ⟨.tup [0,99],⟨u1,_,rfl,cg _ _ (m9 (A.at 4 rfl)),BiL.ints [0,99]⟩,az (.inl (m9 (A.at 4 rfl))) (by show 2≤4;decide) (aM (bf small (by decide)) (bf small (by decide)))⟩
                  · exact ⟨.tup [-1,0],⟨u2,_,rfl,cg _ _ (m9 (A.at 3 rfl)),BiL.ints [-1,0]⟩,az (.inl (m9 (A.at 3 rfl))) (by show 2≤4;decide) (aM (bf small (by decide)) (bf small (by decide)))⟩
                  · exact ⟨.tup [1,0],⟨u3,_,rfl,cg _ _ (m9 (A.at 2 rfl)),BiL.ints [1,0]⟩,az (.inl (m9 (A.at 2 rfl))) (by show 2≤4;decide) (aM (bf small (by decide)) (bf small (by decide)))⟩
                  · exact ⟨.str "a",rfl,cG (i6 (by decide +kernel))⟩
                  · exact ⟨.tup [0],⟨u4,_,rfl,cg _ _ (m9 (A.at 1 rfl)),BiL.ints [0]⟩,az (.inl (m9 (A.at 1 rfl))) (by show 1≤4;decide) (fU (bf small (by decide)))⟩
                  · exact ⟨.int 0,rfl,cG (bf small (by decide))⟩
                  · exact ⟨.non,rfl,cG gF⟩
                obtain ⟨k,hk,gy⟩:=gk;refine ⟨ul,_,_,_,rfl,rfl,SqL.of (B9 _ _ (iP (A.at 0 rfl)).1 (A.up 0 rfl)),hy,d,cD ks e1.1,k,rfl,bn9.dm,hk,by lia,?_⟩;exact ⟨_,rfl,bn9.put nD dw hk gy (az (.inl (bV B9 _ _ (A.at 5 rfl))) (by show 2≤4;decide) (aM (ai (by lia)) (ai (by lia)))) (by lia),aaG (cy _ _ _ _) (by lia)⟩
              · obtain ⟨es8,pd8,hes8⟩:=mH (w:=w) (bn8.but _ _ aw ea) (BtIn.mono (hP.tups bn8.but) hb);refine (fun (tl:(?R:Prop))=>?mn) ?tt
                case mn =>
                  refine ⟨_,rfl,rfl,_,rfl,fJ (fun c6=>?_) (fun c6=>aR ?_)⟩
                  · refine ⟨_,rfl,_,rfl,a,_,rfl,⟨es8,e1.1,pd8,hk1',rfl⟩,_,rfl,?_⟩;rcases iE hes8 e1.1 with z|⟨q1,hq1,ek1,t1,z,ht1⟩
                    · rw [z];refine aR ?_;exact tl
                    · rw [z];refine a4 ?_;have qb:0≤q1.1∧q1.1≤8∧0≤q1.2∧q1.2≤8:=eP n9 hq1;obtain ⟨b1,xs1,ey,hb1,bl1⟩:∃ b xs,e1.2.1=.ref b∧H8 b=some (.tup xs)∧BiL [q1.1,q1.2] xs:=by
                        have:=hk1';rw [ek1] at this;exact this
                      refine ⟨_,rfl,d,_,rfl,.inr (.inl ⟨ks,bn8.dm,rfl⟩),_,rfl,ks,e1.1,_,bn8.dm,hk1',kF bn8.dm.nd m1,?_⟩;have bnd8:=bn8.drop (k:=e1.1) nD dw;have ld:(cD ks e1.1).length≤ks.length:=abQ _ _;generalize hHd:upd H8 d (dmX w d (cD ks e1.1))=Hd at bnd8 ⊢;have ebd:Hd b1=some (.tup xs1):=by rw [← hHd,ak (fun z=>by rw [z,bn8.dm.at_] at hb1;cases hb1)];exact hb1
                      have lx1:xs1.length=2:=(aar bl1).symm;refine ⟨_,rfl,_,rfl,t2,fun pv npv=>?_⟩;have spv:=Same.new npv (.tup [V.int lo,.int hi]);have epv:upd Hd pv (.tup [V.int lo,.int hi]) pv=_:=ad;have bn9:=bnd8.same spv;have eb9:=spv _ _ ebd;generalize upd Hd pv (.tup [V.int lo,.int hi])=H9 at spv epv bn9 eb9 ⊢;rw [ey];refine ⟨_,rfl,_,rfl,b1,rfl,⟨_,SqT.of eb9⟩,?_⟩;refine cN (Trn.tup (xs:=xs1)) (fun j ys H'=>Same H9 H'∧BiL ([q1.1,q1.2].take j) ys) ⟨Same.refl _,.nil⟩ (fun j ys H' hj p=>⟨SqT.of (p.1 _ _ eb9),aa6 (show ys.length≤2 by rw [← aar p.2,aaJ];exact Nat.min_le_right _ _) (by rw [sizeLine_eq];decide)⟩) (fun j x ys H0 H' hj hx p Nx nx=>?_) (fun ys H' p p5 n5=>?_)
                      · obtain ⟨S,bl⟩:=p;obtain ⟨rfl,hx⟩:=hx;obtain ⟨k,hk,bk⟩:=Paired.at bl1 hx;have kr:0≤k∧k≤8:=by
                          have:=aay hk;simp only [aai,aa5,or_false] at this;rcases this with rfl|rfl <;> lia
                        have stepT:∀ v,BiV k v→BiL ([q1.1,q1.2].take (j+1)) (ys++[v]):=fun v hv=>by
                          rw [aaA,hk];exact Paired.app bl (.cons hv .nil)
                        refine ⟨_,rfl,(by show 3≤sizeLine;decide),fun pq npq=>?_⟩;have spq:=Same.new npq (.lst [V.bl false,.bl true,x]);refine ⟨_,rfl,_,_,2,k,rfl,.inl rfl,bk,?_⟩;by_cases ck:k < 2
                        · rw [if_pos ck];have : k=0∨k=1:=by lia
                          rcases this with rfl|rfl
                          · exact ⟨pq,_,0,.bl false,rfl,bk,SqL.of ad,rfl,by decide,nx _ _ ⟨S.trans spq,stepT _ (.inr ⟨false,rfl,rfl⟩)⟩⟩
                          · exact ⟨pq,_,1,.bl true,rfl,bk,SqL.of ad,rfl,by decide,nx _ _ ⟨S.trans spq,stepT _ (.inr ⟨true,rfl,rfl⟩)⟩⟩
                        · rw [if_neg ck];exact ⟨pq,_,2,x,rfl,.inl rfl,SqL.of ad,rfl,by decide,nx _ _ ⟨S.trans spq,stepT _ bk⟩⟩
                      · obtain ⟨S,bl⟩:=p;rw [lx1] at bl;have s5:=Same.new n5 (.lst ys);refine ⟨p5,ys,rfl,.inl ⟨SqL.of ad,fun l nl=>?_⟩⟩;have sl':=(S.trans s5).trans (Same.new nl (.tup ys));have el:upd (upd H' p5 (.lst ys)) l (.tup ys) l=some (.tup ys):=ad;have bn10:=bn9.same sl';have epv10:=sl' _ _ epv;have wl10:l≠wl:=(bn9.pot.keep (S.trans s5)).ne nl;have ld10:l≠d:=fun z=>by have:=(S.trans s5) _ _ bn9.dm.at_;rw [z,this] at nl;cases nl
                        generalize upd (upd H' p5 (.lst ys)) l (.tup ys)=H10 at sl' el bn10 epv10 ⊢;have hkl:MkIn H10 (.tup [q1.1,q1.2]) (.ref l):=⟨l,ys,rfl,el,bl⟩
                        have gkl:Good (bv wl d H10) (.ref l):=j0 hkl rfl (fun k hk=>by
                          simp only [aai,aa5,or_false] at hk;rcases hk with rfl|rfl <;> lia) (by show 2≤4;decide) bn10.pot bn10.dm.at_ dJ
                        have gvl:Good (bv wl d H10) (.ref pv):=fR hB epv10 (by lia) (by lia) bn10.pot bn10.dm.at_ dJ;refine ⟨d,cD ks e1.1,_,rfl,bn10.dm,hkl,by lia,?_⟩;exact ⟨_,rfl,bn10.put nD dw hkl gkl gvl (by lia),aaG (cy _ _ _ _) (by lia)⟩
                  · exact tl
                case tt =>
                  refine (fun (tl:(?R2:Prop))=>?mn2) ?tt2
                  case mn2 =>
                    refine ⟨_,rfl,rfl,_,rfl,fJ (fun c6=>?_) (fun c6=>aR ?_)⟩
                    · refine ⟨_,rfl,_,rfl,a,_,rfl,⟨es8,e1.1,pd8,hk1',rfl⟩,_,rfl,?_⟩;rcases iE hes8 e1.1 with z|⟨q1,hq1,ek1,t1,z,ht1⟩
                      · rw [z];refine aR (aR ?_);exact tl
                      · rw [z];refine a4 ⟨_,rfl,_,rfl,a,_,rfl,⟨es8,e2.1,pd8,hk2',rfl⟩,_,rfl,?_⟩;rcases iE hes8 e2.1 with z2|⟨q2,hq2,ek2',t2',z2,ht2⟩
                        · rw [z2];refine aR ?_;exact tl
                        · rw [z2];refine a4 ?_;obtain ⟨x1,x2⟩:=hq q1 hq1;have x3:=fC n9 hq1;obtain ⟨y1,y2⟩:=hq q2 hq2;have y3:=fC n9 hq2;have hC:(10:Nat) ^ 270 < 10 ^ 280:=by decide +kernel
                          have g1:Good (bv wl d H8) (.ref t1):=fR hC ht1 (by lia) (by lia) hP8 bn8.dm.at_ dJ;have g2:Good (bv wl d H8) (.ref t2'):=fR hC ht2 (by lia) (by lia) hP8 bn8.dm.at_ dJ;refine ⟨_,rfl,_,rfl,a,_,rfl,⟨es8,e2.1,pd8,hk2',z2.symm⟩,_,rfl,_,rfl,a,_,rfl,⟨es8,e1.1,pd8,hk1',z.symm⟩,t2,fun pt npt=>?_⟩;have spt:=Same.new npt (.tup [V.ref t2',.ref t1]);have ept:upd H8 pt (.tup [V.ref t2',.ref t1]) pt=_:=ad;have bn9:=bn8.same spt;have g1:=g1.mono (cj spt);have g2:=g2.mono (cj spt);generalize upd H8 pt (.tup [V.ref t2',.ref t1])=H9 at spt ept bn9 g1 g2 ⊢;have bn10:=bn9.put (k:=e1.1) nD dw (bn9.dm.keys _ m1) (bn9.vo _ m1).1 g2 (by lia);have hk2'':MkIn (upd H9 d (dmX w d (bK ks e1.1 e1.2.1 (.ref t2')))) e2.1 e2.2.1:=(bn9.dm.keys _ m2).mono fun b xs e=>by rw [ak (fun z=>by rw [z,bn9.dm.at_] at e;cases e)];exact e
                          have gy2':Good (bv wl d (upd H9 d (dmX w d (bK ks e1.1 e1.2.1 (.ref t2'))))) e2.2.1:=by rw [eS];exact (bn9.vo _ m2).1
                          have g1':Good (bv wl d (upd H9 d (dmX w d (bK ks e1.1 e1.2.1 (.ref t2'))))) (.ref t1):=by rw [eS];exact g1
                          have lq:=cy ks e1.1 e1.2.1 (.ref t2');have lq2:(bK (bK ks e1.1 e1.2.1 (.ref t2')) e2.1 e2.2.1 (.ref t1)).length≤45+(i+1):=by
                            have a1:=pU (v:=.ref t2') bn9.dm.nd m1;have a2:∃ e0∈bK ks e1.1 e1.2.1 (.ref t2'),e0.1=e2.1:=oe m2;have a3:=jt (v:=.ref t1) (y:=e2.2.1) a2;lia
                          refine ⟨pt,_,rfl,SqT.of ept,rfl,_,_,rfl,_,rfl,_,rfl,d,ks,e1.1,rfl,bn9.dm,bn9.dm.keys _ m1,by lia,?_⟩;refine ⟨_,_,rfl,_,rfl,_,rfl,d,_,e2.1,rfl,bn10.dm,hk2'',by lia,rfl,?_⟩;exact ⟨_,rfl,bn10.put nD dw hk2'' gy2' g1' (by lia),lq2⟩
                    · exact tl
                  case tt2=>exact ⟨_,rfl,bn8,by lia⟩
    · rintro σ H9 ⟨ks9,rfl,bn9,l9⟩;refine ⟨_,rfl,fun pe npe=>?_⟩;have spe:=Same.new npe (.dK []);have bn10:=bn9.same spe;have epe:upd H9 pe (.dK []) pe=some (.dK []):=ad;refine ⟨d,pe,ks9,rfl,rfl,bn10.dm,epe,_,rfl,?_⟩;cases ks9 with
      | nil=>exact a4 ⟨_,rfl,q d [] _ bn10.but bn10.pot nD bn10.dm (fun e he=>nomatch he) (aaQ _)⟩
      | cons e0 ks9=>exact aR ⟨e0 :: ks9,_,_,_,_,_,_,_,_,rfl,bn10.but,bn10.pot,bn10.dm,bn10.vo,(fun z=>nomatch z),l9⟩
  · rintro σ H3 ⟨ks,c3,c4,c5,c6,c7,c8,c9,ca,rfl,B3,hP3,dm3,vo3,ne3,l3⟩;exact ⟨_,rfl,q d ks H3 B3 hP3 nD dm3 (vo3.mono off_le) (by lia)⟩
end
open PySem L2
theorem Pd.butL {w:World} {p:Addr} {H H':Hp} {xs:List V} (b:But p H H') (hp:H p=some (.lst xs)) {a:Addr} {es:List (MK × V)} (h:Pd w H a es):Pd w H' a es:=by
  have g:∀ c o,(∀ ys,o≠.lst ys)→H c=some o→H' c=some o:=fun c o n e=>b _ _ (fun z=>by rw [z,hp] at e;injection e with e;exact n _ e.symm) e;rcases h with ⟨kvs,h,e⟩|⟨kvs,h,e⟩|⟨h,e⟩
  · exact .inl ⟨kvs,g _ _ (fun _ z=>nomatch z) h,e⟩
  · exact .inr (.inl ⟨kvs,⟨g _ _ (fun _ z=>nomatch z) h.at_,fun q hq=>(h.keys q hq).mono fun c xs=>g c _ (fun _ z=>nomatch z),h.nd,h.len⟩,e⟩)
  · exact .inr (.inr ⟨g _ _ (fun _ z=>nomatch z) h,e⟩)
theorem f_:∀ n,n≤9→(sfl n n).length=n * (n+1) / 2:=by decide +kernel
theorem gp {α:Type} [DecidableEq α]:∀ {l r:List α},l.Nodup→(∀ x∈l,x∈r)→l.length≤r.length
  | [],_,_,_=>aaQ _
  | a :: l,r,h,s=>by
    obtain ⟨h1,h2⟩:=aa2.mp h;have ha:=s a aaq;have:=gp (r:=r.erase a) h2 fun x hx=>(List.mem_erase_of_ne (fun e=>h1 (by rw [← e];exact hx))).mpr (s x (aak _ hx));rw [List.length_erase_of_mem ha] at this;have:=acj ha;simp only [aaN];lia
theorem hX {d:PyData}:aT d=(prD d).isSome:=by rw [oj]
def gtP (ps:PPa) (q:Int × Int):PyData:=(lkP ps q).getD .none
theorem oY {ns:List Int} {gs:List Sg} {ps:PPa} {q:Int × Int} (h0:0≤q.1) (h1:q.1≤q.2) (h2:q.2 < ns.length) (h:aT (gtP ps q)=false):cb ns gs ps=false:=by
  unfold cb;cases e:lkP ps q with
  | none =>
    have : fL ns.length (some ps)=false:=by
      rw [bO,Bool.and_eq_false_iff];refine .inr (abZ.mpr ⟨q,kA h0 h1 h2,?_⟩);rw [e];exact aae
    rw [this];rfl
  | some d =>
    have e2:gtP ps q=d:=by unfold gtP;rw [e];rfl
    rw [e2,hX] at h;have : ps.all (fun p=>(prD p.2).isSome)=false:=abZ.mpr ⟨_,eT e,by rw [show (MK.tup [q.1,q.2],d).2=d from rfl,h];exact aae⟩;rw [this,aco,ab3]
theorem oX {ns:List Int} {gs:List Sg} {ps:PPa} {q:Int × Int} (h0:0≤q.1) (h1:q.1≤q.2) (h2:q.2 < ns.length) (h:dP ns gs (EP ps) q=false):cb ns gs ps=false:=by
  unfold cb;rw [show (sfl ns.length ns.length).all (dP ns gs (EP ps))=false from abZ.mpr ⟨q,kA h0 h1 h2,by rw [h];exact aae⟩,aco]
theorem oZ {ns:List Int} {gs:List Sg} {ps:PPa} (h9:ns.length≤9) (h:ps.length≠ns.length * (ns.length+1) / 2):cb ns gs ps=false:=by
  unfold cb;rw [bO,f_ _ h9,decide_eq_false h];rfl
theorem kX {n:Nat} {ps:PPa} (h9:n≤9) (nd:(ps.map (·.1)).Nodup) (hl:ps.length=n * (n+1) / 2) (h:∀ q:Int × Int,0≤q.1→q.1≤q.2→q.2 < n→aT (gtP ps q)=true):fL n (some ps)=true∧ps.all (fun p=>(prD p.2).isSome)=true:=by
  have at_:∀ q∈sfl n n,∃ d,lkP ps q=some d∧(prD d).isSome=true:=fun q hq=>by
    obtain ⟨h0,h1,h2⟩:=gb n q hq;have:=h q h0 h1 h2;cases e:lkP ps q with
    | none=>rw [show gtP ps q=.none by unfold gtP;rw [e];rfl] at this;cases this
    | some d=>rw [show gtP ps q=d by unfold gtP;rw [e];rfl,hX] at this;exact ⟨d,rfl,this⟩
  have h1:fL n (some ps)=true:=by
    rw [bO,f_ _ h9,decide_eq_true hl,acx,aaR];intro q hq;obtain ⟨d,e,_⟩:=at_ q hq;rw [e];rfl
  refine ⟨h1,List.all_eq_true.mpr fun p hp=>?_⟩;by_cases c:∃ q∈sfl n n,p.1=.tup [q.1,q.2]
  · obtain ⟨q,hq,e⟩:=c;obtain ⟨d,e2,e3⟩:=at_ q hq;have hm:=eT e2;have : p=(MK.tup [q.1,q.2],d):=by
      obtain ⟨i,hi⟩:=List.getElem?_of_mem hp;obtain ⟨j,hj⟩:=List.getElem?_of_mem hm;have a1:(ps.map (·.1))[i]?=some (MK.tup [q.1,q.2]):=by rw [aap,hi,← e];rfl
      have a2:(ps.map (·.1))[j]?=some (MK.tup [q.1,q.2]):=by rw [aap,hj];rfl
      have il:=(aaK.mp a1).1;have:=(List.getElem?_inj il nd).mp (a1.trans a2.symm);subst this;exact aas (hi.symm.trans hj)
    rw [this];exact e3
  · exfalso
    have big:=gp (l:=p.1 :: (sfl n n).map fun q=>MK.tup [q.1,q.2]) (r:=ps.map (·.1)) (by
      refine List.nodup_cons.mpr ⟨fun z=>?_,?_⟩
      · obtain ⟨q,hq,e⟩:=aal.mp z;exact c ⟨q,hq,e.symm⟩
      · refine List.Pairwise.map _ (fun a b hab z=>hab ?_) (mU n h9);injection z with z
        injection z with z1 z
        injection z with z2
        exact Prod.ext z1 z2) (fun x hx=>by
      rcases aai.mp hx with rfl|hx
      · exact abu hp
      · obtain ⟨q,hq,rfl⟩:=aal.mp hx;obtain ⟨d,e2,_⟩:=at_ q hq;exact aal.mpr ⟨_,eT e2,rfl⟩)
    simp only [aaN,aab,f_ n h9] at big;lia
theorem s_ {E:Int × Int→Int × Int} {ns:List Int} {gs:List Sg} {q:Int × Int} {x:Int} (h:q.1≤q.2):x∈fnE E ns gs q↔x∈wiL E ns gs q:=by
  unfold fnE wiL;by_cases e:q.1=q.2
  · have : eV E gs q=[]:=by
      unfold eV bh;rw [show (q.2 - q.1).toNat=0 by lia];rfl
    rw [if_pos e,if_pos e,this,List.append_nil]
  · rw [if_neg e,if_neg e,ace,mem_je]
section
variable {P:Program} {w:World} {K:aaa} {mg:Str→Option Value} {base:Heap} {f:Addr} {fd:FuncData}
def ku (w:World) (K:aaa):Sp:=fun vs H Q _=>∃ (r:Addr) (ns:List Int) (gs:List Sg) (t:Option PPa) (v:V),vs=[.ref r,.str (ar gs),v]∧H r=some (.lst (ns.map V.int))∧1≤ns.length∧ns.length≤9∧1≤gs.length∧gs.length≤3∧ThIn w K H t v∧(∀ ps,t=some ps→OkP ps∧(ps.map (·.1)).Nodup) ∧
  ∀ H',Same H H'→(eE ns gs t=none→Q .non H')∧(∀ e tt,eE ns gs t=some e→H' tt=some (.tup [.int e.1,.int e.2])→Q (.ref tt) H')
abbrev dq:Stmt:=top 32
theorem aK:FnScope ["row","signs","thing","many","i","j","pair","some","k","one","other"] ["row","signs","thing"] (ao dq):=⟨rfl,rfl,rfl,by decide +kernel,rfl,by decide +kernel,by decide +kernel⟩
theorem jG (F:Fun K "_law_said" "_law_said" dq f fd) (B:Bu K mg) (C__law_put:Cal P w K mg base "_law_put" 1 ["sign","one","other"] fX) (C__law_is_pair:Cal P w K mg base "_law_is_pair" 1 ["thing"] fe):FnOk P w K mg base CX0 2 f fd ["row","signs","thing"] (ku w K):=by
  refine F.ok aK (fun vs H Q E h=>?_) (fun cdv A outer s H vs Q E0 hr h=>?_)
  · obtain ⟨r,ns,gs,t,v,rfl,_⟩:=h;rfl
  obtain ⟨r,ns,gs,t,v,rfl,er,n1,n9,g1,g3,ht,hok,qq⟩:=h;refine ⟨_,(@ag _ _ _ _ _ (@aE _ _ (3) _ _ _ _ (aK).nd rfl (Or.inl rfl) (@ah _ _ _ _ _ _ _ _ _ aD rfl B.ilen aaL (@aa _ _ _ _ _ (pv 0) ac (by rfl)) (by decide) (by decide) (by rfl) (by rfl)) (by rfl) (by first|exact .inl rfl|exact .inr rfl|assumption)) (@ag _ _ _ _ _ (@aW _ _ _ _ _ _ _ _ (@PW.pt _ _ _ (@dR _ _ _ _ _ _ _ (@bq _ _ _ _ (@bc _ _ _ (@ah _ _ _ _ _ _ _ _ _ (@eY _ ("dict") (w) _ rfl rfl) rfl B.iisinstance aag (@aa _ _ _ _ _ (pv 2) (@aa _ _ _ _ _ (@aH _ _ (.ty "dict") _ _ rfl B.idict abi rfl (by decide) (by decide)) ac (by rfl)) (by rfl)) (by decide) (by decide) (by rfl) (by rfl)) (by intro _;rfl))) (@cL _ _ _ _ (@aG _ _ _ _ _ _ _ _ g0 (@ah _ _ _ _ _ _ _ _ _ (@h_ _ (w) rfl) rfl B.ilen aaL (@aa _ _ _ _ _ (pv 2) ac (by rfl)) (by decide) (by decide) (by rfl) (by rfl)) (@ap _ _ _ _ _ _ _ _ gm (@ap _ _ _ _ _ _ _ _ cC (pv 3) (@ap _ _ _ _ _ _ _ _ aX (pv 3) ae)) ae) (ay _))))) (@af _ _ _ (@ax _ _ _ _ bN)) aF) (@ag _ _ _ _ _ (@bd _ _ _ _ _ _ _ _ aaC rfl (@bp _ _ _ _ _ _ rfl B.irange (@aa _ _ _ _ _ (pv 3) ac (by rfl)) (by rfl)) (@am _ _ (4) _ (aK).nd rfl (Or.inl rfl) (.inl rfl)) (@af _ _ _ (@bd _ _ _ _ _ _ _ _ aaC rfl (@ci _ _ _ _ _ _ _ rfl B.irange (@aa _ _ _ _ _ (pv 4) (@aa _ _ _ _ _ (pv 3) ac (by rfl)) (by rfl)) (by rfl) (by rfl)) (@am _ _ (5) _ (aK).nd rfl (Or.inl rfl) (.inl rfl)) (@ag _ _ _ _ _ (@aE _ _ (6) _ _ _ _ (aK).nd rfl (Or.inl rfl) (@jz _ _ _ _ _ _ _ _ _ (w) rfl (u1 hr.units) (pv 2) (@au _ _ _ _ _ (@aa _ _ _ _ _ (pv 4) (@aa _ _ _ _ _ (pv 5) ac (by rfl)) (by rfl))) bN ⟨rfl,rfl,rfl,rfl⟩) (by rfl) (by first|exact .inl rfl|exact .inr rfl|assumption)) (@af _ _ _ (@aW _ _ _ _ _ _ _ _ (@bq _ _ _ _ (@bc _ _ _ (@aq _ _ _ _ _ _ _ _ _ _ _ C__law_is_pair hr (by lia) rfl (@aa _ _ _ _ _ (pv 6) ac (by rfl)) (by decide) (by rfl) (by rfl)) (by intro _;rfl))) (@af _ _ _ (@ax _ _ _ _ bN)) aF))) (by intro _;rfl))) (by intro _;rfl)) (@ag _ _ _ _ _ (@bd _ _ _ _ _ _ _ _ aaC rfl (@bp _ _ _ _ _ _ rfl B.irange (@aa _ _ _ _ _ (pv 3) ac (by rfl)) (by rfl)) (@am _ _ (4) _ (aK).nd rfl (Or.inl rfl) (.inl rfl)) (@af _ _ _ (@bd _ _ _ _ _ _ _ _ aaC rfl (@ci _ _ _ _ _ _ _ rfl B.irange (@aa _ _ _ _ _ (pv 4) (@aa _ _ _ _ _ (pv 3) ac (by rfl)) (by rfl)) (by rfl) (by rfl)) (@am _ _ (5) _ (aK).nd rfl (Or.inl rfl) (.inl rfl)) (@ag _ _ _ _ _ (@aE _ _ (7) _ _ _ _ (aK).nd rfl (Or.inl rfl) (@ap _ _ _ _ _ _ _ _ iF (@aN _ _ _ _ (@aa _ _ _ _ _ (@bi _ _ _ _ _ _ _ ix_list (pv 0) (pv 4) (fun _ _=>rfl)) ac (by rfl))) (@a5 _ _ _ _ _ _ _ _ _ bP rfl B.iint aaS (@aa _ _ _ _ _ (@aQ _ _ _ _ _ _ _ _ bj (pv 4) (pv 5) (ay _)) ac (by rfl)) (by decide) (by decide) (by rfl) (by rfl))) (by rfl) (by first|exact .inl rfl|exact .inr rfl|assumption)) (@ag _ _ _ _ _ (@bd _ _ _ _ _ _ _ _ aaC rfl (@ci _ _ _ _ _ _ _ rfl B.irange (@aa _ _ _ _ _ (pv 4) (@aa _ _ _ _ _ (pv 5) ac (by rfl)) (by rfl)) (by rfl) (by rfl)) (@am _ _ (8) _ (aK).nd rfl (Or.inl rfl) (.inl rfl)) (@af _ _ _ (@bd _ _ _ _ _ _ _ _ aaC rfl (@cZ _ _ _ _ (@bC _ _ _ _ _ _ (w) rfl (u1 hr.units) (pv 2) (@au _ _ _ _ _ (@aa _ _ _ _ _ (pv 4) (@aa _ _ _ _ _ (pv 8) ac (by rfl)) (by rfl))) (fun _ _=>rfl))) (@am _ _ (9) _ (aK).nd rfl (Or.inr rfl) (.inl rfl)) (@af _ _ _ (@bd _ _ _ _ _ _ _ _ aaC rfl (@cZ _ _ _ _ (@bC _ _ _ _ _ _ (w) rfl (u1 hr.units) (pv 2) (@au _ _ _ _ _ (@aa _ _ _ _ _ (@ap _ _ _ _ _ _ _ _ aX (pv 8) ae) (@aa _ _ _ _ _ (pv 5) ac (by rfl)) (by rfl))) (fun _ _=>rfl))) (@am _ _ (10) _ (aK).nd rfl (Or.inr rfl) (.inl rfl)) (@af _ _ _ (@bQ _ _ _ _ (@jC _ _ _ _ _ _ _ _ _ _ _ _ abt ab9 aca fu (pv 7) (@aa _ _ _ _ _ (@cF _ _ _ _ _ _ _ _ (["sign","one","other"]) ([none,some 9,some 10]) _ _ _ _ rfl (@iB _ _ _ _ (pv 1)) rfl ⟨rfl,⟨rfl,trivial⟩⟩ ⟨⟨rfl,Or.inl rfl,Or.inl rfl⟩,⟨⟨rfl,Or.inl rfl,Or.inl rfl⟩,trivial⟩⟩ (fun _ _ _ _=>⟨(@am _ _ (0) _ (show aaZ (["sign","one","other"]:List Str) by decide +kernel) rfl (Or.inl rfl) (.inr rfl)),aY,(@aq _ _ _ _ _ _ _ _ _ _ _ C__law_put hr (by lia) rfl (@aa _ _ _ _ _ (pv 0) (@aa _ _ _ _ _ (pv 1) (@aa _ _ _ _ _ (pv 2) ac (by rfl)) (by rfl)) (by rfl)) (by decide) (by rfl) (by rfl))⟩) (by rfl) (by rfl) (by rfl) (by rfl) (by intro _;rfl)) ac (by rfl)) (by rfl) (by rfl) (by rfl) (by rfl) (by rfl)) (by rfl))) (by intro _;rfl))) (by intro _;rfl))) (by intro _;rfl)) (@af _ _ _ (@aW _ _ _ _ _ _ _ _ (@bq _ _ _ _ (@m_ _ _ _ _ _ _ _ _ _ _ _ _ _ _ _ _ gj gj gj (@bi _ _ _ _ _ _ _ ix_tup (@bC _ _ _ _ _ _ (w) rfl (u1 hr.units) (pv 2) (@au _ _ _ _ _ (@aa _ _ _ _ _ (pv 4) (@aa _ _ _ _ _ (pv 5) ac (by rfl)) (by rfl))) (fun _ _=>rfl)) ae (fun _ _=>rfl)) (@ah _ _ _ _ _ _ _ _ _ (@dL _ rfl) rfl B.imin abC (@aa _ _ _ _ _ (pv 7) ac (by rfl)) (by decide) (by decide) (by rfl) (by rfl)) (@ah _ _ _ _ _ _ _ _ _ (@dO _ rfl) rfl B.imax abX (@aa _ _ _ _ _ (pv 7) ac (by rfl)) (by decide) (by decide) (by rfl) (by rfl)) (@bi _ _ _ _ _ _ _ ix_tup (@bC _ _ _ _ _ _ (w) rfl (u1 hr.units) (pv 2) (@au _ _ _ _ _ (@aa _ _ _ _ _ (pv 4) (@aa _ _ _ _ _ (pv 5) ac (by rfl)) (by rfl))) (fun _ _=>rfl)) ae (fun _ _=>rfl)) (by with_unfolding_all rfl))) (@af _ _ _ (@ax _ _ _ _ bN)) aF)))) (by intro _;rfl))) (by intro _;rfl)) (@af _ _ _ (@ax _ _ _ _ (@bC _ _ _ _ _ _ (w) rfl (u1 hr.units) (pv 2) (@au _ _ _ _ _ (@aa _ _ _ _ _ ae (@aa _ _ _ _ _ (@ap _ _ _ _ _ _ _ _ cB (pv 3) ae) ac (by rfl)) (by rfl))) (fun _ _=>rfl)))))))),?_⟩;have hl:(ns.map V.int).length=ns.length:=aab _;have gne:gs≠[]:=fun z=>by rw [z] at g1;simp at g1
  have t2:(2:Nat)≤sizeLine:=by decide
  refine ⟨_,rfl,r,_,rfl,.inl (SqL.of er),?_⟩;rw [hl];cases t with
  | none =>
    obtain ⟨n,ty,hk⟩:=ht;exact ⟨_,rfl,_,_,false,rfl,.inl ty,hk,false,rfl,a4 ((qq _ (Same.refl _)).1 rfl)⟩
  | some ps =>
  obtain ⟨hokp,hnd⟩:=hok ps rfl;obtain ⟨d,rfl,hpa⟩:=ht;obtain ⟨es,pd,hes⟩:=id hpa;have lk:es.length=ps.length:=(aar hes).symm;have mul9:ns.length * (ns.length+1)≤9 * 10:=acq n9 (by lia);refine ⟨_,rfl,_,_,true,rfl,.inr ⟨d,es,rfl,pd,rfl⟩,rfl,true,rfl,aR ⟨_,rfl,d,es,rfl,pd,_,rfl,_,rfl,_,_,rfl,rfl,_,_,rfl,rfl,.inl ⟨by lia,by lia⟩,_,_,rfl,rfl,⟨by decide,by decide⟩,?_⟩⟩;rw [lk];have hz:((ns.length:Int) * ((ns.length:Int)+1)) / 2=((ns.length * (ns.length+1) / 2:Nat):Int):=by
    have e:((ns.length * (ns.length+1):Nat):Int)=(ns.length:Int) * ((ns.length:Int)+1):=by rw [Int.natCast_mul];rfl
    rw [← e];lia
  show rNe (V.int (ps.length:Nat)) (V.int (((ns.length:Int) * ((ns.length:Int)+1)) / 2)) H _;rw [hz];refine ⟨rfl,_,rfl,?_⟩;by_cases c:ps.length=ns.length * (ns.length+1) / 2
  case neg =>
    have e:=dH (oZ (gs:=gs) n9 c);have cz:¬ V.int (ps.length:Nat)=V.int ((ns.length * (ns.length+1) / 2:Nat):Int):=fun z=>c (by have:=V.int.inj z;lia);show if (!decide (V.int (ps.length:Nat)=V.int ((ns.length * (ns.length+1) / 2:Nat):Int)))=true then _ else _
    rw [decide_eq_false cz];exact a4 ((qq _ (Same.refl _)).1 e)
  refine oR (by rw [c]) ?_;have hlr:ns.length < 2 ^ 60:=by lia
  refine ⟨_,rfl,_,rfl,by lia,by lia,?_⟩;refine a9 (n:=((ns.length:Nat):Int).toNat) (fun a σ H'=>∃ (c4 c5 c6 c7 c8 c9 ca:Option V),σ=[some (.ref r),some (.str (ar gs)),some (.ref d),some (.int (ns.length:Nat)),c4,c5,c6,c7,c8,c9,ca]∧Same H H'∧∀ q:Int × Int,0≤q.1→q.1 < (a:Int)→q.1≤q.2→q.2 < ns.length→aT (gtP ps q)=true) ⟨_,_,_,_,_,_,_,rfl,Same.refl _,fun q a b=>absurd b (by lia)⟩ ?_ ?_
  · rintro a σ H1 ha ⟨c4,c5,c6,c7,c8,c9,ca,rfl,S1,h1⟩;obtain ⟨i0,hi0⟩:∃ i0:Int,(0:Int)+(a:Int)=i0:=⟨_,rfl⟩
    rw [hi0];have hai:(a:Int)=i0:=by lia
    refine ⟨_,rfl,_,rfl,i0,(ns.length:Int),rfl,⟨by lia,by lia,by lia,by lia⟩,?_⟩;refine a9 (n:=((ns.length:Int) - i0).toNat) (fun b σ H'=>∃ (c5 c6 c7 c8 c9 ca:Option V),σ=[some (.ref r),some (.str (ar gs)),some (.ref d),some (.int (ns.length:Nat)),some (.int i0),c5,c6,c7,c8,c9,ca]∧Same H H'∧∀ b':Int,i0≤b'→b' < i0+(b:Int)→aT (gtP ps (i0,b'))=true) ⟨_,_,_,_,_,_,rfl,S1,fun b' x y=>absurd y (by lia)⟩ ?_ ?_
    · rintro b σ H2 hb ⟨c5,c6,c7,c8,c9,ca,rfl,S2,h2⟩;obtain ⟨j,hj⟩:∃ j:Int,i0+(b:Int)=j:=⟨_,rfl⟩
      rw [hj] at h2 ⊢;refine ⟨_,rfl,d,es,rfl,pd.mono S2,_,rfl,_,rfl,t2,fun k1 nk1=>?_⟩;have sk:=Same.new nk1 (.tup [.int i0,.int j]);have S3:=S2.trans sk;have ek1:upd H2 k1 (.tup [.int i0,.int j]) k1=_:=ad;generalize upd H2 k1 (.tup [.int i0,.int j])=H3 at sk S3 ek1 ⊢;have hd:Dat H3 (gtP ps (i0,j)) ((bn es (.tup [i0,j])).getD .non):=by
        unfold gtP;rcases kM hes (i0,j) with ⟨e1,e2⟩|⟨dd,v,e1,e2,h⟩
        · rw [e1,show bn es (.tup [i0,j])=none from e2];simp only [Option.getD_none,Dat]
        · rw [e1,show bn es (.tup [i0,j])=some v from e2];exact Dat.mono S3 _ _ h
      refine ⟨_,⟨es,_,pd.mono S3,MkIn.pair (i:=i0) (j:=j) ek1,rfl⟩,?_⟩;refine ⟨_,rfl,_,_,rfl,hd,fun H4 s4=>⟨_,rfl,?_⟩⟩;have S4:=S3.trans s4;cases hp:aT (gtP ps (i0,j)) with
      | false=>exact a4 ((qq _ S4).1 (dH (oY (q:=(i0,j)) (by simp only;lia) (by simp only;lia) (by simp only;lia) hp)))
      | true =>
        refine aR ⟨_,_,_,_,_,_,rfl,S4,fun b' x y=>?_⟩;by_cases z:b' < j
        · exact h2 b' x z
        · have : b'=j:=by lia
          rw [this];exact hp
    · rintro σ H2 ⟨c5,c6,c7,c8,c9,ca,rfl,S2,h2⟩;refine ⟨_,_,_,_,_,_,_,rfl,S2,fun q q0 q1 q2 q3=>?_⟩;by_cases z:q.1 < (a:Int)
      · exact h1 q q0 z q2 q3
      · have e:q.1=i0:=by lia
        have:=h2 q.2 (by lia) (by lia)
        rwa [← e] at this
  rintro σ H2 ⟨c4,c5,c6,c7,c8,c9,ca,rfl,S2,h2⟩;obtain ⟨hh,hpr⟩:=kX n9 hnd c (fun q a b z=>h2 q a (by lia) b z);have hG:=(oW hpa hh hpr).mono S2;have hB:=qF hokp;have e0:=jo (ns:=ns) (gs:=gs) (ps:=ps);have e1:∀ {q:Int × Int},0≤q.1→q.1≤q.2→q.2 < ns.length→dP ns gs (EP ps) q=false→eE ns gs (some ps)=none:=fun a b c d=>dH (oX a b c d);obtain ⟨E,hE⟩:∃ E,EP ps=E:=⟨_,rfl⟩
  rw [hE] at hG hB e1;refine ⟨_,rfl,_,rfl,by lia,by lia,?_⟩;refine a9 (n:=((ns.length:Nat):Int).toNat) (fun a σ H'=>∃ (c4 c5 c6 c7 c8 c9 ca:Option V),σ=[some (.ref r),some (.str (ar gs)),some (.ref d),some (.int (ns.length:Nat)),c4,c5,c6,c7,c8,c9,ca]∧Same H2 H'∧∀ q:Int × Int,0≤q.1→q.1 < (a:Int)→q.1≤q.2→q.2 < ns.length→dP ns gs E q=true) ⟨_,_,_,_,_,_,_,rfl,Same.refl _,fun q a b=>absurd b (by lia)⟩ ?_ ?_
  · rintro a σ H1 ha ⟨c4,c5,c6,c7,c8,c9,ca,rfl,S1,h1⟩;obtain ⟨i0,hi0⟩:∃ i0:Int,(0:Int)+(a:Int)=i0:=⟨_,rfl⟩
    rw [hi0];have hai:(a:Int)=i0:=by lia
    refine ⟨_,rfl,_,rfl,i0,(ns.length:Int),rfl,⟨by lia,by lia,by lia,by lia⟩,?_⟩;refine a9 (n:=((ns.length:Int) - i0).toNat) (fun b σ H'=>∃ (c5 d6 c7 c8 c9 ca:Option V),σ=[some (.ref r),some (.str (ar gs)),some (.ref d),some (.int (ns.length:Nat)),some (.int i0),c5,d6,c7,c8,c9,ca]∧Same H2 H'∧∀ b':Int,i0≤b'→b' < i0+(b:Int)→dP ns gs E (i0,b')=true) ⟨_,_,_,_,_,_,rfl,S1,fun b' x y=>absurd y (by lia)⟩ ?_ ?_
    · rintro b σ H4 hb ⟨c5,d6,c7,c8,c9,ca,rfl,S4,hok4⟩;obtain ⟨j,hj⟩:∃ j:Int,i0+(b:Int)=j:=⟨_,rfl⟩
      rw [hj] at hok4 ⊢;obtain ⟨q0,eq0⟩:∃ q0:Int × Int,q0=(i0,j):=⟨_,rfl⟩
      have q1:q0.1=i0:=by rw [eq0]
      have q2:q0.2=j:=by rw [eq0]
      have i0a:0≤i0:=by lia
      have i0j:i0≤j:=by lia
      have hix:i0.toNat < ns.length:=by lia
      have eat:atI (ns.map V.int) i0=some (.int (ns.getD i0.toNat 0)):=by
        have h:atI (ns.map V.int) ((i0.toNat:Nat):Int)=some (.int (ns.getD i0.toNat 0)):=bS (by rw [aap,aac hix,aaP,aac hix];rfl)
        rwa [show ((i0.toNat:Nat):Int)=i0 by lia] at h
      have er4:=S4 _ _ (S2 _ _ er);refine ⟨_,rfl,_,rfl,r,_,_,_,rfl,rfl,SqL.of er4,eat,?_⟩;refine ⟨(by show 1≤sizeLine;decide),fun p1 n1=>⟨_,rfl,_,rfl,rfl,.inr ⟨_,rfl,p1,_,_,rfl,rfl,ad,by split <;> decide,by split <;> decide,(by split <;> first|(show 1 * 1≤sizeLine;decide)|(show 1 * 0≤sizeLine;decide)),fun ps nps=>?_⟩⟩⟩;obtain ⟨b0,hb0⟩:∃ b0:List Int,(if q0.1=q0.2 then [ns.getD q0.1.toNat 0] else [])=b0:=⟨_,rfl⟩
      have eb0:(aaF (if decide (V.int i0=V.int j)=true then (1:Int) else 0).toNat [V.int (ns.getD i0.toNat 0)]).flatten=b0.map V.int:=by
        rw [← hb0,q1,q2];by_cases c:i0=j
        · rw [decide_eq_true (by rw [c]),if_pos c];rfl
        · rw [decide_eq_false (fun z=>c (by injection z)),if_neg c];rfl
      rw [eb0];have lb0:b0.length≤1:=by rw [← hb0];split <;> simp
      have s5:=(Same.new n1 (.lst [V.int (ns.getD i0.toNat 0)])).trans (Same.new nps (.lst (b0.map V.int)));have nps4:H4 ps=none:=(Same.new n1 (.lst [V.int (ns.getD i0.toNat 0)])).free nps;have e6:upd (upd H4 p1 (.lst [V.int (ns.getD i0.toNat 0)])) ps (.lst (b0.map V.int)) ps=some (.lst (b0.map V.int)):=ad;generalize upd (upd H4 p1 (.lst [V.int (ns.getD i0.toNat 0)])) ps (.lst (b0.map V.int))=H5 at s5 e6 ⊢;have hG5:=(hG.mono S4).mono s5;have look:∀ {H':Hp} {q':Int × Int} {k:Addr},But ps H5 H'→0≤q'.1→q'.1≤q'.2→q'.2 < ns.length→H' k=some (.tup [.int q'.1,.int q'.2])→∃ t,pG w H' d (.ref k) (some (.ref t))∧H' t=some (.tup [.int (E q').1,.int (E q').2]):=fun {H' q' k} b z0 z1 z2 hk=>by
        obtain ⟨es,pd,hg⟩:=hG5;obtain ⟨t,v1,v2⟩:=hg q' z0 z1 z2;exact ⟨t,⟨es,_,Pd.butL b e6 pd,MkIn.pair hk,v1.symm⟩,b _ _ (fun z=>by rw [z,e6] at v2;cases v2) v2⟩
      refine ⟨_,rfl,_,rfl,i0,j,rfl,⟨by lia,by lia,by lia,by lia⟩,?_⟩;refine a9 (n:=(j - i0).toNat) (fun c σ H'=>∃ (xs:List Int) (c6 c7 c8:Option V),σ=[some (.ref r),some (.str (ar gs)),some (.ref d),some (.int (ns.length:Nat)),some (.int i0),some (.int j),d6,some (.ref ps),c6,c7,c8]∧But ps H5 H'∧H' ps=some (.lst (xs.map V.int))∧xs.length≤1+c * 12∧xs=b0++((bh q0).take c).flatMap fun c=>(two (E (q0.1,c))).flatMap fun x=>(two (E (c+1,q0.2))).flatMap fun y=>a6 gs x y) ⟨b0,_,_,_,rfl,But.refl,e6,by lia,by simp⟩ ?_ ?_
      · rintro c σ H6 hc ⟨xs6,f6,f7,f8,rfl,b6,ep6,l6,x6⟩;have hcut:(bh q0)[c]?=some (i0+(c:Int)):=by
          unfold bh;rw [aap,aa1 (by rw [q1,q2];lia),q1];rfl
        obtain ⟨cv,hcv⟩:∃ cv:Int,i0+(c:Int)=cv:=⟨_,rfl⟩
        rw [hcv] at hcut ⊢;have cv1:i0≤cv:=by lia
        have cv2:cv < j:=by lia
        refine ⟨_,rfl,_,rfl,_,rfl,t2,fun k1 nk1=>?_⟩;have sk1:=Same.new nk1 (.tup [.int i0,.int cv]);have ep7:=sk1 _ _ ep6;have ek1:upd H6 k1 (.tup [.int i0,.int cv]) k1=_:=ad;have b7:=b6.trans (But.of sk1);generalize upd H6 k1 (.tup [.int i0,.int cv])=H7 at b7 ep7 ek1 ⊢;obtain ⟨v1,dg1,ev1⟩:=look (q':=(i0,cv)) b7 i0a cv1 (by simp only;lia) ek1;refine ⟨d,_,rfl,dg1,v1,rfl,⟨_,SqT.of ev1⟩,?_⟩;have nv1p:v1≠ps:=fun e=>by rw [e,ep7] at ev1;cases ev1
        obtain ⟨bs1,bs2⟩:=hB (i0,cv);obtain ⟨bt1,bt2⟩:=hB (cv+1,j);obtain ⟨E1,hE1⟩:∃ E1,E (i0,cv)=E1:=⟨_,rfl⟩
        obtain ⟨E2,hE2⟩:∃ E2,E (cv+1,j)=E2:=⟨_,rfl⟩
        rw [hE1] at bs1 bs2 ev1;rw [hE2] at bt1 bt2;have fin:∀ {xs:List Int},xs=xs6++((two E1).flatMap fun x=>(two E2).flatMap fun y=>a6 gs x y)→xs=b0++((bh q0).take (c+1)).flatMap fun c=>(two (E (q0.1,c))).flatMap fun x=>(two (E (c+1,q0.2))).flatMap fun y=>a6 gs x y:=fun {xs} e=>by
          rw [a_ hcut,← aaw,← x6,e,q1,q2,hE1,hE2]
        refine dD (Trn.tup (xs:=[V.int E1.1,V.int E1.2])) (fun o σ H'=>∃ (xs:List Int) (c7 c8:Option V),σ=[some (.ref r),some (.str (ar gs)),some (.ref d),some (.int (ns.length:Nat)),some (.int i0),some (.int j),d6,some (.ref ps),some (.int cv),c7,c8]∧But ps H7 H'∧H' ps=some (.lst (xs.map V.int))∧xs.length≤1+c * 12+o * 6∧xs=xs6++((two E1).take o).flatMap fun x=>(two E2).flatMap fun y=>a6 gs x y) ⟨xs6,_,_,rfl,But.refl,ep7,by lia,by simp⟩ ?_ ?_ ?_
        · rintro o σ H8 _ ⟨xs8,_,_,rfl,b8,_⟩;exact SqT.of (b8 _ _ nv1p ev1)
        · rintro o x σ H8 H8' ho ⟨rfl,hx⟩ ⟨xs8,c7,c8,rfl,b8,ep8,l8,x8⟩;have ho2:o < 2:=ho;obtain ⟨xv,hxv,rfl,bxv⟩:∃ xv,(two E1)[o]?=some xv∧x=V.int xv∧xv.natAbs < 2 ^ 4000:=by
            have : o=0∨o=1:=by lia
            rcases this with rfl|rfl
            · exact ⟨_,rfl,(aas hx).symm,bs1⟩
            · exact ⟨_,rfl,(aas hx).symm,bs2⟩
          refine ⟨_,rfl,_,rfl,_,_,rfl,rfl,_,rfl,t2,fun k2 nk2=>?_⟩;have sk2:=Same.new nk2 (.tup [.int (cv+1),.int j]);have ep9:=sk2 _ _ ep8;have ek2:upd H8' k2 (.tup [.int (cv+1),.int j]) k2=_:=ad;have b9:=b8.trans (But.of sk2);generalize upd H8' k2 (.tup [.int (cv+1),.int j])=H9 at b9 ep9 ek2 ⊢;obtain ⟨v2,dg2,ev2⟩:=look (q':=(cv+1,j)) (b7.trans b9) (by simp only;lia) (by simp only;lia) (by simp only;lia) ek2;rw [hE2] at ev2;refine ⟨d,_,rfl,dg2,v2,rfl,⟨_,SqT.of ev2⟩,?_⟩;have nv2p:v2≠ps:=fun e=>by rw [e,ep9] at ev2;cases ev2
          refine dD (Trn.tup (xs:=[V.int E2.1,V.int E2.2])) (fun u σ H'=>∃ (xs:List Int) (c8:Option V),σ=[some (.ref r),some (.str (ar gs)),some (.ref d),some (.int (ns.length:Nat)),some (.int i0),some (.int j),d6,some (.ref ps),some (.int cv),some (.int xv),c8]∧But ps H9 H'∧H' ps=some (.lst (xs.map V.int))∧xs.length≤1+c * 12+o * 6+u * 3∧xs=xs8++((two E2).take u).flatMap fun y=>a6 gs xv y) ⟨xs8,_,rfl,But.refl,ep9,by lia,by simp⟩ ?_ ?_ ?_
          · rintro u σ H8 _ ⟨xs8,_,rfl,b8,_⟩;exact SqT.of (b8 _ _ nv2p ev2)
          · rintro u y σ Ha Ha' hu ⟨rfl,hy⟩ ⟨xsa,c8,rfl,ba,epa,la,xa⟩;have hu2:u < 2:=hu;obtain ⟨yv,hyv,rfl,byv⟩:∃ yv,(two E2)[u]?=some yv∧y=V.int yv∧yv.natAbs < 2 ^ 4000:=by
              have : u=0∨u=1:=by lia
              rcases this with rfl|rfl
              · exact ⟨_,rfl,(aas hy).symm,bt1⟩
              · exact ⟨_,rfl,(aas hy).symm,bt2⟩
            refine ⟨_,rfl,.inl ⟨rfl,_,SqL.of epa⟩,_,rfl,_,rfl,cR gs,?_⟩;refine cN (Trn.str (z:=ar gs)) (fun i ys H'=>H'=Ha'∧ys=((gs.take i).map fun g=>V.int (g.op xv yv))) ⟨rfl,rfl⟩ (fun i ys H' hi z=>⟨trivial,?_⟩) (fun i x ys H1 H' hi it z Nx nx=>?_) (fun ys H' z p9 n9=>?_)
            · rw [z.2,aab,aaJ];exact aB (by lia)
            · obtain ⟨rfl,rfl⟩:=z;obtain ⟨rfl,cc,hcc,rfl⟩:=it;obtain ⟨g,hg,rfl⟩:=lT hcc;refine ⟨_,rfl,_,rfl,_,rfl,xv,g,yv,by rw [bT];rfl,bxv,byv,nx _ _ ⟨rfl,?_⟩⟩;rw [aaA,hg,aaM];rfl
            · obtain ⟨rfl,rfl⟩:=z;have s9:=Same.new n9 (.lst ((gs.take (ar gs).cps.size).map fun g=>V.int (g.op xv yv)));have ez:(gs.take (ar gs).cps.size).map (fun g=>V.int (g.op xv yv))=(a6 gs xv yv).map V.int:=by
                rw [eB,abf];unfold a6;rw [aaD];rfl
              have lg:(a6 gs xv yv).length=gs.length:=by unfold a6;rw [aab]
              refine ⟨ps,p9,_,_,rfl,rfl,s9 _ _ epa,ad,?_,?_⟩
              · rw [ez,aab,aab,lg];exact abz (aB (by lia))
              · rw [ez] at s9 ⊢;refine ⟨xsa++a6 gs xv yv,_,rfl,?_,by rw [aaM];exact ad,?_,?_⟩
                · intro b o hb e;rw [ak hb];exact s9 _ _ (ba _ _ hb e)
                · rw [aav,lg];lia
                · rw [a_ hyv,xa,aaw]
          · rintro σ Ha ⟨xsa,c8,rfl,ba,epa,la,xa⟩;refine ⟨xsa,_,_,rfl,b9.trans ba,epa,?_,?_⟩
            · have la:xsa.length≤1+c * 12+o * 6+2 * 3:=la;lia
            · rw [xa,a_ hxv,x8,aaw];rfl
        · rintro σ H8 ⟨xs8,c7,c8,rfl,b8,ep8,l8,x8⟩;refine ⟨xs8,_,_,_,rfl,b7.trans b8,ep8,?_,fin x8⟩;have l8:xs8.length≤1+c * 12+2 * 6:=l8;lia
      · rintro σ H6 ⟨xs6,f6,f7,f8,rfl,b6,ep6,l6,x6⟩;have q12:q0.1≤q0.2:=by rw [q1,q2];lia
        have x6:xs6=fnE E ns gs q0:=by
          rw [x6,aaY (by rw [show (bh q0).length=(q0.2 - q0.1).toNat by simp [bh],q1,q2];lia),← fB,← hb0];rfl
        have hne:xs6≠[]:=by rw [x6];exact kZ gne q12
        have sK:∀ {H':Hp},But ps H5 H'→Same H2 H':=fun {H'} b=>S4.trans (fun b' o e=>b _ _ (aj e nps4) (s5 _ _ e));refine ⟨_,rfl,_,rfl,_,rfl,t2,fun k1 nk1=>?_⟩;have sk1:=Same.new nk1 (.tup [.int i0,.int j]);have ep7:=sk1 _ _ ep6;have ek1:upd H6 k1 (.tup [.int i0,.int j]) k1=_:=ad;have b7:=b6.trans (But.of sk1);generalize upd H6 k1 (.tup [.int i0,.int j])=H7 at b7 ep7 ek1 ⊢;obtain ⟨v1,dg1,ev1⟩:=look (q':=(i0,j)) b7 i0a i0j (by simp only;lia) ek1;refine ⟨d,_,rfl,dg1,v1,_,0,_,rfl,rfl,SqT.of ev1,rfl,_,rfl,ps,xs6,rfl,SqL.of ep7,hne,fun m hm hmin=>⟨_,_,rfl,rfl,_,rfl,?_⟩⟩;have mw:∀ x,x∈xs6↔x∈wiL E ns gs (i0,j):=fun x=>by rw [x6,eq0];exact s_ (by simp only;lia)
        have no:∀ {H':Hp},Same H2 H'→dP ns gs E (i0,j)=false→Q .non H':=fun g z=>(qq _ (S2.trans g)).1 (e1 (q:=(i0,j)) i0a i0j (by simp only;lia) z);by_cases c1:(E (i0,j)).1≤m
        case neg =>
          rw [decide_eq_false c1];exact aR ⟨_,rfl,a4 (no (sK b7) (abZ.mpr ⟨m,(mw m).mp hm,by rw [decide_eq_false c1,ab3];exact aae⟩))⟩
        rw [decide_eq_true c1];refine a4 ⟨_,rfl,ps,xs6,rfl,SqL.of ep7,hne,fun M hM hmax=>⟨_,_,rfl,rfl,_,rfl,?_⟩⟩;rw [decide_eq_true (hmax m hm)];refine a4 ⟨_,rfl,_,rfl,_,rfl,t2,fun k2 nk2=>?_⟩;have sk2:=Same.new nk2 (.tup [.int i0,.int j]);have ek2:upd H7 k2 (.tup [.int i0,.int j]) k2=_:=ad;have b8:=b7.trans (But.of sk2);generalize upd H7 k2 (.tup [.int i0,.int j])=H8 at b8 ek2 ⊢;obtain ⟨v2,dg2,ev2⟩:=look (q':=(i0,j)) b8 i0a i0j (by simp only;lia) ek2;refine ⟨d,_,rfl,dg2,v2,_,1,_,rfl,rfl,SqT.of ev2,rfl,_,_,rfl,rfl,_,rfl,?_⟩;by_cases c2:M≤(E (i0,j)).2
        case neg =>
          rw [decide_eq_false c2];exact a4 (no (sK b8) (abZ.mpr ⟨M,(mw M).mp hM,by rw [decide_eq_false c2,aco];exact aae⟩))
        rw [decide_eq_true c2];refine aR ⟨_,_,_,_,_,_,rfl,sK b8,fun b' x y=>?_⟩;by_cases z:b' < j
        · exact hok4 b' x z
        · have : b'=j:=by lia
          rw [this];refine List.all_eq_true.mpr fun x hx=>?_;have hx:=(mw x).mpr hx;rw [aa4,decide_eq_true_eq,decide_eq_true_eq];exact ⟨Int.le_trans c1 (hmin x hx),Int.le_trans (hmax x hx) c2⟩
    · rintro σ H3 ⟨c5,d6,c7,c8,c9,ca,rfl,S3,h3⟩;refine ⟨_,_,_,_,_,_,_,rfl,S3,fun q q0 q1 q2 q3=>?_⟩;by_cases z:q.1 < (a:Int)
      · exact h1 q q0 z q2 q3
      · have e:q.1=i0:=by lia
        have:=h3 q.2 (by lia) (by lia)
        rwa [← e] at this
  · rintro σ H3 ⟨c4,c5,c6,c7,c8,c9,ca,rfl,S3,h3⟩;have e:eE ns gs (some ps)=some (E (0,(ns.length:Int) - 1)):=by
      rw [← hE];refine e0 ?_;unfold cb;rw [hh,hpr,acx,acx,aaR,hE];intro q hq;obtain ⟨a,b,z⟩:=gb _ q hq;exact h3 q a (by lia) b z
    have SF:=S2.trans S3;refine ⟨_,rfl,_,rfl,_,_,rfl,rfl,t2,fun k1 nk1=>?_⟩;have sk:=Same.new nk1 (.tup [.int 0,.int ((ns.length:Int) - 1)]);obtain ⟨es2,pd2,g2⟩:=(hG.mono S3).mono sk;obtain ⟨t,v1,v2⟩:=g2 (0,(ns.length:Int) - 1) (Int.le_refl _) (by simp only;lia) (by simp only;lia);exact ⟨d,.ref t,rfl,⟨es2,_,pd2,MkIn.pair (i:=0) (j:=(ns.length:Int) - 1) ad,v1.symm⟩,(qq _ (SF.trans sk)).2 _ t e v2⟩
end
open PySem L2
def TG (w:World) (K:aaa) (H:Hp) (v:V):Prop:=∃ (t:Option PPa) (d:PyData),ThIn w K H t v∧(∀ ps,t=some ps→OkP ps∧(ps.map (·.1)).Nodup)∧Dx1 w H d v∧OkX d∧szX d≤1500∧d.depth≤20
theorem TG.mono {w:World} {K:aaa} {H H':Hp} {v:V} (g:Same H H') (h:TG w K H v):TG w K H' v:=by
  obtain ⟨t,d,h1,h2,h3,h4⟩:=h;exact ⟨t,d,h1.mono g,h2,h3.mono g,h4⟩
theorem qa {ns:List Int} (sm:e9 ns):OkXs (ns.map PyData.int):=by
  induction ns with
  | nil=>simp only [abn,OkXs]
  | cons n ns ih =>
    simp only [aad,OkXs,OkX];refine ⟨?_,ih fun i hi=>sm i (aak _ hi)⟩;have h:=sm n aaq;have e:(10:Nat) ^ 12=1000000000000:=by decide
    have h:n.natAbs < 10 ^ 12:=by rw [e];lia
    exact aam h (abp (by decide) (by decide))
theorem pM (ns:List Int):szXs (ns.map PyData.int)=ns.length:=by
  induction ns with
  | nil=>rfl
  | cons n ns ih=>simp only [aad,szXs,szX,ih,aaN];lia
theorem ql (ns:List Int):aaW (ns.map PyData.int)=0:=by
  induction ns with
  | nil=>simp [aaW]
  | cons n ns ih=>simp only [aad,aaW,ih,aaX];rfl
theorem kc {H:Hp}:∀ ns:List Int,DatAll H (ns.map PyData.int) (ns.map V.int)
  | []=>by simp only [abn,DatAll]
  | n :: ns=>by
    simp only [aad,DatAll,Dat];exact ⟨_,_,rfl,rfl,kc ns⟩
theorem qS {ns:List Int} {d:PyData} (sm:e9 ns) (n9:ns.length≤9) (ok:OkX d) (sz:szX d≤1500) (dp:d.depth≤20):(PyData.list [.list (ns.map PyData.int),d]).showable=true∧(PyData.list [.list (ns.map PyData.int),d]).depth≤60∧(PyData.list [.list (ns.map PyData.int),d]).shown.length≤sizeLine:=by
  have okl:OkX (.list [.list (ns.map PyData.int),d]):=by simp only [OkX,OkXs];exact ⟨qa sm,ok,trivial⟩
  refine ⟨eR _ okl,?_,mf okl ?_⟩
  · simp only [aaX,aaW,ql];lia
  · simp only [szX,szXs,pM];lia
def Alk (H:Hp) (n:Nat) (a b:V):Prop :=
  (a=.non∧b=.non∧1≤n)∨(∃ i,a=.int i∧b=.int i∧1≤n)∨(∃ (p q:Addr) (e:Int × Int),a=.ref p∧b=.ref q∧H p=some (.tup [.int e.1,.int e.2])∧H q=some (.tup [.int e.1,.int e.2])∧2≤n)
section
variable {P:Program} {w:World} {K:aaa} {mg:Str→Option Value} {base:Heap} {f:Addr} {fd:FuncData}
def fO (n:Nat):Sp:=fun vs H Q _=>∃ a b,vs=[a,b]∧Alk H n a b∧∀ H',Same H H'→Q (.bl true) H'
abbrev cY:Stmt:=top 35
theorem gM:FnScope ["found","due"] ["found","due"] (ao cY):=⟨rfl,rfl,rfl,by decide +kernel,rfl,by decide +kernel,by decide +kernel⟩
theorem iK (F:Fun K "_law_alike" "_law_alike" cY f fd) (bF:Binds K fd ["found","due"] []) (mF:mg "_law_alike" = some (.ref f)) (B:Bu K mg):∀ n,FnOk P w K mg base CX0 (n+1) f fd ["found","due"] (fO n):=by
  intro n
  induction n with
  | zero =>
    refine ⟨fun vs H Q E h=>?_,fun A outer s H args us vs Q E _ _ _ _ h=>?_⟩
    · obtain ⟨a,b,rfl,_⟩:=h;rfl
    · obtain ⟨a,b,_,h,_⟩:=h;rcases h with ⟨_,_,h⟩|⟨_,_,_,h⟩|⟨_,_,_,_,_,_,_,h⟩ <;> lia
  | succ n ih =>
    have C__law_alike:Cal P w K mg base "_law_alike" (n+1) ["found","due"] (fO n):=⟨f,fd,ih,bF,F.kp,mF⟩
    refine F.ok gM (fun vs H Q E h=>?_) (fun cdv A outer s H vs Q E hr h=>?_)
    · obtain ⟨a,b,rfl,_⟩:=h;rfl
    obtain ⟨x,y,rfl,h,qq⟩:=h;refine ⟨_,(@ag _ _ _ _ _ (@aW _ _ _ _ _ _ _ _ (@bc _ _ _ (@ah _ _ _ _ _ _ _ _ _ (@eX _ _ rfl) rfl B.iisinstance aag (@aa _ _ _ _ _ (pv 1) (@aa _ _ _ _ _ (@au _ _ _ _ _ (@aa _ _ _ _ _ (@aH _ _ (.ty "tuple") _ _ rfl B.ituple abr rfl (by decide) (by decide)) (@aa _ _ _ _ _ (@aH _ _ (.ty "list") _ _ rfl B.ilist aa7 rfl (by decide) (by decide)) ac (by rfl)) (by rfl))) ac (by rfl)) (by rfl)) (by decide) (by decide) (by rfl) (by rfl)) (by intro _;rfl)) (@ag _ _ _ _ _ (@aW _ _ _ _ _ _ _ _ (@PW.pt _ _ _ (@dR _ _ _ _ _ _ _ (@aG _ _ _ _ _ _ _ _ g0 (@ah _ _ _ _ _ _ _ _ _ (@aA _ ("list")) rfl B.iisinstance aag (@aa _ _ _ _ _ (pv 0) (@aa _ _ _ _ _ (@aH _ _ (.ty "list") _ _ rfl B.ilist aa7 rfl (by decide) (by decide)) ac (by rfl)) (by rfl)) (by decide) (by decide) (by rfl) (by rfl)) (@ah _ _ _ _ _ _ _ _ _ (@aA _ ("list")) rfl B.iisinstance aag (@aa _ _ _ _ _ (pv 1) (@aa _ _ _ _ _ (@aH _ _ (.ty "list") _ _ rfl B.ilist aa7 rfl (by decide) (by decide)) ac (by rfl)) (by rfl)) (by decide) (by decide) (by rfl) (by rfl)) (ay _)) (@cL _ _ _ _ (@bq _ _ _ _ (@bc _ _ _ (@ah _ _ _ _ _ _ _ _ _ (@eX _ _ rfl) rfl B.iisinstance aag (@aa _ _ _ _ _ (pv 0) (@aa _ _ _ _ _ (@au _ _ _ _ _ (@aa _ _ _ _ _ (@aH _ _ (.ty "tuple") _ _ rfl B.ituple abr rfl (by decide) (by decide)) (@aa _ _ _ _ _ (@aH _ _ (.ty "list") _ _ rfl B.ilist aa7 rfl (by decide) (by decide)) ac (by rfl)) (by rfl))) ac (by rfl)) (by rfl)) (by decide) (by decide) (by rfl) (by rfl)) (by intro _;rfl)))))) (@af _ _ _ (@ax _ _ _ _ dg)) aF) (@ag _ _ _ _ _ (@aW _ _ _ _ _ _ _ _ (@aG _ _ _ _ _ _ _ _ g0 (@ah _ _ _ _ _ _ _ _ _ cQ rfl B.ilen aaL (@aa _ _ _ _ _ (pv 0) ac (by rfl)) (by decide) (by decide) (by rfl) (by rfl)) (@ah _ _ _ _ _ _ _ _ _ cQ rfl B.ilen aaL (@aa _ _ _ _ _ (pv 1) ac (by rfl)) (by decide) (by decide) (by rfl) (by rfl)) (ay _)) (@af _ _ _ (@ax _ _ _ _ dg)) aF) (@af _ _ _ (@ax _ _ _ _ (@aQ _ _ _ _ _ _ _ _ (@kN _ hr.units) (@cF _ _ _ _ _ _ _ _ (["k","found","due"]) ([none,some 0,some 1]) _ _ _ _ rfl (@bp _ _ _ _ _ _ rfl B.irange (@aa _ _ _ _ _ (@ah _ _ _ _ _ _ _ _ _ cQ rfl B.ilen aaL (@aa _ _ _ _ _ (pv 1) ac (by rfl)) (by decide) (by decide) (by rfl) (by rfl)) ac (by rfl)) (by rfl)) rfl ⟨rfl,⟨rfl,trivial⟩⟩ ⟨⟨rfl,Or.inl rfl,Or.inl rfl⟩,⟨⟨rfl,Or.inl rfl,Or.inl rfl⟩,trivial⟩⟩ (fun _ _ _ _=>⟨(@am _ _ (0) _ (show aaZ (["k","found","due"]:List Str) by decide +kernel) rfl (Or.inl rfl) (.inr rfl)),(@eM _ _ _ (@bq _ _ _ _ (@bc _ _ _ (@aq _ _ _ _ _ _ _ _ _ _ _ C__law_alike hr (by lia) rfl (@aa _ _ _ _ _ (@bi _ _ _ _ _ _ _ (@ml _ _ rfl) (pv 1) (pv 0) (fun _ _=>rfl)) (@aa _ _ _ _ _ (@bi _ _ _ _ _ _ _ (@ml _ _ rfl) (pv 2) (pv 0) (fun _ _=>rfl)) ac (by rfl)) (by rfl)) (by decide) (by rfl) (by rfl)) (by intro _;rfl)))),(pv 0)⟩) (by rfl) (by rfl) (by rfl) (by rfl) (by intro _;rfl)) (@aN _ _ _ _ ac) (ay _)))))) aF) (@ag _ _ _ _ _ (@aW _ _ _ _ _ _ _ _ (@bc _ _ _ (@ah _ _ _ _ _ _ _ _ _ (@aA _ ("dict")) rfl B.iisinstance aag (@aa _ _ _ _ _ (pv 1) (@aa _ _ _ _ _ (@aH _ _ (.ty "dict") _ _ rfl B.idict abi rfl (by decide) (by decide)) ac (by rfl)) (by rfl)) (by decide) (by decide) (by rfl) (by rfl)) (by intro _;rfl)) (@ag _ _ _ _ _ (@aW _ _ _ _ _ _ _ _ (@PW.pt _ _ _ (@dR _ _ _ _ _ _ _ (@bq _ _ _ _ (@bc _ _ _ (@ah _ _ _ _ _ _ _ _ _ (@aA _ ("dict")) rfl B.iisinstance aag (@aa _ _ _ _ _ (pv 0) (@aa _ _ _ _ _ (@aH _ _ (.ty "dict") _ _ rfl B.idict abi rfl (by decide) (by decide)) ac (by rfl)) (by rfl)) (by decide) (by decide) (by rfl) (by rfl)) (by intro _;rfl))) (@cL _ _ _ _ (@aG _ _ _ _ _ _ _ _ g0 (@ah _ _ _ _ _ _ _ _ _ cQ rfl B.ilen aaL (@aa _ _ _ _ _ (pv 0) ac (by rfl)) (by decide) (by decide) (by rfl) (by rfl)) (@ah _ _ _ _ _ _ _ _ _ cQ rfl B.ilen aaL (@aa _ _ _ _ _ (pv 1) ac (by rfl)) (by decide) (by decide) (by rfl) (by rfl)) (ay _))))) (@af _ _ _ (@ax _ _ _ _ dg)) aF) (@af _ _ _ (@ax _ _ _ _ (@aQ _ _ _ _ _ _ _ _ (@kN _ hr.units) (@oy _ _ _ (@cF _ _ _ _ _ _ _ _ (["key","found","due"]) ([none,some 0,some 1]) _ _ _ _ rfl (@ma _ _ _ _ (pv 1)) rfl ⟨rfl,⟨rfl,trivial⟩⟩ ⟨⟨rfl,Or.inl rfl,Or.inl rfl⟩,⟨⟨rfl,Or.inl rfl,Or.inl rfl⟩,trivial⟩⟩ (fun _ _ _ _=>⟨(@am _ _ (0) _ (show aaZ (["key","found","due"]:List Str) by decide +kernel) rfl (Or.inl rfl) (.inr rfl)),(@eM _ _ _ (@PW.pt _ _ _ (@dR _ _ _ _ _ _ _ (@mZ _ _ _ _ _ _ (u1 hr.units) (pv 0) (pv 1) (by with_unfolding_all rfl)) (@cL _ _ _ _ (@bq _ _ _ _ (@bc _ _ _ (@aq _ _ _ _ _ _ _ _ _ _ _ C__law_alike hr (by lia) rfl (@aa _ _ _ _ _ (@dI _ _ _ _ _ _ (u1 hr.units) (pv 1) (pv 0) (fun _ _=>rfl)) (@aa _ _ _ _ _ (@dI _ _ _ _ _ _ (u1 hr.units) (pv 2) (pv 0) (fun _ _=>rfl)) ac (by rfl)) (by rfl)) (by decide) (by rfl) (by rfl)) (by intro _;rfl))))))),(pv 0)⟩) (by rfl) (by rfl) (by rfl) (by rfl) (by intro _;rfl))) (@aN _ _ _ _ ac) (ay _))))) aF) (@ag _ _ _ _ _ (@aW _ _ _ _ _ _ _ _ (@bc _ _ _ (@ah _ _ _ _ _ _ _ _ _ (@aA _ ("bool")) rfl B.iisinstance aag (@aa _ _ _ _ _ (pv 1) (@aa _ _ _ _ _ (@aH _ _ (.ty "bool") _ _ rfl B.ibool abw rfl (by decide) (by decide)) ac (by rfl)) (by rfl)) (by decide) (by decide) (by rfl) (by rfl)) (by intro _;rfl)) (@af _ _ _ (@ax _ _ _ _ (@bZ _ _ _ _ _ _ _ (@ah _ _ _ _ _ _ _ _ _ (@aA _ ("bool")) rfl B.iisinstance aag (@aa _ _ _ _ _ (pv 0) (@aa _ _ _ _ _ (@aH _ _ (.ty "bool") _ _ rfl B.ibool abw rfl (by decide) (by decide)) ac (by rfl)) (by rfl)) (by decide) (by decide) (by rfl) (by rfl)) (@c_ _ _ _ _ _ (@aQ _ _ _ _ _ _ _ _ bj (pv 0) (pv 1) (ay _)))))) aF) (@ag _ _ _ _ _ (@aW _ _ _ _ _ _ _ _ (@PW.pt _ _ _ (@dR _ _ _ _ _ _ _ (@aG _ _ _ _ _ _ _ _ oC (pv 1) bN (ay _)) (@cL _ _ _ _ (@bc _ _ _ (@ah _ _ _ _ _ _ _ _ _ (@aA _ ("str")) rfl B.iisinstance aag (@aa _ _ _ _ _ (pv 1) (@aa _ _ _ _ _ (@aH _ _ (.ty "str") _ _ rfl B.istr abD rfl (by decide) (by decide)) ac (by rfl)) (by rfl)) (by decide) (by decide) (by rfl) (by rfl)) (by intro _;rfl))))) (@af _ _ _ (@ax _ _ _ _ (@bZ _ _ _ _ _ _ _ (@aQ _ _ _ _ _ _ _ _ bj (pv 0) (pv 1) (ay _)) (@c_ _ _ _ _ _ (@aQ _ _ _ _ _ _ _ _ bj (@ah _ _ _ _ _ _ _ _ _ (@aA _ ("str")) rfl B.iisinstance aag (@aa _ _ _ _ _ (pv 0) (@aa _ _ _ _ _ (@aH _ _ (.ty "str") _ _ rfl B.istr abD rfl (by decide) (by decide)) ac (by rfl)) (by rfl)) (by decide) (by decide) (by rfl) (by rfl)) (@ah _ _ _ _ _ _ _ _ _ (@aA _ ("str")) rfl B.iisinstance aag (@aa _ _ _ _ _ (pv 1) (@aa _ _ _ _ _ (@aH _ _ (.ty "str") _ _ rfl B.istr abD rfl (by decide) (by decide)) ac (by rfl)) (by rfl)) (by decide) (by decide) (by rfl) (by rfl)) (ay _)))))) aF) (@af _ _ _ (@ax _ _ _ _ (@bZ _ _ _ _ _ _ _ (@ah _ _ _ _ _ _ _ _ _ (@aA _ ("int")) rfl B.iisinstance aag (@aa _ _ _ _ _ (pv 0) (@aa _ _ _ _ _ (@aH _ _ (.ty "int") _ _ rfl B.iint aaS rfl (by decide) (by decide)) ac (by rfl)) (by rfl)) (by decide) (by decide) (by rfl) (by rfl)) (@bZ _ _ _ _ _ _ _ (@ou _ _ _ _ (@ah _ _ _ _ _ _ _ _ _ (@aA _ ("bool")) rfl B.iisinstance aag (@aa _ _ _ _ _ (pv 0) (@aa _ _ _ _ _ (@aH _ _ (.ty "bool") _ _ rfl B.ibool abw rfl (by decide) (by decide)) ac (by rfl)) (by rfl)) (by decide) (by decide) (by rfl) (by rfl))) (@c_ _ _ _ _ _ (@aQ _ _ _ _ _ _ _ _ bj (pv 0) (pv 1) (ay _))))))))))),?_⟩;have t2:(2:Nat)≤sizeLine:=by decide
    refine ⟨_,rfl,t2,fun tp htp=>?_⟩;have s1:=Same.new htp (.tup [V.ty "tuple",V.ty "list"]);have etp:upd H tp (.tup [V.ty "tuple",V.ty "list"]) tp=some (.tup (["tuple","list"].map V.ty)):=ad;rcases h with ⟨rfl,rfl,hn⟩|⟨i,rfl,rfl,hn⟩|⟨a,b,e,rfl,rfl,ea,eb,hn⟩
    · refine ⟨_,tp,_,["tuple","list"],false,rfl,.non,etp,rfl,false,rfl,aR ?_⟩;refine ⟨_,rfl,_,_,false,rfl,.non,rfl,false,rfl,aR ?_⟩;refine ⟨_,rfl,_,_,false,rfl,.non,rfl,false,rfl,aR ?_⟩;refine ⟨_,rfl,rfl,true,rfl,a4 ⟨_,rfl,_,rfl,rfl,?_⟩⟩;refine ⟨_,rfl,a4 ⟨_,rfl,_,_,false,rfl,.non,rfl,_,rfl,_,_,false,rfl,.non,rfl,rfl,?_⟩⟩;rw [decide_eq_true rfl];exact qq _ s1
    · refine ⟨_,tp,_,["tuple","list"],false,rfl,.int i,etp,rfl,false,rfl,aR ?_⟩;refine ⟨_,rfl,_,_,false,rfl,.int i,rfl,false,rfl,aR ?_⟩;refine ⟨_,rfl,_,_,false,rfl,.int i,rfl,false,rfl,aR ?_⟩;refine ⟨_,rfl,rfl,false,rfl,aR ⟨_,rfl,_,_,false,rfl,.int i,rfl,false,rfl,aR ?_⟩⟩;refine ⟨_,rfl,_,_,true,rfl,.int i,rfl,true,rfl,a4 ⟨_,rfl,_,_,false,rfl,.int i,rfl,false,rfl,true,rfl,a4 ⟨_,rfl,_,rfl,rfl,?_⟩⟩⟩;rw [decide_eq_true rfl];exact qq _ s1
    · have ea1:=s1 _ _ ea;have eb1:=s1 _ _ eb;refine ⟨_,tp,_,["tuple","list"],true,rfl,.tup eb1,etp,rfl,true,rfl,a4 ?_⟩;generalize upd H tp (.tup [V.ty "tuple",V.ty "list"])=H1 at s1 ea1 eb1 ⊢;refine ⟨_,rfl,_,_,false,rfl,.tup ea1,rfl,_,rfl,_,_,false,rfl,.tup eb1,rfl,rfl,false,rfl,aR ?_⟩;refine ⟨_,rfl,t2,fun tp2 htp2=>?_⟩;have s2:=Same.new htp2 (.tup [V.ty "tuple",V.ty "list"]);have ea2:=s2 _ _ ea1;have eb2:=s2 _ _ eb1;refine ⟨_,tp2,_,["tuple","list"],true,rfl,.tup ea2,ad,rfl,true,rfl,aR ?_⟩;have S2:=s1.trans s2;generalize upd H1 tp2 (.tup [V.ty "tuple",V.ty "list"])=H2 at S2 ea2 eb2 ⊢;refine ⟨_,rfl,a,2,rfl,.inl ⟨_,.inr (SqT.of ea2),rfl⟩,_,rfl,b,2,rfl,.inl ⟨_,.inr (SqT.of eb2),rfl⟩,rfl,_,rfl,aR ?_⟩;refine ⟨_,rfl,b,2,rfl,.inl ⟨_,.inr (SqT.of eb2),rfl⟩,2,rfl,by decide,by decide,?_⟩;refine cN (Trn.range (lo:=0) (n:=(2:Int).toNat)) (fun i zs H'=>Same H2 H'∧zs=[]) ⟨Same.refl _,rfl⟩ (fun i zs H' hi p=>by rw [p.2];exact ⟨trivial,aB (by decide)⟩) (fun i x zs H0 H' hi hx p Nx nx=>?_) (fun zs H' p p5 n5=>?_)
      · obtain ⟨rfl,rfl⟩:=hx;obtain ⟨S,rfl⟩:=p;have hi:i < 2:=hi;obtain ⟨k,ek1⟩:∃ k,[V.int e.1,V.int e.2][i]?=some (V.int k):=by
          have : i=0∨i=1:=by lia
          rcases this with rfl|rfl
          · exact ⟨_,rfl⟩
          · exact ⟨_,rfl⟩
        have ei:(0:Int)+(i:Int)=((i:Nat):Int):=by lia
        rw [ei];refine ⟨_,rfl,_,rfl,.inr (.inl ⟨a,_,_,_,rfl,rfl,SqT.of (S _ _ ea2),bS ek1,_,rfl,_,rfl,.inr (.inl ⟨b,_,_,_,rfl,rfl,SqT.of (S _ _ eb2),bS ek1,_,_,rfl,.inr (.inl ⟨k,rfl,rfl,by lia⟩),fun H3 s3=>?_⟩)⟩)⟩;exact ⟨true,rfl,aR (nx _ _ ⟨S.trans s3,rfl⟩)⟩
      · obtain ⟨S,rfl⟩:=p;have s6:=Same.new n5 (.lst []);refine ⟨aaQ _,fun p6 n6=>⟨0,p5,p6,[],[],by decide,rfl,rfl,SqL.of ((Same.new n6 _) _ _ ad),SqL.of ad,.inr ⟨fun _=>true,rfl,(fun j x y h=>by simp at h),?_⟩⟩⟩;exact qq _ (((S2.trans S).trans s6).trans (Same.new n6 _))
def io (w:World) (K:aaa):Sp:=fun vs H Q _=>∃ (r:Addr) (ns:List Int) (gs:List Sg) (v:V),vs=[.ref r,.str (ar gs),v]∧H r=some (.lst (ns.map V.int))∧1≤ns.length∧ns.length≤9∧1≤gs.length∧gs.length≤3∧dG gs∧e9 ns∧TG w K H v∧∀ H',Same H H'→Q (.bl true) H'
abbrev cV:Stmt:=top 36
theorem cH:FnScope ["row","signs","thing","kept","due"] ["row","signs","thing"] (ao cV):=⟨rfl,rfl,rfl,by decide +kernel,rfl,by decide +kernel,by decide +kernel⟩
theorem iI (F:Fun K "_law_right" "_law_right" cV f fd) (B:Bu K mg) (C__law_said:Cal P w K mg base "_law_said" 2 ["row","signs","thing"] (ku w K)) (C_bounds_say:Cal P w K mg base "bounds_say" 4 ["row","signs","thing"] (lN w K)) (C__law_alike:Cal P w K mg base "_law_alike" 4 ["found","due"] (fO 3)):FnOk P w K mg base CX0 5 f fd ["row","signs","thing"] (io w K):=by
  refine F.ok cH (fun vs H Q E h=>?_) (fun cdv A outer s H vs Q E hr h=>?_)
  · obtain ⟨r,ns,gs,v,rfl,_⟩:=h;rfl
  obtain ⟨r,ns,gs,v,rfl,er,n1,n9,g1,g3,sp,sm,⟨t,d,ht,hok,hx,okd,szd,dpd⟩,q⟩:=h;refine ⟨_,(@ag _ _ _ _ _ (@aE _ _ (3) _ _ _ _ (cH).nd rfl (Or.inl rfl) (@ah _ _ _ _ _ _ _ _ _ (@gD _ (w) rfl hr.gd hr.units) rfl B.irepr PyProof.Rows.boot_repr (@aa _ _ _ _ _ (@aN _ _ _ _ (@aa _ _ _ _ _ (pv 0) (@aa _ _ _ _ _ (pv 2) ac (by rfl)) (by rfl))) ac (by rfl)) (by decide) (by decide) (by rfl) (by rfl)) (by rfl) (by first|exact .inl rfl|exact .inr rfl|assumption)) (@ag _ _ _ _ _ (@aE _ _ (4) _ _ _ _ (cH).nd rfl (Or.inl rfl) (@aq _ _ _ _ _ _ _ _ _ _ _ C__law_said hr (by lia) rfl (@aa _ _ _ _ _ (pv 0) (@aa _ _ _ _ _ (pv 1) (@aa _ _ _ _ _ (pv 2) ac (by rfl)) (by rfl)) (by rfl)) (by decide) (by rfl) (by rfl)) (by rfl) (by first|exact .inl rfl|exact .inr rfl|assumption)) (@af _ _ _ (@ax _ _ _ _ (@bZ _ _ _ _ _ _ _ (@aq _ _ _ _ _ _ _ _ _ _ _ C__law_alike hr (by lia) rfl (@aa _ _ _ _ _ (@aq _ _ _ _ _ _ _ _ _ _ _ C_bounds_say hr (by lia) rfl (@aa _ _ _ _ _ (pv 0) (@aa _ _ _ _ _ (pv 1) (@aa _ _ _ _ _ (pv 2) ac (by rfl)) (by rfl)) (by rfl)) (by decide) (by rfl) (by rfl)) (@aa _ _ _ _ _ (pv 4) ac (by rfl)) (by rfl)) (by decide) (by rfl) (by rfl)) (@c_ _ _ _ _ _ (@aQ _ _ _ _ _ _ _ _ bj (@ah _ _ _ _ _ _ _ _ _ (@gD _ (w) rfl hr.gd hr.units) rfl B.irepr PyProof.Rows.boot_repr (@aa _ _ _ _ _ (@aN _ _ _ _ (@aa _ _ _ _ _ (pv 0) (@aa _ _ _ _ _ (pv 2) ac (by rfl)) (by rfl))) ac (by rfl)) (by decide) (by decide) (by rfl) (by rfl)) (pv 3) (ay _)))))))),?_⟩;have t2:(2:Nat)≤sizeLine:=by decide
  obtain ⟨p1,p2,p3⟩:=qS sm n9 okd szd dpd;obtain ⟨kt,hkt⟩:∃ kt,(PyData.list [.list (ns.map PyData.int),d]).shown=kt:=⟨_,rfl⟩
  have DL:∀ {H':Hp},Same H H'→Paired (Dx1 w H') [.list (ns.map PyData.int),d] [.ref r,v]:=fun g=>.cons (.inl (.inl (by simp only [Dat];exact ⟨r,_,rfl,g _ _ er,kc ns⟩))) (.cons (hx.mono g) .nil);refine ⟨_,rfl,_,rfl,t2,fun L nL=>?_⟩;have s1:=Same.new nL (.lst [.ref r,v]);refine ⟨L,_,_,rfl,ad,DL s1,p1,p2,p3,?_⟩;rw [hkt];generalize upd H L (.lst [.ref r,v])=H1 at s1 ⊢;refine ⟨_,rfl,_,rfl,_,rfl,r,ns,gs,t,v,rfl,s1 _ _ er,n1,n9,g1,g3,ht.mono s1,hok,fun H2 s2=>?_⟩;have S2:=s1.trans s2;constructor
  · intro e;refine ⟨_,rfl,_,rfl,_,rfl,r,ns,gs,t,v,rfl,S2 _ _ er,n1,n9,g1,g3,sp,ht.mono S2,(fun ps z=>(hok ps z).1),fun H3 s3=>⟨fun _=>⟨_,rfl,_,_,rfl,.inl ⟨rfl,rfl,by decide⟩,fun H4 s4=>?_⟩,fun e' tt z=>by rw [e] at z;cases z⟩⟩;have S4:=(S2.trans s3).trans s4;refine ⟨true,rfl,a4 ⟨_,rfl,_,rfl,t2,fun L2 nL2=>?_⟩⟩;have s5:=Same.new nL2 (.lst [.ref r,v]);refine ⟨L2,_,_,rfl,ad,DL (S4.trans s5),p1,p2,p3,?_⟩;rw [hkt];refine ⟨_,rfl,rfl,?_⟩;rw [decide_eq_true rfl];exact q _ (S4.trans s5)
  · intro e t1 he ht1;refine ⟨_,rfl,_,rfl,_,rfl,r,ns,gs,t,v,rfl,S2 _ _ er,n1,n9,g1,g3,sp,ht.mono S2,(fun ps z=>(hok ps z).1),fun H3 s3=>⟨(fun z=>by rw [he] at z;cases z),fun e' t3 he' ht3=>⟨_,rfl,_,_,rfl,.inr (.inr ⟨t3,t1,e,rfl,rfl,?_,s3 _ _ ht1,by decide⟩),fun H4 s4=>?_⟩⟩⟩
    · rw [he] at he';injection he' with he'
      rw [he'];exact ht3
    have S4:=(S2.trans s3).trans s4;refine ⟨true,rfl,a4 ⟨_,rfl,_,rfl,t2,fun L2 nL2=>?_⟩⟩;have s5:=Same.new nL2 (.lst [.ref r,v]);refine ⟨L2,_,_,rfl,ad,DL (S4.trans s5),p1,p2,p3,?_⟩;rw [hkt];refine ⟨_,rfl,rfl,?_⟩;rw [decide_eq_true rfl];exact q _ (S4.trans s5)
end
open PySem L2
theorem jM {wl:Addr} {H H':Hp} (g:Same H H'):Same (off wl H) (off wl H'):=iO (But.of g)
theorem mt {H:Hp}:∀ {ys:List V},(∀ y∈ys,Good H y)→∃ ds,Paired (Dat H) ds ys∧∀ d∈ds,Sm d
  | [],_=>⟨[],.nil,fun d hd=>nomatch hd⟩
  | y :: ys,h=>by
    obtain ⟨d,h1,h2⟩:=h y aaq;obtain ⟨ds,h3,h4⟩:=mt (ys:=ys) fun x hx=>h x (aak _ hx);refine ⟨d :: ds,.cons h1 h3,fun x hx=>?_⟩;rcases aai.mp hx with rfl|hx
    · exact h2
    · exact h4 x hx
theorem qm {H:Hp} {ds:List PyData} {ys:List V} (h:Paired (Dat H) ds ys):DatAll H ds ys:=by
  induction h with
  | nil=>simp only [DatAll]
  | cons h t ih=>simp only [DatAll];exact ⟨_,_,rfl,h,ih⟩
theorem sf {ds:List PyData} (h:∀ d∈ds,Sm d):OkXs ds∧szXs ds≤6 * ds.length∧aaW ds≤2:=by
  induction ds with
  | nil=>exact ⟨by simp only [OkXs],by simp [szXs],by simp [aaW]⟩
  | cons d ds ih =>
    obtain ⟨a,b,c⟩:=h d aaq;obtain ⟨x,y,z⟩:=ih fun e he=>h e (aak _ he);refine ⟨by simp only [OkXs];exact ⟨a,x⟩,by simp only [szXs,aaN];lia,by simp only [aaW];lia⟩
theorem nY:∀ {ks ds:List PyData},(∀ d∈ks,Sm d)→(∀ d∈ds,Sm d)→OkKv (ks.zip ds)∧szKv (ks.zip ds)≤12 * ks.length∧ab4 (ks.zip ds)≤2
  | [],_,_,_=>⟨by simp only [List.zip_nil_left,OkKv],by simp [szKv],by simp [ab4]⟩
  | _ :: _,[],_,_=>⟨by simp only [List.zip_nil_right,OkKv],by simp [szKv],by simp [ab4]⟩
  | k :: ks,d :: ds,h1,h2=>by
    obtain ⟨a,b,c⟩:=h1 k aaq;obtain ⟨a',b',c'⟩:=h2 d aaq;obtain ⟨x,y,z⟩:=nY (ks:=ks) (ds:=ds) (fun e he=>h1 e (aak _ he)) (fun e he=>h2 e (aak _ he));refine ⟨by simp only [abP,OkKv];exact ⟨a,a',x⟩,by simp only [abP,szKv,aaN];lia,by simp only [abP,ab4];lia⟩
theorem fP {a b:Int} (ha:a.natAbs < 10 ^ 280) (hb:b.natAbs < 10 ^ 280):Sm (.tuple [.int a,.int b]):=by
  refine ⟨?_,by simp [szX,szXs],by simp [aaX,aaW]⟩;simp only [OkX,OkXs];exact ⟨ha,hb,trivial⟩
theorem mj {a:Int} {B:Nat} (h:a.natAbs+10≤B) (hB:B≤10 ^ 270):a.natAbs < 10 ^ 280 :=
  aam (aam (show a.natAbs < a.natAbs+10 by lia) (aaG h hB)) (abp (by decide) (by decide))
theorem lQ {a:Int} (h:a.natAbs≤100):a.natAbs < 10 ^ 280:=aa6 h (by decide +kernel)
theorem qB {w:World} {H:Hp} {a:Addr} {E:Int × Int→Int × Int} {n:Nat} {kvs:List (List Key × V)} (n9:n≤9) (ha:H a=some (.dT kvs)) (hb:BtIn E H (aC n) kvs) (hq:BdQ E (aC n)):∃ d,Dx0 w H d (.ref a)∧OkX d∧szX d≤1201∧d.depth≤3:=by
  have hl:=dz n (by lia);have lk:kvs.length=(aC n).length:=(aar hb).symm;have ek:=hb.keys;have hv:Paired (Dat H) ((aC n).map fun q=>PyData.tuple [.int (E q).1,.int (E q).2]) (kvs.map (·.2)):=by
    unfold BtIn at hb;generalize aC n=qs at hb;clear hl lk ek hq ha
    induction hb with
    | nil=>exact .nil
    | cons h t ih =>
      obtain ⟨_,t,h2,h3⟩:=h;refine .cons ?_ ih;simp only [Dat,DatAll];exact ⟨t,_,h2,h3,_,_,rfl,rfl,_,_,rfl,rfl,rfl⟩
  obtain ⟨x,y,z⟩:=nY (ks:=kvs.map fun p=>PyData.tuple (p.1.map jV)) (ds:=(aC n).map fun q=>PyData.tuple [.int (E q).1,.int (E q).2]) (fun d hd=>by
    obtain ⟨p,hp,rfl⟩:=aal.mp hd;have : p.1∈kvs.map (·.1):=abu hp;rw [ek] at this;obtain ⟨q,hq',e⟩:=aal.mp this;rw [← e];obtain ⟨r1,r2,r3,r4⟩:=eP n9 hq';exact fP (lQ (by lia)) (lQ (by lia))) (fun d hd=>by
    obtain ⟨q,hq',rfl⟩:=aal.mp hd;obtain ⟨b1,b2⟩:=hq q hq';have:=fC n9 hq';exact fP (mj b1 this) (mj b2 this))
  refine ⟨.dict ((kvs.map fun p=>PyData.tuple (p.1.map jV)).zip ((aC n).map fun q=>PyData.tuple [.int (E q).1,.int (E q).2])),.inr (.inl ⟨a,kvs,_,rfl,ha,hv,rfl⟩),by simp only [OkX];exact x,?_,?_⟩
  · simp only [szX];rw [aab] at y;lia
  · simp only [aaX];lia
theorem rg {E:Int × Int→Int × Int} {n:Nat} (n9:n≤9) (hq:BdQ E (aC n)):OkP (ppE E (aC n))∧((ppE E (aC n)).map (·.1)).Nodup:=by
  constructor
  · intro p hp;obtain ⟨q,hq',rfl⟩:=aal.mp hp;obtain ⟨b1,b2⟩:=hq q hq';have:=fC n9 hq';exact (fP (mj b1 this) (mj b2 this)).1
  · unfold ppE;rw [aaD];refine List.Pairwise.map _ (fun a b hab z=>hab ?_) (db n n9);have z:MK.tup [a.1,a.2]=MK.tup [b.1,b.2]:=z;injection z with z
    injection z with z1 z
    injection z with z2
    exact Prod.ext z1 z2
theorem lH {w:World} {K:aaa} {H:Hp} {a:Addr} {E:Int × Int→Int × Int} {n:Nat} {kvs:List (List Key × V)} (n9:n≤9) (ha:H a=some (.dT kvs)) (hb:BtIn E H (aC n) kvs) (hq:BdQ E (aC n)):TG w K H (.ref a):=by
  obtain ⟨d,h1,h2,h3,h4⟩:=qB (w:=w) n9 ha hb hq;refine ⟨some (ppE E (aC n)),d,⟨a,rfl,mH ha hb⟩,fun ps e=>?_,.inl h1,h2,by lia,by lia⟩;injection e with e
  rw [← e];exact rg n9 hq
theorem qw {w:World} {K:aaa} {H:Hp} {a:Addr} {ks:List KEn} (hd:DmIn w H a ks) (hv:VOk H ks) (hl:ks.length≤60):TG w K H (.ref a):=by
  obtain ⟨kd,k1,k2⟩:=mt (H:=H) (ys:=ks.map (·.2.1)) (fun y hy=>by
    obtain ⟨e,he,rfl⟩:=aal.mp hy;exact (hv e he).1)
  obtain ⟨vd,v1,v2⟩:=mt (H:=H) (ys:=ks.map (·.2.2)) (fun y hy=>by
    obtain ⟨e,he,rfl⟩:=aal.mp hy;exact (hv e he).2)
  obtain ⟨x,y,z⟩:=nY k2 v2;have lk:=aar k1;have lv:=aar v1;rw [aab] at lk lv;refine ⟨some ((ks.map (·.1)).zip vd),.dict (kd.zip vd),⟨a,rfl,_,.inr (.inl ⟨ks,hd,rfl⟩),?_⟩,fun ps e=>?_,.inl (.inr (.inr ⟨a,ks,kd,vd,rfl,hd,k1,v1,rfl⟩)),by simp only [OkX];exact x,by simp only [szX];lia,by simp only [aaX];lia⟩
  · clear lk lv x y z k1 k2 v2 hl hd hv
    induction ks generalizing vd with
    | nil=>exact .nil
    | cons e ks ih =>
      cases v1 with
      | cons h t=>exact .cons ⟨rfl,h⟩ (ih _ t)
  · injection e with e
    rw [← e];refine ⟨fun p hp=>(v2 _ (List.of_mem_zip hp).2).1,?_⟩;rw [List.map_fst_zip (by rw [aab];lia)];exact hd.nd
theorem ik {w:World} {K:aaa} {H:Hp} {v:V} {n:String} {d:PyData} (ty:TyOf K H v (.type n)) (hk:abM K (.type n) (.type "dict")=some false) (hd:Dat H d v) (h1:OkX d) (h2:szX d≤1500) (h3:d.depth≤20):TG w K H v :=
  ⟨none,d,⟨n,ty,hk⟩,(fun _ e=>nomatch e),.inl (.inl hd),h1,h2,h3⟩
theorem lI {w:World} {K:aaa} {H:Hp} {v:V} (h:At0 v):TG w K H v:=by
  obtain ⟨d,h1,h2,h3,h4⟩:=i9 h;have go:∀ n,TyOf K H v (.type n)→abM K (.type n) (.type "dict")=some false→TG w K H v:=fun n ty hk=>ik ty hk (h1 H) h2 (by lia) (by lia);rcases h with rfl|⟨b,rfl⟩|⟨i,rfl,hi⟩|⟨z,rfl,hz⟩
  · exact go _ .non rfl
  · exact go _ (.bl b) rfl
  · exact go _ (.int i) rfl
  · exact go _ (.str z) rfl
theorem rQ {w:World} {K:aaa} {H:Hp} {p:Addr} (h:H p=some (.dK [])):TG w K H (.ref p):=by
  refine ⟨some [],.dict [],⟨p,rfl,[],.inr (.inr ⟨h,rfl⟩),.nil⟩,fun ps e=>?_,.inl (.inl (by simp only [Dat,DatKv];exact ⟨p,[],rfl,h,rfl⟩)),by simp only [OkX,OkKv],by simp [szX,szKv],by simp [aaX,ab4]⟩;injection e with e
  rw [← e];exact ⟨(fun p hp=>nomatch hp),acp⟩
theorem jc {w:World} {K:aaa} {H:Hp} {p:Addr} {ys:List V} (h:H p=some (.lst ys)) (hl:ys.length≤100) (hg:∀ y∈ys,Good H y):TG w K H (.ref p):=by
  obtain ⟨ds,h1,h2⟩:=mt hg;obtain ⟨x,y,z⟩:=sf h2;have ll:=aar h1;exact ik (d:=.list ds) (.lst h) rfl (by simp only [Dat];exact ⟨p,ys,rfl,h,qm h1⟩) (by simp only [OkX];exact x) (by simp only [szX];lia) (by simp only [aaX];lia)
theorem pJ {w:World} {K:aaa} {H:Hp} {p:Addr} (h:H p=some (.tup [])):TG w K H (.ref p) :=
  ik (d:=.tuple []) (.tup h) rfl (by simp only [Dat,DatAll];exact ⟨p,[],rfl,h,rfl⟩) (by simp only [OkX,OkXs]) (by simp [szX,szXs]) (by simp [aaX,aaW])
theorem qH {w:World} {K:aaa} {H:Hp} {p a:Addr} {d:PyData} (h:H p=some (.lst [.ref a])) (hx:Dx0 w H d (.ref a)) (h2:OkX d) (h3:szX d≤1201) (h4:d.depth≤3):TG w K H (.ref p) :=
  ⟨none,.list [d],⟨_,.lst h,rfl⟩,(fun _ e=>nomatch e),.inr ⟨p,[.ref a],[d],rfl,.cons hx .nil,.inl ⟨h,rfl⟩⟩,by simp only [OkX,OkXs];exact ⟨h2,trivial⟩,by simp only [szX,szXs];lia,by simp only [aaX,aaW];lia⟩
theorem jL {wl:Addr} {H:Hp} (hp:Pot H wl):Tups H (off wl H):=fun b xs e=>by
  obtain ⟨_,_,_,e'⟩:=hp;rw [fq (fun z=>by rw [z,e'] at e;cases e)];exact e
theorem DmIn.off {w:World} {wl d:Addr} {H:Hp} {ks:List KEn} (h:DmIn w H d ks) (hp:Pot H wl) (n:d≠wl):DmIn w (off wl H) d ks :=
  ⟨(fq n).trans h.at_,fun p hp'=>(h.keys p hp').mono (jL hp),h.nd,h.len⟩
theorem oN {G:Hp} {k:MK} {ks:List Int} {y:V} (hk:MkIn G k y) (e:k=.tup ks) (hb:∀ i∈ks,i.natAbs≤100) (hl:ks.length≤4):Good G y:=by
  subst e;obtain ⟨b,xs,rfl,h,bl⟩:=hk;have lx:ks.length=xs.length:=aar bl;exact az (.inl h) (by lia) (iZ (C:=100) (by decide +kernel) (by decide) bl hb)
open PySem L2
theorem pA (ns:List Int) (lo hi:Option Int):∃ ms:List Int,iW (ns.map V.int) lo hi=ms.map V.int∧ms.length≤ns.length∧ms.length≤HT.sIx ns.length ns.length hi:=by
  refine ⟨(ns.drop (HT.sIx ns.length 0 lo)).take (HT.sIx ns.length ns.length hi - HT.sIx ns.length 0 lo),?_,?_,?_⟩
  · unfold iW;rw [aab,acz,List.map_drop]
  · rw [aaJ,acv];lia
  · rw [aaJ,acv];lia
theorem gr:∀ (more kvs:List (List Key × V)),((kvs++more).map (·.1)).Nodup→bD kvs more=kvs++more
  | [],kvs,_=>by rw [List.append_nil];rfl
  | p :: r,kvs,h=>by
    have hp:p.1∉kvs.map (·.1):=fun q=>by
      rw [aaM,aad] at h;exact (acm.mp h).2.2 _ q _ aaq rfl
    show bD (bX kvs p.1 p.2) r=_;rw [gf hp,gr r (kvs++[(p.1,p.2)]) (by rw [aaw];exact h),aaw];rfl
theorem But.same {H H1 H2:Hp} {wl:Addr} (s:Same H H1) (n:H wl=none) (b:But wl H1 H2):Same H H2:=fun c o h=>b c o (aj h n) (s c o h)
theorem kK {α β:Type} {R:α→β→Prop} {a c:List α} {b d:List β} (h:Paired R a b) (g:Paired R c d):Paired R (a++c) (b++d):=by
  induction h with
  | nil=>exact g
  | cons h t ih=>exact .cons h ih
theorem rJ {n:Nat} {q:Int × Int} (hq:q∈aC n):(0:Int).natAbs+10≤bnd q:=by
  unfold aC bg at hq;obtain ⟨j,hj,hq⟩:=List.mem_flatMap.mp hq;obtain ⟨a,ha,rfl⟩:=aal.mp hq;have h1:=aaH.mp hj;have h2:=aaH.mp ha;unfold bnd;have : 10 ^ 1≤10 ^ (30 * (((j:Int),(j:Int)).2 - ((j:Int) - (a:Int))+1).toNat):=abp (by decide) (by simp only;lia);exact this
def Ths (w:World) (K:aaa) (wl:Addr) (H:Hp) (xs:List V):Prop:=∀ x∈xs,TG w K (off wl H) x
theorem Ths.but {w:World} {K:aaa} {wl:Addr} {H H':Hp} {xs:List V} (b:But wl H H') (h:Ths w K wl H xs):Ths w K wl H' xs:=fun x hx=>(h x hx).mono (iO b)
theorem pI {w:World} {K:aaa} {wl:Addr} {H:Hp} {xs ys:List V} (h:Ths w K wl H xs) (g:Ths w K wl H ys):Ths w K wl H (xs++ys):=fun x hx=>(aax.mp hx).elim (h x) (g x)
theorem bb {w:World} {K:aaa} {wl:Addr} {H:Hp} {y:V} {ys:List V} (h:TG w K (off wl H) y) (g:Ths w K wl H ys):Ths w K wl H (y :: ys):=fun x hx=>by
  rcases aai.mp hx with rfl|hx
  · exact h
  · exact g x hx
theorem lG {w:World} {K:aaa} {wl:Addr} {H:Hp}:Ths w K wl H []:=fun x hx=>nomatch hx
theorem nZ:("+-*":Str)=ar [.plus,.minus,.times]∧("+":Str)=ar [.plus]:=by decide +kernel
theorem je:dG [.plus,.minus,.times]∧dG [.plus]:=by unfold dG;decide +kernel
theorem kE:eE [4] [.plus] (some (ppE (fun _=>(3,9)) (aC 1)))=some (3,9)∧eE [4] [.plus] (some (ppE (fun _=>(5,9)) (aC 1)))=none:=by decide +kernel
theorem sF {w:World} {G:Hp} {pe u v:Addr} {a b:Int} (n:G pe=none) (o:upd G pe (.dT []) u=none) (x:upd (upd G pe (.dT [])) u (.tup [.int 0,.int 0]) v=none) :
    ∃ HF,upd (upd (upd G pe (.dT [])) u (.tup [.int 0,.int 0])) v (.tup [.int a,.int b])=HF∧HF pe=some (.dT [])∧HF u=some (.tup ((ky (0,0)).map kV))∧Same G (upd HF pe (.dT [(ky (0,0),.ref v)]))∧PaIn w (upd HF pe (.dT [(ky (0,0),.ref v)])) pe (ppE (fun _=>(a,b)) (aC 1)):=by
  have k0:=Same.new n (.dT []);have k1:=Same.new o (.tup [.int 0,.int 0]);have k2:=Same.new x (.tup [.int a,.int b]);have ep:=k2 _ _ (k1 _ _ (ad (H:=G) (a:=pe) (o:=.dT [])));have e1:=k2 _ _ (ad (H:=upd G pe (.dT [])) (a:=u) (o:=.tup [.int 0,.int 0]));have f1:upd (upd (upd G pe (.dT [])) u (.tup [.int 0,.int 0])) v (.tup [.int a,.int b]) v=some (.tup [.int a,.int b]):=ad;have K0:=k0.trans (k1.trans k2);refine ⟨_,rfl,ep,e1,?_,?_⟩
  · intro c ob h;rw [ak (aj h n)];exact K0 _ _ h
  · refine mH ad ?_;show BtIn _ _ [(0,0)] _;refine .cons ⟨rfl,v,rfl,?_⟩ .nil;rw [ak (abF (aj (k1 _ _ (ad (H:=G) (a:=pe) (o:=.dT []))) x))];exact f1
theorem oE {a b:Int} (ha:a.natAbs≤100) (hb:b.natAbs≤100):∀ ps,some (ppE (fun _=>(a,b)) (aC 1))=some ps→OkP ps:=fun ps e p hp=>by
  injection e with e
  subst e;obtain ⟨q,_,rfl⟩:=aal.mp hp;exact (fP (lQ ha) (lQ hb)).1
section
variable {P:Program} {w:World} {K:aaa} {mg:Str→Option Value} {base:Heap} {f:Addr} {fd:FuncData}
def lO (K:aaa):Sp:=fun vs H Q _=>∃ (a:Addr) (ns:List Int),vs=[.ref a]∧SqL K H a (ns.map V.int)∧ns.length≤63∧∀ H',Q (.bl true) H'
abbrev eI:Stmt:=top 37
theorem bM:FnScope ["script","k","cell","pot","many","row","signs","just","loose","some","turn"] ["script"] (ao eI):=⟨rfl,rfl,rfl,by decide +kernel,rfl,by decide +kernel,by decide +kernel⟩
theorem rj (F:Fun K "law" "law" eI f fd) (B:Bu K mg) (C__law_pot:Cal P w K mg base "_law_pot" 1 ["cell"] nX) (C__law_take:Cal P w K mg base "_law_take" 2 ["pot","many"] dh) (C__law_row:Cal P w K mg base "_law_row" 4 ["pot","many"] kw) (C__law_signs:Cal P w K mg base "_law_signs" 3 ["pot"] fW)
    (C__law_bounds:Cal P w K mg base "_law_bounds" 2 ["row","signs"] fh) (C__law_loose:Cal P w K mg base "_law_loose" 3 ["pot","row","signs"] iq) (C__law_bent:Cal P w K mg base "_law_bent" 3 ["pot","paper"] (kz w)) (C__law_right:Cal P w K mg base "_law_right" 5 ["row","signs","thing"] (io w K)) (C_bounds_say:Cal P w K mg base "bounds_say" 4 ["row","signs","thing"] (lN w K)):FnOk P w K mg base CX0 6 f fd ["script"] (lO K):=by
  refine F.ok bM (fun vs H Q E h=>?_) (fun cdv A outer s H vs Q E hr h=>?_)
  · obtain ⟨a,ns,rfl,_⟩:=h;rfl
  obtain ⟨a,ns,rfl,hS,h63,q⟩:=h;refine ⟨_,(@ag _ _ _ _ _ (@bd _ _ _ _ _ _ _ _ aaC rfl (@pV _ _ _ _ _ _ _ _ rfl B.ienumerate (@aa _ _ _ _ _ (@ap _ _ _ _ _ _ _ _ oD (@jy _ _ _ _ _ _ _ _ _ _ lR (pv 0) l7 (@l5 _ _ _ ae)) (@aN _ _ _ _ (@aa _ _ _ _ _ (@ah _ _ _ _ _ _ _ _ _ aD rfl B.ilen aaL (@aa _ _ _ _ _ (pv 0) ac (by rfl)) (by decide) (by decide) (by rfl) (by rfl)) ac (by rfl)))) ac (by rfl)) (by rfl)) (@dy _ _ _ _ _ _ rfl (@aZ _ _ _ _ _ (@am _ _ (1) _ (bM).nd rfl (Or.inl rfl) (.inl rfl)) (@aZ _ _ _ _ _ (@am _ _ (2) _ (bM).nd rfl (Or.inl rfl) (.inl rfl)) cE (by rfl)) (by rfl)) (by rfl) (by rfl)) (@ag _ _ _ _ _ (@aE _ _ (3) _ _ _ _ (bM).nd rfl (Or.inl rfl) (@aq _ _ _ _ _ _ _ _ _ _ _ C__law_pot hr (by lia) rfl (@aa _ _ _ _ _ (pv 2) ac (by rfl)) (by decide) (by rfl) (by rfl)) (by rfl) (by first|exact .inl rfl|exact .inr rfl|assumption)) (@ag _ _ _ _ _ (@aE _ _ (4) _ _ _ _ (bM).nd rfl (Or.inl rfl) (@ap _ _ _ _ _ _ _ _ aX ae (@aq _ _ _ _ _ _ _ _ _ _ _ C__law_take hr (by lia) rfl (@aa _ _ _ _ _ (pv 3) (@aa _ _ _ _ _ ae ac (by rfl)) (by rfl)) (by decide) (by rfl) (by rfl))) (by rfl) (by first|exact .inl rfl|exact .inr rfl|assumption)) (@eK _ _ _ _ _ (@aW _ _ _ _ _ _ _ _ (@PW.pt _ _ _ (@iA _ _ _ _ _ _ _ (@aG _ _ _ _ _ _ _ _ bj (pv 1) ae (ay _)) (@iz _ _ _ _ (@aG _ _ _ _ _ _ _ _ bj (@aq _ _ _ _ _ _ _ _ _ _ _ C__law_take hr (by lia) rfl (@aa _ _ _ _ _ (pv 3) (@aa _ _ _ _ _ ae ac (by rfl)) (by rfl)) (by decide) (by rfl) (by rfl)) ae (ay _))))) (@af _ _ _ (@aE _ _ (4) _ _ _ _ (bM).nd rfl (Or.inl rfl) (@ap _ _ _ _ _ _ _ _ aX ae (@aq _ _ _ _ _ _ _ _ _ _ _ C__law_take hr (by lia) rfl (@aa _ _ _ _ _ (pv 3) (@aa _ _ _ _ _ ae ac (by rfl)) (by rfl)) (by decide) (by rfl) (by rfl))) (by rfl) (by first|exact .inl rfl|exact .inr rfl|assumption))) aF) (@ag _ _ _ _ _ (@du _ _ _ _ _ _ (@au _ _ _ _ _ (@aa _ _ _ _ _ (@aq _ _ _ _ _ _ _ _ _ _ _ C__law_row hr (by lia) rfl (@aa _ _ _ _ _ (pv 3) (@aa _ _ _ _ _ (pv 4) ac (by rfl)) (by rfl)) (by decide) (by rfl) (by rfl)) (@aa _ _ _ _ _ (@aq _ _ _ _ _ _ _ _ _ _ _ C__law_signs hr (by lia) rfl (@aa _ _ _ _ _ (pv 3) ac (by rfl)) (by decide) (by rfl) (by rfl)) ac (by rfl)) (by rfl))) (@dy _ _ _ _ _ _ rfl (@aZ _ _ _ _ _ (@am _ _ (5) _ (bM).nd rfl (Or.inr rfl) (.inl rfl)) (@aZ _ _ _ _ _ (@am _ _ (6) _ (bM).nd rfl (Or.inr rfl) (.inl rfl)) cE (by rfl)) (by rfl)) (by rfl) (by rfl)) (by rfl) (by rfl) (by rfl)) (@ag _ _ _ _ _ (@aE _ _ (7) _ _ _ _ (bM).nd rfl (Or.inl rfl) (@aq _ _ _ _ _ _ _ _ _ _ _ C__law_bounds hr (by lia) rfl (@aa _ _ _ _ _ (pv 5) (@aa _ _ _ _ _ (pv 6) ac (by rfl)) (by rfl)) (by decide) (by rfl) (by rfl)) (by rfl) (by first|exact .inl rfl|exact .inr rfl|assumption)) (@ag _ _ _ _ _ (@aE _ _ (8) _ _ _ _ (bM).nd rfl (Or.inl rfl) (@aq _ _ _ _ _ _ _ _ _ _ _ C__law_loose hr (by lia) rfl (@aa _ _ _ _ _ (pv 3) (@aa _ _ _ _ _ (pv 5) (@aa _ _ _ _ _ (pv 6) ac (by rfl)) (by rfl)) (by rfl)) (by decide) (by rfl) (by rfl)) (by rfl) (by first|exact .inl rfl|exact .inr rfl|assumption)) (@ag _ _ _ _ _ (@aE _ _ (9) _ _ _ _ (bM).nd rfl (Or.inl rfl) (@aN _ _ _ _ (@aa _ _ _ _ _ (pv 7) (@aa _ _ _ _ _ (pv 8) (@aa _ _ _ _ _ gh (@aa _ _ _ _ _ bN (@aa _ _ _ _ _ ae (@aa _ _ _ _ _ dg (@aa _ _ _ _ _ br (@aa _ _ _ _ _ (@aN _ _ _ _ ac) (@aa _ _ _ _ _ (@au _ _ _ _ _ ac) (@aa _ _ _ _ _ (@aN _ _ _ _ (@aa _ _ _ _ _ (pv 7) ac (by rfl))) (@aa _ _ _ _ _ (@a5 _ _ _ _ _ _ _ _ _ (@lp _ rfl) rfl B.ilist aa7 (@aa _ _ _ _ _ (pv 7) ac (by rfl)) (by decide) (by decide) (by rfl) (by rfl)) (@aa _ _ _ _ _ (@a5 _ _ _ _ _ _ _ _ _ (@lz _ rfl hr.units) rfl B.idict abi (@aa _ _ _ _ _ (@oy _ _ _ (@cF _ _ _ _ _ _ _ _ (["at"]) ([none]) _ _ _ _ rfl (@ma _ _ _ _ (pv 7)) rfl trivial trivial (fun _ _ _ _=>⟨(@am _ _ (0) _ (show aaZ (["at"]:List Str) by decide +kernel) rfl (Or.inl rfl) (.inr rfl)),aY,(@au _ _ _ _ _ (@aa _ _ _ _ _ (pv 0) (@aa _ _ _ _ _ (@au _ _ _ _ _ (@aa _ _ _ _ _ ae (@aa _ _ _ _ _ ae ac (by rfl)) (by rfl))) ac (by rfl)) (by rfl)))⟩) (by rfl) (by rfl) (by rfl) (by rfl) (by intro _;rfl))) ac (by rfl)) (by decide) (by decide) (by rfl) (by rfl)) ac (by rfl)) (by rfl)) (by rfl)) (by rfl)) (by rfl)) (by rfl)) (by rfl)) (by rfl)) (by rfl)) (by rfl)) (by rfl)) (by rfl))) (by rfl) (by first|exact .inl rfl|exact .inr rfl|assumption)) (@ag _ _ _ _ _ (@bd _ _ _ _ _ _ _ _ aaC rfl (@bp _ _ _ _ _ _ rfl B.irange (@aa _ _ _ _ _ ae ac (by rfl)) (by rfl)) (@am _ _ (10) _ (bM).nd rfl (Or.inl rfl) (.inl rfl)) (@af _ _ _ (@aE _ _ (9) _ _ _ _ (bM).nd rfl (Or.inl rfl) (@ap _ _ _ _ _ _ _ _ oD (pv 9) (@aN _ _ _ _ (@aa _ _ _ _ _ (@aq _ _ _ _ _ _ _ _ _ _ _ C__law_bent hr (by lia) rfl (@aa _ _ _ _ _ (pv 3) (@aa _ _ _ _ _ (pv 7) ac (by rfl)) (by rfl)) (by decide) (by rfl) (by rfl)) (@aa _ _ _ _ _ (@aq _ _ _ _ _ _ _ _ _ _ _ C__law_bent hr (by lia) rfl (@aa _ _ _ _ _ (pv 3) (@aa _ _ _ _ _ (pv 8) ac (by rfl)) (by rfl)) (by decide) (by rfl) (by rfl)) ac (by rfl)) (by rfl)))) (by rfl) (by first|exact .inl rfl|exact .inr rfl|assumption))) (by intro _;rfl)) (@ag _ _ _ _ _ (@bQ _ _ _ _ (@jC _ _ _ _ _ _ _ _ _ _ _ _ abt PySem.F.slot_list_append PySem.F.type_list_append g6 (pv 9) (@aa _ _ _ _ _ (@aq _ _ _ _ _ _ _ _ _ _ _ C__law_bounds hr (by lia) rfl (@aa _ _ _ _ _ (pv 5) (@aa _ _ _ _ _ br ac (by rfl)) (by rfl)) (by decide) (by rfl) (by rfl)) ac (by rfl)) (by rfl) (by rfl) (by rfl) (by rfl) (by rfl)) (by rfl)) (@af _ _ _ (@aW _ _ _ _ _ _ _ _ (@aG _ _ _ _ _ _ _ _ (@qZ _ hr.units) (@cF _ _ _ _ _ _ _ _ (["thing","row","signs"]) ([none,some 5,some 6]) _ _ _ _ rfl (@eO _ _ _ _ (pv 9)) rfl ⟨rfl,⟨rfl,trivial⟩⟩ ⟨⟨rfl,Or.inl rfl,Or.inl rfl⟩,⟨⟨rfl,Or.inl rfl,Or.inl rfl⟩,trivial⟩⟩ (fun _ _ _ _=>⟨(@am _ _ (0) _ (show aaZ (["thing","row","signs"]:List Str) by decide +kernel) rfl (Or.inl rfl) (.inr rfl)),(@eM _ _ _ (@bq _ _ _ _ (@bc _ _ _ (@aq _ _ _ _ _ _ _ _ _ _ _ C__law_right hr (by lia) rfl (@aa _ _ _ _ _ (pv 1) (@aa _ _ _ _ _ (pv 2) (@aa _ _ _ _ _ (pv 0) ac (by rfl)) (by rfl)) (by rfl)) (by decide) (by rfl) (by rfl)) (by intro _;rfl)))),(pv 0)⟩) (by rfl) (by rfl) (by rfl) (by rfl) (by intro _;rfl)) (@aN _ _ _ _ ac) (ay _)) (@af _ _ _ (@ax _ _ _ _ dg)) aF))))))))))) (by intro _;rfl)) (@af _ _ _ (@ax _ _ _ _ (@bZ _ _ _ _ _ _ _ (@aQ _ _ _ _ _ _ _ _ (@re _ hr.units) (@aq _ _ _ _ _ _ _ _ _ _ _ C_bounds_say hr (by lia) rfl (@aa _ _ _ _ _ (@aN _ _ _ _ (@aa _ _ _ _ _ ae ac (by rfl))) (@aa _ _ _ _ _ br (@aa _ _ _ _ _ (@jB _ _ _ _ _ (u1 hr.units) (@jx _ _ _ _ _ _ _ _ _ (@au _ _ _ _ _ (@aa _ _ _ _ _ ae (@aa _ _ _ _ _ ae ac (by rfl)) (by rfl))) (@au _ _ _ _ _ (@aa _ _ _ _ _ ae (@aa _ _ _ _ _ ae ac (by rfl)) (by rfl))) l4) (by rfl) (by rfl) (by simp) (by decide)) ac (by rfl)) (by rfl)) (by rfl)) (by decide) (by rfl) (by rfl)) (@au _ _ _ _ _ (@aa _ _ _ _ _ ae (@aa _ _ _ _ _ ae ac (by rfl)) (by rfl))) (ay _)) (@c_ _ _ _ _ _ (@aQ _ _ _ _ _ _ _ _ oC (@aq _ _ _ _ _ _ _ _ _ _ _ C_bounds_say hr (by lia) rfl (@aa _ _ _ _ _ (@aN _ _ _ _ (@aa _ _ _ _ _ ae ac (by rfl))) (@aa _ _ _ _ _ br (@aa _ _ _ _ _ (@jB _ _ _ _ _ (u1 hr.units) (@jx _ _ _ _ _ _ _ _ _ (@au _ _ _ _ _ (@aa _ _ _ _ _ ae (@aa _ _ _ _ _ ae ac (by rfl)) (by rfl))) (@au _ _ _ _ _ (@aa _ _ _ _ _ ae (@aa _ _ _ _ _ ae ac (by rfl)) (by rfl))) l4) (by rfl) (by rfl) (by simp) (by decide)) ac (by rfl)) (by rfl)) (by rfl)) (by decide) (by rfl) (by rfl)) bN (ay _))))))),?_⟩;have t2:(2:Nat)≤sizeLine:=by decide
  refine ⟨_,rfl,4,rfl,a,_,rfl,hS,fun p1 n1=>?_⟩;obtain ⟨ms,em,hm,_⟩:=pA ns none (some 4);rw [em];have g1:=Same.new n1 (.lst (ms.map V.int));refine ⟨_,rfl,a,_,rfl,.inl (g1.seq hS),(by show 1≤sizeLine;decide),fun p2 n2=>?_⟩;have g2:=Same.new n2 (.lst [.int ((ns.map V.int).length:Nat)]);refine ⟨p1,p2,_,_,rfl,rfl,g2 _ _ ad,ad,fQ (by rw [aab];show ms.length+1≤1000;lia),fun p3 n3=>?_⟩;obtain ⟨c9,hc9⟩:∃ c9:Int,((ns.map V.int).length:Nat)=c9:=⟨_,rfl⟩
  rw [hc9] at n3 g2 ⊢;have e3:upd (upd (upd H p1 (.lst (ms.map V.int))) p2 (.lst [.int c9])) p3 (.lst (ms.map V.int++[.int c9])) p3=_:=ad;have el:ms.map V.int++[V.int c9]=(ms++[c9]).map V.int:=by rw [aaM];rfl
  rw [el] at e3 ⊢;generalize upd (upd (upd H p1 (.lst (ms.map V.int))) p2 (.lst [.int c9])) p3 (.lst ((ms++[c9]).map V.int))=H3 at e3 ⊢;refine ⟨p3,rfl,⟨_,SqL.of e3⟩,o5 (xs:=(ms++[c9]).map V.int) (fun i σ H'=>∃ c1 c2 c3 c4 c5 c6 c7 c8 c9 ca,σ=[some (.ref a),c1,c2,c3,c4,c5,c6,c7,c8,c9,ca]∧Same H3 H') ⟨_,_,_,_,_,_,_,_,_,_,rfl,Same.refl _⟩ ?_ ?_ ?_⟩
  · rintro i σ H' _ ⟨_,_,_,_,_,_,_,_,_,_,rfl,S⟩;exact SqL.of (S _ _ e3)
  · rintro i x pp σ H' hx ⟨c1,c2,c3,c4,c5,c6,c7,c8,c9',ca,rfl,S⟩ npp;rw [aap] at hx;obtain ⟨c,_,rfl⟩:=abh.mp hx;have s4:=Same.new npp (.tup [.int (i:Nat),.int c]);refine ⟨pp,_,rfl,SqT.of ad,rfl,_,_,rfl,_,_,rfl,rfl,?_⟩;generalize upd H' pp (.tup [.int (i:Nat),.int c])=H4 at s4 ⊢;refine ⟨_,rfl,c,rfl,fun wl H5 g5 nw w5=>?_⟩;have nw':H' wl=none:=s4.free nw;have S5:=s4.trans g5;refine ⟨_,rfl,wl,5,rfl,by decide,by decide,w5,fun r1 H6 a1 b1 k6 w6=>⟨_,_,rfl,rfl,?_⟩⟩;refine ⟨fun σ H'=>∃ m:Int,σ=[some (.ref a),some (.int (i:Nat)),some (.int c),some (.ref wl),some (.int m),c5,c6,c7,c8,c9',ca]∧1≤m∧m≤9∧But wl H6 H'∧Pot H' wl,?_,?_⟩
    · refine ⟨_,rfl,rfl,_,rfl,fJ (fun z=>?_) (fun z=>?_)⟩
      · refine ⟨_,rfl,wl,3,rfl,by decide,by decide,w6,fun r2 H7 a2 b2 k7 w7=>⟨rfl,_,rfl,fJ (fun z=>?_) (fun z=>?_)⟩⟩
        · refine ⟨_,rfl,wl,4,rfl,by decide,by decide,w7,fun r3 H8 a3 b3 k8 w8=>⟨_,_,rfl,rfl,_,rfl,by lia,by lia,k7.trans k8,w8⟩⟩
        · exact ⟨_,rfl,by lia,by lia,k7,w7⟩
      · exact ⟨_,rfl,by lia,by lia,But.refl,w6⟩
    · rintro σ H7 ⟨m,rfl,m1,m9,k7,w7⟩;refine ⟨_,rfl,_,rfl,wl,m,rfl,m1,by lia,w7,fun pr rs H8 k8 w8 nr er hlen hsm=>?_⟩;have npr:=w7.ne nr;refine ⟨_,rfl,wl,rfl,w8,fun gs H9 g1' g3' sp k9 w9=>?_⟩;have er9:=k9 _ _ npr er;have S9:Same H' H9:=But.same S5 nw' (((k6.trans k7).trans k8).trans k9);have n1:1≤rs.length:=by lia
      have n9:rs.length≤9:=by lia
      refine ⟨t2,fun tu ntu=>⟨tu,_,rfl,SqT.of ad,rfl,_,_,rfl,_,_,rfl,rfl,?_⟩⟩;have su:=Same.new ntu (.tup [.ref pr,.str (ar gs)]);have wA:=w9.keep su;have erA:=su _ _ er9;have SA:=S9.trans su;generalize upd H9 tu (.tup [.ref pr,.str (ar gs)])=HA at su wA erA SA ⊢;refine ⟨_,rfl,_,rfl,pr,rs,gs,rfl,erA,n1,n9,g1',g3',hsm,fun pb kv1 E1 HB sB nb eb hb1 hq1=>?_⟩;have SB:=SA.trans sB;have wB:=wA.keep sB;have erB:=sB _ _ erA;have npb:=wA.ne nb;refine ⟨_,rfl,_,rfl,_,rfl,wl,pr,rs,gs,rfl,wB,npr,erB,n1,n9,g1',g3',hsm,fun pl kv2 E2 HC kC wC nl el hb2 hq2=>?_⟩;have SC:Same H' HC:=But.same SB nw' kC;have npl:=wB.ne nl;have ebC:=kC _ _ npb eb;have hb1C:BtIn E1 HC (aC rs.length) kv1:=hb1.mono fun b xs e=>kC _ _ (fun z=>by obtain ⟨_,_,_,e'⟩:=wB;rw [z,e'] at e;cases e) e;have erC:=kC _ _ npr erB;have lb:=dz rs.length (by lia);refine ⟨_,rfl,_,rfl,fun u1 m1=>⟨(by show 0≤sizeLine;decide),fun u2 m2=>⟨(by show 0≤sizeLine;decide),fun u3 m3=>⟨_,rfl,(by show 1≤sizeLine;decide),fun u4 m4=>?_⟩⟩⟩⟩;have j1:=Same.new m1 (.dK []);have j2:=Same.new m2 (.lst []);have j3:=Same.new m3 (.tup []);have j4:=Same.new m4 (.lst [.ref pb]);have x1:=wC.ne m1;have x2:=(wC.keep j1).ne m2;have x3:=((wC.keep j1).keep j2).ne m3;have x4:=(((wC.keep j1).keep j2).keep j3).ne m4;have y1:=j4 _ _ (j3 _ _ (j2 _ _ (ad (H:=HC) (a:=u1) (o:=.dK []))));have y2:=j4 _ _ (j3 _ _ (ad (H:=upd HC u1 (.dK [])) (a:=u2) (o:=.lst [])));have y3:=j4 _ _ (ad (H:=upd (upd HC u1 (.dK [])) u2 (.lst [])) (a:=u3) (o:=.tup []));have y4:upd (upd (upd (upd HC u1 (.dK [])) u2 (.lst [])) u3 (.tup [])) u4 (.lst [.ref pb]) u4=_:=ad;have sD:=((j1.trans j2).trans j3).trans j4;generalize upd (upd (upd (upd HC u1 (.dK [])) u2 (.lst [])) u3 (.tup [])) u4 (.lst [.ref pb])=HD at sD y1 y2 y3 y4 ⊢;have wD:=wC.keep sD;have ebD:=sD _ _ ebC;have hb1D:=hb1C.mono (Tups.of sD);obtain ⟨kI,hkI,kI1,kI2⟩:=iY hb1D;have lkI:kI.length=(aC rs.length).length:=by have:=congrArg ab7 kI1;simpa using this
      refine ⟨_,rfl,pb,kI,rfl,by rw [ebD,hkI],by lia,fun u5 kk m5 r1 r2=>?_⟩;have j5:=Same.new m5 (.lst (kk.map (·.2.1)));have x5:=wD.ne m5;have y5:upd HD u5 (.lst (kk.map (·.2.1))) u5=_:=ad;have ebE:=j5 _ _ ebD;have wE:=wD.keep j5;have hb1E:=hb1D.mono (Tups.of j5);have sE:=sD.trans j5;generalize upd HD u5 (.lst (kk.map (·.2.1)))=HE at j5 y5 ebE wE hb1E sE ⊢;refine ⟨pb,kv1,ebE,fun o=>?_⟩;have S3:∀ c ob,c≠pb→HE c=some ob→upd HE pb (.frz o (.dT kv1)) c=some ob:=fun c ob hc e=>by rw [ak hc];exact e
      have e3':upd HE pb (.frz o (.dT kv1)) pb=some (.frz o (.dT kv1)):=ad;generalize upd HE pb (.frz o (.dT kv1))=HF at S3 e3' ⊢;have lkv:kv1.length=(aC rs.length).length:=(aar hb1E).symm;refine ⟨_,rfl,pb,o,kv1,rfl,e3',?_⟩;refine cN Trn.keys (fun i zs H'=>∃ bs:List PrT,zs=bs.map (fun b=>V.ref b.1)∧Same HF H'∧(∀ b∈bs,kh H' b)∧Paired (fun (q:Int × Int) (b:PrT)=>b.2.2.1=ky q∧∃ t,b.2.2.2=.ref t∧H' t=some (.tup [.int 0,.int 0])) ((aC rs.length).take i) bs) ⟨[],rfl,Same.refl _,(fun b hb=>nomatch hb),.nil⟩ (fun i zs H' hi p=>by
        obtain ⟨bs,rfl,S,_,p⟩:=p;exact ⟨S _ _ e3',by rw [aab,← aar p,aaJ];exact aB (by lia)⟩) (fun i x zs H0 H' hi hx p Nx nx=>?_) (fun zs HX p p5 n5=>?_)
      · obtain ⟨bs,rfl,S,hbs,hp⟩:=p;obtain ⟨cc,rfl,rfl,hc⟩:=hx;have hkv:kv1[i]?=some kv1[i]:=aac hi;have ec:=hc _ hkv;obtain ⟨q0,hq0,ek0,_⟩:=Paired.at hb1E hkv;rw [ek0] at ec;refine ⟨_,rfl,t2,fun v1 m6=>⟨t2,fun v2 m7=>nx _ _ ?_⟩⟩;have j6:=Same.new m6 (.tup [.int 0,.int 0]);have j7:=Same.new m7 (.tup [.ref cc,.ref v1]);have jj:=j6.trans j7;refine ⟨bs++[(v2,cc,ky q0,.ref v1)],by rw [aaM];rfl,S.trans jj,fun b hb=>?_,?_⟩
        · rcases aax.mp hb with hb|hb
          · exact ⟨jj _ _ (hbs b hb).1,jj _ _ (hbs b hb).2⟩
          · rw [aaI.mp hb];exact ⟨ad,jj _ _ ec⟩
        · rw [aaA,hq0];refine kK (Paired.mapP hp fun _ _ z=>⟨z.1,by obtain ⟨t,z1,z2⟩:=z.2;exact ⟨t,z1,jj _ _ z2⟩⟩) (.cons ⟨rfl,v1,rfl,j7 _ _ ad⟩ .nil)
      obtain ⟨bs,rfl,SX,hbs,hp⟩:=p;rw [lkv,abf] at hp;have lbs:=aar hp;have s6:=Same.new n5 (.lst (bs.map fun b=>V.ref b.1));have e6:=s6 _ _ (SX _ _ e3');have el6:upd HX p5 (.lst (bs.map fun b=>V.ref b.1)) p5=_:=ad;have S6:=SX.trans s6;have hbs6:∀ b∈bs,kh (upd HX p5 (.lst (bs.map fun b=>V.ref b.1))) b:=fun b hb=>⟨s6 _ _ (hbs b hb).1,s6 _ _ (hbs b hb).2⟩
      have hp6:=Paired.mapP hp fun (q:Int × Int) (b:PrT) z=>(⟨z.1,by obtain ⟨t,z1,z2⟩:=z.2;exact ⟨t,z1,s6 _ _ z2⟩⟩:b.2.2.1=ky q∧∃ t,b.2.2.2=.ref t∧upd HX p5 (.lst (bs.map fun b=>V.ref b.1)) t=some (.tup [.int 0,.int 0]))
      generalize upd HX p5 (.lst (bs.map fun b=>V.ref b.1))=H6' at e6 el6 S6 hbs6 hp6 ⊢;refine ⟨e6,?_⟩;have np5:p5≠pb:=fun z=>by rw [z,e6] at el6;cases el6
      have SG:Same HE (upd H6' pb (.dT kv1)):=fun c ob hc=>by
        by_cases h:c=pb
        · subst h;rw [ad];rw [ebE] at hc;exact hc
        · rw [ak h];exact S6 _ _ (S3 c ob h hc)
      have tn:∀ {b:Addr} {xs:List V},H6' b=some (.tup xs)→upd H6' pb (.dT kv1) b=some (.tup xs):=fun {b xs} e=>by rw [ak (fun z=>by rw [z,e6] at e;cases e)];exact e
      have elG:upd H6' pb (.dT kv1) p5=some (.lst (bs.map fun b=>V.ref b.1)):=(ak np5).trans el6;have hbsG:∀ b∈bs,kh (upd H6' pb (.dT kv1)) b:=fun b hb=>⟨tn (hbs6 b hb).1,tn (hbs6 b hb).2⟩
      have hbG:BtIn (fun _=>(0,0)) (upd H6' pb (.dT kv1)) (aC rs.length) (bs.map (·.2.2)):=by
        have go:∀ {qs:List (Int × Int)} {bs:List PrT},Paired (fun (q:Int × Int) (b:PrT)=>b.2.2.1=ky q∧∃ t,b.2.2.2=.ref t∧H6' t=some (.tup [.int 0,.int 0])) qs bs→BtIn (fun _=>(0,0)) (upd H6' pb (.dT kv1)) qs (bs.map (·.2.2)):=by
          intro qs bs p
          induction p with
          | nil=>exact .nil
          | cons h t ih =>
            obtain ⟨h1,t,h2,h3⟩:=h;exact .cons ⟨h1,t,h2,tn h3⟩ ih
        exact go hp6
      have em0:bD [] (bs.map (·.2.2))=bs.map (·.2.2):=by
        have:=gr (bs.map (·.2.2)) [] (by
          rw [ace,hbG.keys];exact List.Pairwise.map _ (fun a b hab z=>hab (iU z)) (db rs.length n9))
        rw [this,ace]
      have ebG:upd H6' pb (.dT kv1) pb=some (.dT kv1):=ad;generalize upd H6' pb (.dT kv1)=HG at SG elG hbsG hbG ebG ⊢;have wG:=wE.keep SG;refine ⟨p5,bs,rfl,elG,hbsG,by lia,fun u6 m8=>?_⟩;rw [em0];have x6:=wG.ne m8;have j8:=Same.new m8 (.dT (bs.map (·.2.2)));have y6:upd HG u6 (.dT (bs.map (·.2.2))) u6=_:=ad;have wH:=wG.keep j8;have hbH:=hbG.mono (Tups.of j8);have sH:=SG.trans j8;generalize upd HG u6 (.dT (bs.map (·.2.2)))=HH at j8 y6 wH hbH sH ⊢;refine ⟨(by show 12≤sizeLine;decide),fun ps nps=>?_⟩;have nps':=wH.ne nps;have sA:=sE.trans sH;have hO:∀ {b:Addr} {o:HO},b≠wl→HH b=some o→off wl HH b=some o:=fun n e=>(fq n).trans e;have T0:=jL wH;have upE:∀ {b:Addr} {o:HO},b≠pb→HE b=some o→HH b=some o:=fun {b o} _ e=>sH _ _ e;have ebH:=sH _ _ ebE;have elH:HH pl=some (.dT kv2):=sA _ _ el;have bt1:BtIn E1 HH (aC rs.length) kv1:=hb1E.mono (Tups.of sH);have bt2:BtIn E2 HH (aC rs.length) kv2:=hb2.mono (Tups.of sA);have q00:BdQ (fun _=>(0,0)) (aC rs.length):=fun q hq=>by
        have:=rJ hq;exact ⟨this,this⟩
      have gd:∀ y∈kk.map (·.2.1),Good (off wl HH) y:=fun y hy=>by
        obtain ⟨e,he,rfl⟩:=aal.mp hy;have h1:(e.1,e.2.2)∈rdE kk:=aal.mpr ⟨e,he,rfl⟩;rw [r1] at h1;obtain ⟨p,hp0,e1⟩:=aal.mp h1;have e1:e.1=MK.tup p.1:=(congrArg Prod.fst e1).symm;obtain ⟨q0,hq0,e2⟩:=aal.mp (kI1 ▸ abu (f:=(·.1)) hp0:p.1∈(aC rs.length).map fun q=>[q.1,q.2]);obtain ⟨z1,z2,z3,z4⟩:=eP n9 hq0;refine oN ((r2 e he).mono fun b xs e=>T0 _ _ ((j5.trans sH) _ _ e)) e1 (fun i hi=>?_) (by rw [← e2];show 2≤4;decide);rw [← e2] at hi;simp only [aai,aa5,or_false] at hi;rcases hi with rfl|rfl <;> lia
      have lkk:(kk.map (·.2.1)).length≤100:=by
        have:=congrArg ab7 r1;simp only [rdE,aab] at this ⊢;lia
      obtain ⟨dj,dj1,dj2,dj3,dj4⟩:=qB (w:=w) n9 (hO npb ebH) (bt1.mono T0) hq1;have hY1:HH u1=some (.dK []):=(j5.trans sH) _ _ y1;have hY2:HH u2=some (.lst []):=(j5.trans sH) _ _ y2;have hY3:HH u3=some (.tup []):=(j5.trans sH) _ _ y3;have hY4:HH u4=some (.lst [.ref pb]):=(j5.trans sH) _ _ y4;have hY5:HH u5=some (.lst (kk.map (·.2.1))):=sH _ _ y5;have thsH:Ths w K wl HH [.ref pb,.ref pl,.ref u1,.non,.int 5,.bl true,.str "",.ref u2,.ref u3,.ref u4,.ref u5,.ref u6]:=by
        refine bb (lH n9 (hO npb ebH) (bt1.mono T0) hq1) (bb (lH n9 (hO npl elH) (bt2.mono T0) hq2) (bb (rQ (hO x1 hY1)) (bb (lI gF) (bb (lI (bf (B:=5) (by decide +kernel) (by decide))) (bb (lI (mK _)) (bb (lI (i6 (by decide +kernel))) (bb (jc (hO x2 hY2) (by decide) (fun y hy=>nomatch hy)) (bb (pJ (hO x3 hY3)) (bb (qH (hO x4 hY4) dj1 dj2 dj3 dj4) (bb (jc (hO x5 hY5) lkk gd) (bb (lH n9 (hO x6 y6) (hbH.mono T0) q00) lG)))))))))))
      have sI:=Same.new nps (.lst [.ref pb,.ref pl,.ref u1,.non,.int 5,.bl true,.str "",.ref u2,.ref u3,.ref u4,.ref u5,.ref u6]);have epI:upd HH ps (.lst [.ref pb,.ref pl,.ref u1,.non,.int 5,.bl true,.str "",.ref u2,.ref u3,.ref u4,.ref u5,.ref u6]) ps=_:=ad;have wI:=wH.keep sI;generalize upd HH ps (.lst [.ref pb,.ref pl,.ref u1,.non,.int 5,.bl true,.str "",.ref u2,.ref u3,.ref u4,.ref u5,.ref u6])=HI at sI epI wI ⊢;have lenI:[V.ref pb,.ref pl,.ref u1,.non,.int 5,.bl true,.str "",.ref u2,.ref u3,.ref u4,.ref u5,.ref u6].length=12:=rfl;generalize [V.ref pb,.ref pl,.ref u1,.non,.int 5,.bl true,.str "",.ref u2,.ref u3,.ref u4,.ref u5,.ref u6]=xs0 at thsH epI lenI ⊢;have erH:=sA _ _ erC;refine ⟨8,rfl,by decide,by decide,?_⟩;refine a9 (n:=(8:Int).toNat) (fun i' σ H'=>∃ (c10:Option V) (ps:Addr) (xs:List V) (Hb:Hp),σ=[some (.ref a),some (.int (i:Nat)),some (.int c),some (.ref wl),some (.int m),some (.ref pr),some (.str (ar gs)),some (.ref pb),some (.ref pl),some (.ref ps),c10]∧But wl HH Hb∧But wl Hb H'∧Hb ps=none∧ps≠wl∧Pot H' wl∧H' ps=some (.lst xs)∧xs.length≤12+2 * i'∧Ths w K wl Hb xs) ⟨_,ps,xs0,HH,rfl,But.refl,But.of sI,nps,nps',wI,epI,by lia,thsH⟩ ?_ ?_
      · rintro i' σ HJ hi' ⟨c10,ps,xs,Hb,rfl,k1,k2,nb',npw,wJ,epJ,lJ,thJ⟩;have kJ:=k1.trans k2;refine ⟨_,rfl,_,rfl,_,rfl,wl,pb,kv1,E1,rs.length,rfl,wJ,kJ _ _ npb ebH,n1,n9,?_,hq1,fun d1 ks1 H1 k3 w1 nd1 dm1 vo1 l1=>?_⟩
        · exact bt1.mono fun b ys e=>kJ _ _ (fun z=>by obtain ⟨_,_,_,e'⟩:=wH;rw [z,e'] at e;cases e) e
        have kL:=kJ.trans k3;refine ⟨_,rfl,_,rfl,wl,pl,kv2,E2,rs.length,rfl,w1,kL _ _ npl elH,n1,n9,?_,hq2,fun d2 ks2 H2 k4 w2 nd2 dm2 vo2 l2=>?_⟩
        · exact bt2.mono fun b ys e=>kL _ _ (fun z=>by obtain ⟨_,_,_,e'⟩:=wH;rw [z,e'] at e;cases e) e
        have nw1:=wJ.ne nd1;have nw2:=w1.ne nd2;have tg1:TG w K (off wl H2) (.ref d1):=(qw (Put.DmIn.off dm1 w1 nw1) vo1 l1).mono (iO k4);have tg2:TG w K (off wl H2) (.ref d2):=qw (Put.DmIn.off dm2 w2 nw2) vo2 l2;have k34:=k3.trans k4;refine ⟨t2,fun pz npz=>?_⟩;have sz:=Same.new npz (.lst [.ref d1,.ref d2]);have wz:=w2.keep sz;have ez:upd H2 pz (.lst [.ref d1,.ref d2]) pz=_:=ad;have epz:=sz _ _ (k34 _ _ npw epJ);have ths:Ths w K wl (upd H2 pz (.lst [.ref d1,.ref d2])) (xs++[.ref d1,.ref d2]):=pI (thJ.but ((k2.trans k34).trans (But.of sz))) (bb (tg1.mono (jM sz)) (bb (tg2.mono (jM sz)) lG));generalize upd H2 pz (.lst [.ref d1,.ref d2])=H5' at sz wz ez epz ths ⊢;refine ⟨ps,pz,_,_,rfl,rfl,epz,ez,fQ (by show xs.length+2≤1000;have : i' < 8:=hi';lia),fun pn npn=>?_⟩;have sn:=Same.new npn (.lst (xs++[.ref d1,.ref d2]));refine ⟨_,pn,_,H5',rfl,(kJ.trans k34).trans (But.of sz),But.of sn,npn,wz.ne npn,wz.keep sn,ad,by rw [aav];show xs.length+2≤_;lia,ths⟩
      rintro σ HJ ⟨c10,ps,xs,Hb,rfl,k1,k2,nb',npw,wJ,epJ,lJ,thJ⟩;have kJ:=k1.trans k2;have lJ:xs.length≤28:=lJ;rw [nZ.1];refine ⟨_,rfl,.inl ⟨rfl,_,SqL.of epJ⟩,_,rfl,pr,rs,[.plus,.minus,.times],rfl,kJ _ _ npr erH,n1,n9,by decide,by decide,hsm,fun pk kv3 E3 HK sK nk ek hb3 hq3=>?_⟩;have epK:=sK _ _ epJ;refine ⟨ps,xs,_,rfl,rfl,epK,by have:=fQ (n:=xs.length+1) (by lia);lia,?_⟩;have npk:pk≠ps:=fun z=>by rw [z,epJ] at nk;cases nk
      have uK:∀ {b:Addr} {o:HO},b≠ps→HK b=some o→upd HK ps (.lst (xs++[.ref pk])) b=some o:=fun h e=>by rw [ak h];exact e
      have bL:Same (off wl Hb) (upd HK ps (.lst (xs++[.ref pk]))):=fun b o e=>by
        have e:=off_le _ _ e;by_cases h:b=wl
        · rename_i e0;unfold off at e0;rw [if_pos h] at e0;cases e0
        · exact uK (aj e nb') (sK _ _ (k2 _ _ h e))
      have tK:TG w K (upd HK ps (.lst (xs++[.ref pk]))) (.ref pk):=lH n9 (uK npk ek) (hb3.mono fun b ys e=>uK (fun z=>by rw [z,epK] at e;cases e) e) hq3;have all:∀ x∈xs++[.ref pk],TG w K (upd HK ps (.lst (xs++[.ref pk]))) x:=fun x hx=>by
        rcases aax.mp hx with hx|hx
        · exact (thJ x hx).mono bL
        · rw [aaI.mp hx];exact tK
      have epL:upd HK ps (.lst (xs++[.ref pk])) ps=some (.lst (xs++[.ref pk])):=ad;have SHb:Same H' Hb:=But.same (SC.trans sA) nw' k1;have nbp:∀ {b:Addr} {o:HO},H' b=some o→b≠ps:=fun e=>aj (SHb _ _ e) nb';have SL:Same H' (upd HK ps (.lst (xs++[.ref pk]))):=fun b o e=>uK (nbp e) (sK _ _ (But.same SHb nw' k2 _ _ e));have erL:upd HK ps (.lst (xs++[.ref pk])) pr=some (.lst (rs.map V.int)):=uK (aj (k1 _ _ npr erH) nb') (sK _ _ (kJ _ _ npr erH));generalize upd HK ps (.lst (xs++[.ref pk]))=HL at all epL SL erL ⊢;have lL:(xs++[V.ref pk]).length≤29:=by rw [aav];show xs.length+1≤29;lia
      generalize xs++[V.ref pk]=ys at all epL lL ⊢;refine ⟨_,rfl,ps,rfl,⟨_,SqL.of epL⟩,?_⟩;refine cN (Trn.list (xs:=ys)) (fun i zs H'=>Same HL H'∧zs=[]) ⟨Same.refl _,rfl⟩ (fun i zs H' hi p=>by rw [p.2];exact ⟨SqL.of (p.1 _ _ epL),aB (by decide)⟩) (fun i x zs H0 H' hi hx p Nx nx=>?_) (fun zs H' p p5 n5=>?_)
      · obtain ⟨S,rfl⟩:=p;obtain ⟨rfl,hx⟩:=hx;refine ⟨_,rfl,_,rfl,_,rfl,pr,rs,gs,x,rfl,S _ _ erL,n1,n9,g1',g3',sp,hsm,(all x (aay hx)).mono S,fun H4 s4=>?_⟩;exact ⟨true,rfl,aR (nx _ _ ⟨S.trans s4,rfl⟩)⟩
      obtain ⟨SM,rfl⟩:=p;have s6:=Same.new n5 (.lst []);refine ⟨aaQ _,fun p6 n6=>⟨0,p5,p6,[],[],by decide,rfl,rfl,SqL.of ((Same.new n6 _) _ _ ad),SqL.of ad,.inr ⟨fun _=>true,rfl,(fun j x y h=>by simp at h),?_⟩⟩⟩;refine ⟨false,rfl,aR ?_⟩;exact ⟨_,_,_,_,_,_,_,_,_,_,rfl,S.trans (SL.trans ((SM.trans s6).trans (Same.new n6 _)))⟩
  · rintro σ H4 ⟨_,_,_,_,_,_,_,_,_,_,rfl,S4⟩;rw [nZ.2];refine ⟨by show 1≤sizeLine;decide,fun a1 m1=>?_⟩;have i1:=Same.new m1 (.lst [.int 4]);have e1:upd H4 a1 (.lst [.int 4]) a1=_:=ad;generalize upd H4 a1 (.lst [.int 4])=G1 at i1 e1 ⊢;refine fun pe npe=>⟨t2,fun u1 o1=>⟨t2,fun v1 x1=>?_⟩⟩
    obtain ⟨HF,eF,h1,h2,h3,h4⟩:=sF (w:=w) (a:=3) (b:=9) npe o1 x1;show (_:Hp→Prop) (upd (upd (upd G1 pe (.dT [])) u1 (.tup [.int 0,.int 0])) v1 (.tup [.int 3,.int 9]));rw [eF];refine ⟨h1,[(u1,ky (0,0),.ref v1)],rfl,(fun b hb=>by rw [aaI.mp hb];exact h2),(by show 1≤15;decide),?_⟩;have em:bD [] ([(u1,ky (0,0),V.ref v1)].map (·.2))=[(ky (0,0),.ref v1)]:=rfl;rw [em];have e1F:=h3 _ _ e1;generalize upd HF pe (.dT [(ky (0,0),.ref v1)])=HG at h3 h4 e1F ⊢;refine ⟨a1,[4],[.plus],some (ppE (fun _=>(3,9)) (aC 1)),.ref pe,rfl,e1F,by decide,by decide,by decide,by decide,je.2,⟨pe,rfl,h4⟩,oE (by decide) (by decide),fun HZ sZ=>⟨(fun z=>by rw [kE.1] at z;cases z),fun e tt he ht=>?_⟩⟩;rw [kE.1] at he;injection he with he
    subst he;refine ⟨t2,fun t3 n3=>?_⟩;have s3:=Same.new n3 (.tup [.int 3,.int 9]);have da:∀ {p:Addr},upd HZ t3 (.tup [.int 3,.int 9]) p=some (.tup [.int 3,.int 9])→Dat (upd HZ t3 (.tup [.int 3,.int 9])) (.tuple [.int 3,.int 9]) (.ref p):=fun {p} h=>by
      simp only [Dat,DatAll];exact ⟨p,_,rfl,h,_,_,rfl,rfl,_,_,rfl,rfl,rfl⟩
    refine ⟨_,_,da (s3 _ _ ht),da ad,by decide +kernel,by decide +kernel,by decide +kernel,?_⟩;have eq:PyData.eqv (.tuple [.int 3,.int 9]) (.tuple [.int 3,.int 9])=true:=by decide +kernel
    refine ⟨true,by rw [eq];rfl,a4 ?_⟩;generalize upd HZ t3 (.tup [.int 3,.int 9])=HY at s3 ⊢;refine ⟨by show 1≤sizeLine;decide,fun a2 m2=>?_⟩;have i2:=Same.new m2 (.lst [.int 4]);have e2:upd HY a2 (.lst [.int 4]) a2=_:=ad;generalize upd HY a2 (.lst [.int 4])=G2 at i2 e2 ⊢;refine fun pe npe=>⟨t2,fun u1 o1=>⟨t2,fun v1 x1=>?_⟩⟩
    obtain ⟨HF,eF,h1,h2,h3,h4⟩:=sF (w:=w) (a:=5) (b:=9) npe o1 x1;show (_:Hp→Prop) (upd (upd (upd G2 pe (.dT [])) u1 (.tup [.int 0,.int 0])) v1 (.tup [.int 5,.int 9]));rw [eF];refine ⟨h1,[(u1,ky (0,0),.ref v1)],rfl,(fun b hb=>by rw [aaI.mp hb];exact h2),(by show 1≤15;decide),?_⟩;have em:bD [] ([(u1,ky (0,0),V.ref v1)].map (·.2))=[(ky (0,0),.ref v1)]:=rfl;rw [em];have e2F:=h3 _ _ e2;generalize upd HF pe (.dT [(ky (0,0),.ref v1)])=HW at h3 h4 e2F ⊢;refine ⟨a2,[4],[.plus],some (ppE (fun _=>(5,9)) (aC 1)),.ref pe,rfl,e2F,by decide,by decide,by decide,by decide,je.2,⟨pe,rfl,h4⟩,oE (by decide) (by decide),fun HV sV=>⟨(fun _=>?_),fun e tt he ht=>by rw [kE.2] at he;cases he⟩⟩;refine ⟨rfl,?_⟩;rw [decide_eq_true rfl];exact q _
end
open PySem L2
theorem us0 {us:List Value} (h:us.length=0):us=[]:=abb.mp h
theorem us1 {us:List Value} (h:us.length=1):∃ a,us=[a]:=by
  cases us with
  | nil=>cases h
  | cons x us=>obtain rfl:=us0 (act h);exact ⟨x,rfl⟩
theorem us2 {us:List Value} (h:us.length=2):∃ a b,us=[a,b]:=by
  cases us with
  | nil=>cases h
  | cons x us=>obtain ⟨b,rfl⟩:=us1 (act h);exact ⟨x,b,rfl⟩
theorem us3 {us:List Value} (h:us.length=3):∃ a b c,us=[a,b,c]:=by
  cases us with
  | nil=>cases h
  | cons x us=>obtain ⟨b,c,rfl⟩:=us2 (act h);exact ⟨x,b,c,rfl⟩
theorem us4 {us:List Value} (h:us.length=4):∃ a b c d,us=[a,b,c,d]:=by
  cases us with
  | nil=>cases h
  | cons x us=>obtain ⟨b,c,d,rfl⟩:=us3 (act h);exact ⟨x,b,c,d,rfl⟩
theorem all_mk {l:PySem.W.OpenLaw} {w:World} {K:aaa} {h:Heap} {mg:Str→Option Value} {fa:Addr} (X:K.In h) (G:h.Ns mainGlobals mg) (hfa:mg "law" = some (.ref fa))
    {tM3 tP1 tP2 tP3 tP4 tP5 tP6 tP7:Tok} {cP:Addr} {odP:Option Addr} {nP:Nat} {slP:Array (Option Value)}
{f0:Addr}
{f1:Addr}
{f2:Addr}
{f3:Addr}
{f4:Addr}
{f5:Addr}
{f6:Addr}
{f7:Addr}
{f8:Addr}
{f9:Addr}
{f10:Addr}
{f11:Addr}
{f12:Addr}
{f13:Addr}
{f14:Addr}
{f15:Addr}
{f16:Addr}
{f17:Addr}
{f18:Addr}
{f19:Addr}
{f20:Addr}
{f21:Addr}
{f22:Addr}
{f23:Addr}
{f24:Addr}
{f25:Addr}
{f26:Addr}
{od27 an27:Option Addr} {sl27:Array (Option Value)} {oc27 kV27 dc27 pm27 cd27 ct27:Value} {f27:Addr}
    (q0:Fq K "is_whole" dZ f0)
    (q1:Fq K "is_row" gc f1)
    (q2:Fq K "is_signs" d0 f2)
    (q3:Fq K "need_row" dY f3)
    (q4:Fq K "need_signs" cS f4)
    (q5:Fq K "shorter_first" bW f5)
    (q6:Fq K "has_all_stretches" bA f6)
    (q7:Fq K "cuts_of" fk f7)
    (q8:Fq K "is_pair" fj f8)
    (q9:Fq K "put_sign" dX f9)
    (q10:Fq K "bounds_say" cT f10)
    (q11:Fq K "is_within" dl f11)
    (q12:Fq K "join_ends" dk f12)
    (q13:Fq K "_law_mixed" cW f13)
    (q14:Fq K "_law_pot" d_ f14)
    (q15:Fq K "_law_take" dn f15)
    (q16:Fq K "_law_number" cJ f16)
    (q17:Fq K "_law_row" d3 f17)
    (q18:Fq K "_law_signs" cU f18)
    (q19:Fq K "_law_put" d9 f19)
    (q20:Fq K "_law_bounds" cK f20)
    (q21:Fq K "_law_is_pair" cw f21)
    (q22:Fq K "_law_said" dq f22)
    (q23:Fq K "_law_loose" cX f23)
    (q24:Fq K "_law_bent" dr f24)
    (q25:Fq K "_law_alike" cY f25)
    (q26:Fq K "_law_right" cV f26)
    (a27:aaE K mainGlobals "law" = some (some (.ref f27))) (l27:K.lookup f27=some ⟨oc27,od27,.func (abo "law" "law" (bR eI) (bH eI) (ao eI) .none kV27 dc27 pm27 an27 cd27 ct27),sl27⟩) (c27:abL K cd27 "law" = true) (k27:abk K (.ref f27)=true)
    (cc:aaE K mainGlobals "len" = some none)
    (cb : aaE K mainGlobals "isinstance" = some none)
    (ca:aaE K mainGlobals "int" = some none)
    (b6:aaE K mainGlobals "bool" = some none)
    (cl:aaE K mainGlobals "str" = some none)
    (cn:aaE K mainGlobals "tuple" = some none)
    (cd:aaE K mainGlobals "list" = some none)
    (ck:aaE K mainGlobals "sorted" = some none)
    (cg:aaE K mainGlobals "range" = some none)
    (ch:aaE K mainGlobals "repr" = some none)
    (b9:aaE K mainGlobals "enumerate" = some none)
    (cm:aaE K mainGlobals "sum" = some none)
    (b4:aaE K mainGlobals "all" = some none)
    (cf:aaE K mainGlobals "min" = some none)
    (ce:aaE K mainGlobals "max" = some none)
    (b3:aaE K mainGlobals "abs" = some none)
    (b8:aaE K mainGlobals "divmod" = some none)
    (b7:aaE K mainGlobals "dict" = some none)
    (cj:aaE K mainGlobals "set" = some none)
    (ci:aaE K mainGlobals "reversed" = some none)
    (b5:aaE K mainGlobals "any" = some none)
    (co:aaE K mainGlobals "zip" = some none)
    (gM3:aaE K mainGlobals "MOST_NUMBERS" = some (some (.int 9 tM3)))
    (gP:aaE K mainGlobals "SIGNS_TO_PUT" = some (some (.ref cP)))
    (lP:K.lookup cP=some ⟨.type "tuple",odP,.seq #[.str "+" tP1,.str "-" tP2,.str "*" tP3,.str "+-" tP4,.str "+*" tP5,.str "-*" tP6,.str "+-*" tP7] nP,slP⟩) :
    ∃ fd:FuncData,(∀ (s:Shared) (v:Value),BindsTo s fd ⟨[v],[]⟩ [("script",v)])∧∀ base:Heap,K.In base→base.Ns mainGlobals mg→FnOk l.prog w K mg base CX0 6 fa fd ["script"] (lO K):=by
  have e:=hfa.symm.trans (PySem.W.mg_of X G a27);cases e;obtain ⟨_,aY,bq,bV⟩:=q0.use X G (ps:=["thing"]) fun _ _ _ _ _ _ us hl=>by obtain ⟨_,rfl⟩:=us1 hl;rfl
  obtain ⟨_,aW,bo,bT⟩:=q1.use X G (ps:=["thing"]) fun _ _ _ _ _ _ us hl=>by obtain ⟨_,rfl⟩:=us1 hl;rfl
  obtain ⟨_,aX,bp,bU⟩:=q2.use X G (ps:=["thing"]) fun _ _ _ _ _ _ us hl=>by obtain ⟨_,rfl⟩:=us1 hl;rfl
  obtain ⟨_,a2,bt,bZ⟩:=q3.use X G (ps:=["thing"]) fun _ _ _ _ _ _ us hl=>by obtain ⟨_,rfl⟩:=us1 hl;rfl
  obtain ⟨_,a3,bu,b0⟩:=q4.use X G (ps:=["thing"]) fun _ _ _ _ _ _ us hl=>by obtain ⟨_,rfl⟩:=us1 hl;rfl
  obtain ⟨_,a5,bw,b2⟩:=q5.use X G (ps:=["many"]) fun _ _ _ _ _ _ us hl=>by obtain ⟨_,rfl⟩:=us1 hl;rfl
  obtain ⟨_,aU,bm,bQ⟩:=q6.use X G (ps:=["thing","many"]) fun _ _ _ _ _ _ us hl=>by obtain ⟨_,_,rfl⟩:=us2 hl;rfl
  obtain ⟨_,aT,bl,bP⟩:=q7.use X G (ps:=["stretch"]) fun _ _ _ _ _ _ us hl=>by obtain ⟨_,rfl⟩:=us1 hl;rfl
  obtain ⟨_,aV,bn,bS⟩:=q8.use X G (ps:=["thing"]) fun _ _ _ _ _ _ us hl=>by obtain ⟨_,rfl⟩:=us1 hl;rfl
  obtain ⟨_,a4,bv,b1⟩:=q9.use X G (ps:=["left","sign","right"]) fun _ _ _ _ _ _ us hl=>by obtain ⟨_,_,_,rfl⟩:=us3 hl;rfl
  obtain ⟨_,aS,bk,bO⟩:=q10.use X G (ps:=["row","signs","thing"]) fun _ _ _ _ _ _ us hl=>by obtain ⟨_,_,_,rfl⟩:=us3 hl;rfl
  obtain ⟨_,aZ,br,bX⟩:=q11.use X G (ps:=["row","signs","paper","stretch"]) fun _ _ _ _ _ _ us hl=>by obtain ⟨_,_,_,_,rfl⟩:=us4 hl;rfl
  obtain ⟨_,a0,bs,bY⟩:=q12.use X G (ps:=["paper","signs","stretch"]) fun _ _ _ _ _ _ us hl=>by obtain ⟨_,_,_,rfl⟩:=us3 hl;rfl
  obtain ⟨_,aJ,bb,bE⟩:=q13.use X G (ps:=["cell","k"]) fun _ _ _ _ _ _ us hl=>by obtain ⟨_,_,rfl⟩:=us2 hl;rfl
  obtain ⟨_,aL,bd,bG⟩:=q14.use X G (ps:=["cell"]) fun _ _ _ _ _ _ us hl=>by obtain ⟨_,rfl⟩:=us1 hl;rfl
  obtain ⟨_,aR,bj,bN⟩:=q15.use X G (ps:=["pot","many"]) fun _ _ _ _ _ _ us hl=>by obtain ⟨_,_,rfl⟩:=us2 hl;rfl
  obtain ⟨_,aK,bc,bF⟩:=q16.use X G (ps:=["pot","way"]) fun _ _ _ _ _ _ us hl=>by obtain ⟨_,_,rfl⟩:=us2 hl;rfl
  obtain ⟨_,aO,bg,bK⟩:=q17.use X G (ps:=["pot","many"]) fun _ _ _ _ _ _ us hl=>by obtain ⟨_,_,rfl⟩:=us2 hl;rfl
  obtain ⟨_,aQ,bi,bM⟩:=q18.use X G (ps:=["pot"]) fun _ _ _ _ _ _ us hl=>by obtain ⟨_,rfl⟩:=us1 hl;rfl
  obtain ⟨_,aM,be,bI⟩:=q19.use X G (ps:=["sign","one","other"]) fun _ _ _ _ _ _ us hl=>by obtain ⟨_,_,_,rfl⟩:=us3 hl;rfl
  obtain ⟨_,aG,a8,bB⟩:=q20.use X G (ps:=["row","signs"]) fun _ _ _ _ _ _ us hl=>by obtain ⟨_,_,rfl⟩:=us2 hl;rfl
  obtain ⟨_,aH,a9,bC⟩:=q21.use X G (ps:=["thing"]) fun _ _ _ _ _ _ us hl=>by obtain ⟨_,rfl⟩:=us1 hl;rfl
  obtain ⟨_,aP,bh,bL⟩:=q22.use X G (ps:=["row","signs","thing"]) fun _ _ _ _ _ _ us hl=>by obtain ⟨_,_,_,rfl⟩:=us3 hl;rfl
  obtain ⟨_,aI,ba,bD⟩:=q23.use X G (ps:=["pot","row","signs"]) fun _ _ _ _ _ _ us hl=>by obtain ⟨_,_,_,rfl⟩:=us3 hl;rfl
  obtain ⟨_,aF,a7,bz⟩:=q24.use X G (ps:=["pot","paper"]) fun _ _ _ _ _ _ us hl=>by obtain ⟨_,_,rfl⟩:=us2 hl;rfl
  obtain ⟨_,aE,a6,bx⟩:=q25.use X G (ps:=["found","due"]) fun _ _ _ _ _ _ us hl=>by obtain ⟨_,_,rfl⟩:=us2 hl;rfl
  obtain ⟨_,aN,bf,bJ⟩:=q26.use X G (ps:=["row","signs","thing"]) fun _ _ _ _ _ _ us hl=>by obtain ⟨_,_,_,rfl⟩:=us3 hl;rfl
  have a1:=o4 (st:=eI) l27 c27 k27;have B:Bu K mg:=⟨aau X G cc,aau X G cb,aau X G ca,aau X G b6,aau X G cl,aau X G cn,aau X G cd,aau X G ck,aau X G cg,aau X G ch,aau X G b9,aau X G cm,aau X G b4,aau X G cf,aau X G ce,aau X G b3,aau X G b8,aau X G b7,aau X G cj,aau X G ci,aau X G b5,aau X G co⟩
  have B3:Cp K mg tM3 cP:=⟨PySem.W.mg_of X G gM3,PySem.W.mg_of X G gP,fun H=>.inr ⟨_,_,_,lP,rfl,rfl,by show 7≤sizeLine;decide,.cons ⟨_,rfl⟩ (.cons ⟨_,rfl⟩ (.cons ⟨_,rfl⟩ (.cons ⟨_,rfl⟩ (.cons ⟨_,rfl⟩ (.cons ⟨_,rfl⟩ (.cons ⟨_,rfl⟩ .nil))))))⟩⟩
  refine ⟨abo "law" "law" (bR eI) (bH eI) (ao eI) .none kV27 dc27 pm27 an27 cd27 ct27,fun s v=>.of_eq rfl,fun base _ _=>?_⟩;have ax:Cal l.prog w K mg base "is_whole" 1 ["thing"] (fN K):=⟨_,_,jJ aY B,bq,aY.kp,bV⟩
  have af:Cal l.prog w K mg base "_law_mixed" 1 ["cell","k"] ip:=⟨_,_,oF aJ,bb,aJ.kp,bE⟩
  have ah:Cal l.prog w K mg base "_law_pot" 1 ["cell"] nX:=⟨_,_,rh aL B,bd,aL.kp,bG⟩
  have an:Cal l.prog w K mg base "_law_take" 2 ["pot","many"] dh:=⟨_,_,p_ aR af,bj,aR.kp,bN⟩
  have ag:Cal l.prog w K mg base "_law_number" 3 ["pot","way"] fY:=⟨_,_,nu aK an,bc,aK.kp,bF⟩
  have ak:Cal l.prog w K mg base "_law_row" 4 ["pot","many"] kw:=⟨_,_,rf aO B an ag,bg,aO.kp,bK⟩
  have am:Cal l.prog w K mg base "_law_signs" 3 ["pot"] fW:=⟨_,_,iH aQ an,bi,aQ.kp,bM⟩
  have av:Cal l.prog w K mg base "is_row" 2 ["thing"] ir:=⟨_,_,nv aW B B3 ax,bo,aW.kp,bT⟩
  have aA:Cal l.prog w K mg base "need_row" 3 ["thing"] fc:=⟨_,_,jF a2 av,bt,a2.kp,bZ⟩
  have aD:Cal l.prog w K mg base "shorter_first" 1 ["many"] pN:=⟨_,_,fo a5 B,bw,a5.kp,b2⟩
  have aw:Cal l.prog w K mg base "is_signs" 1 ["thing"] ff:=⟨_,_,jK aX B B3,bp,aX.kp,bU⟩
  have aB:Cal l.prog w K mg base "need_signs" 2 ["thing"] di:=⟨_,_,gN a3 aw,bu,a3.kp,b0⟩
  have aq:Cal l.prog w K mg base "cuts_of" 1 ["stretch"] kx:=⟨_,_,kQ aT B,bl,aT.kp,bP⟩
  have aC:Cal l.prog w K mg base "put_sign" 1 ["left","sign","right"] fb:=⟨_,_,jE a4,bv,a4.kp,b1⟩
  have au:Cal l.prog w K mg base "is_pair" 2 ["thing"] fg:=⟨_,_,kP aV B ax,bn,aV.kp,bS⟩
  have ad:Cal l.prog w K mg base "_law_is_pair" 1 ["thing"] fe:=⟨_,_,jH aH B,a9,aH.kp,bC⟩
  have ar:Cal l.prog w K mg base "has_all_stretches" 2 ["thing","many"] (fZ w K):=⟨_,_,dB aU B aD,bm,aU.kp,bQ⟩
  have az:Cal l.prog w K mg base "join_ends" 2 ["paper","signs","stretch"] (qP w):=⟨_,_,iM a0 aq aC,bs,a0.kp,bY⟩
  have ay:Cal l.prog w K mg base "is_within" 3 ["row","signs","paper","stretch"] (fV w):=⟨_,_,iN aZ B az,br,aZ.kp,bX⟩
  have ap:Cal l.prog w K mg base "bounds_say" 4 ["row","signs","thing"] (lN w K):=⟨_,_,gQ aS B aA aB ar au ay aD,bk,aS.kp,bO⟩
  have ai:Cal l.prog w K mg base "_law_put" 1 ["sign","one","other"] fX:=⟨_,_,kO aM,be,aM.kp,bI⟩
  have ac:Cal l.prog w K mg base "_law_bounds" 2 ["row","signs"] fh:=⟨_,_,gO aG B ai,a8,aG.kp,bB⟩
  have ae:Cal l.prog w K mg base "_law_loose" 3 ["pot","row","signs"] iq:=⟨_,_,iJ aI B an ai,ba,aI.kp,bD⟩
  have ab:Cal l.prog w K mg base "_law_bent" 3 ["pot","paper"] (kz w):=⟨_,_,jI aF B an,a7,aF.kp,bz⟩
  have al:Cal l.prog w K mg base "_law_said" 2 ["row","signs","thing"] (ku w K):=⟨_,_,jG aP B ai ad,bh,aP.kp,bL⟩
  have aa:Cal l.prog w K mg base "_law_alike" 4 ["found","due"] (fO 3):=⟨_,_,iK aE a6 bx B 3,a6,aE.kp,bx⟩
  have aj:Cal l.prog w K mg base "_law_right" 5 ["row","signs","thing"] (io w K):=⟨_,_,iI aN B al ap aa,bf,aN.kp,bJ⟩
  exact rj a1 B ah an ak am ac ae ab aj ap
theorem walk {l:PySem.W.OpenLaw} {q:Program} {loose:List Str} {XP:(Str→Option Value)→Heap→Prop} {YP:World→Heap→Prop} {d:DefRec} {K:Params→aaa} (hn:l.most=some 63) (hdf:d.params.defaults=[]) (hi:PyProof.Rows.importsNone q=true)
    (hY:∀ (w:World) (h:Heap),YP w h→(K w.params).In h)
    (F:∀ (w:World) (mg:Str→Option Value) (fa:Addr) (h:Heap),(K w.params).In h→h.Ns mainGlobals mg→mg d.name=some (.ref fa) →
      ∃ fd:FuncData,(∀ (s:Shared) (u:Value),BindsTo s fd ⟨[u],[]⟩ [("script",u)])∧∀ base:Heap,(K w.params).In base→base.Ns mainGlobals mg→FnOk l.prog w (K w.params) mg base CX0 6 fa fd ["script"] (lO (K w.params))) :
    PySem.W.WalkO q loose XP YP l.row.toRowW d [] (fun f vs=>PySem.call f vs) :=
  L2.walk_of (n:=63) (k:=6) (x:="script") (CX:=fun _=>CX0) (sp:=fun w=>lO (K w.params)) hn (by decide) hdf ⟨rfl,by decide,by decide,rfl⟩ hi hY F (fun _ _ a ns hl _ hS=>⟨a,ns,rfl,hS,hl,fun _=>rfl⟩) fun _ _ _ _ _ z=>z
end Put
namespace PySem.W.Fast
def tw8934226210754422150:=0
def tw7826256418786938844:=0
def tw9434734657525169867:=0
def tw10310415793753025653:=0
def tw2538987021162012817:=0
def tw6622564460945638971:=0
def tw9443424264822001143:=0
def tw7662195049659065834:=0
def tw16395898816980486842:=0
def tw8527169061140388172:=0
def tw15471539854446529324:=0
def tw9513579433174531360:=0
def tw12472419384671962810:=0
def tw11031436146131222331:=0
def tw10231861905838946121:=0
def tw5665373252221736945:=0
def tw9476978036457928490:=0
def tw13347865841338989074:=0
def tw11204202112828039821:=0
def tw5592786329690548533:=0
def tw10701482973568319550:=0
def tw12409464454278176552:=0
def tw1584962309422108566:=0
def tw11694577605114973396:=0
def tw4064787403985568408:=0
def tw5039119627919931850:=0
def tw11165148302640718436:=0
def tw1999076479007971725:=0
def tw12316765778433300207:=0
def tw3150647842746157997:=0
def tw2819758580977521007:=0
def tw9967060762360991301:=0
def tw8886093560274988500:=0
def tw5381061690278500412:=0
def tw14254225894397965971:=0
def tw1728044838789631496:=0
def tw1811167074426610376:=0
def tw3760076496988345174:=0
def tw3676557965984139771:=0
def tw12456811877866442880:=0
def tw18279553264910783844:=0
def tw7945711384973347601:=0
def tw2804284711382460807:=0
def tw16647011848853979833:=0
def tw8090467259760498717:=0
def tw2468421890691635139:=0
def tw4315765486229694717:=0
def tw12819647416951811550:=0
def tw7398462131893547763:=0
def tw5352120486446797357:=0
def tw11824908176834132725:=0
def tw1158669380837647495:=0
def tw9432081097244916427:=0
def tw1138812799848134596:=0
def tw6024615675705768918:=0
def tw682688277371313410:=0
def tw449600021926088664:=0
def tw13970788511195308006:=0
def tw13370963143260241262:=0
def tw10519359604625665746:=0
def tw14627154197355864355:=0
def tw1101323889050743840:=0
def tw11636842568232515274:=0
def tw1943484362043594034:=0
def tw3567351666919879805:=0
def tw6965887132893831844:=0
def tw1538144113143129139:=0
def tw7364641790869343281:=0
def tw8718509499879012510:=0
def tw10863742521855937014:=0
def tw6836114396051759336:=0
def tw11718524747736522766:=0
def tw1446456039415214215:=0
def tw6948362782465838603:=0
def tw4300961687946703795:=0
def tw12159275085361046962:=0
def tw6822258443198169712:=0
def tw15196538208244337694:=0
def tw3752380359863027210:=0
def tw15592710133171689645:=0
def tw2787239938897667375:=0
def tw13226658929255007434:=0
def tw16670160923389573227:=0
def tw11542711234463914333:=0
def tw8181168471569767191:=0
def tw12169829005545066227:=0
def tw9743860042681285525:=0
def tw17064936543630000071:=0
def tw18045896963565130324:=0
def tw5343983763131577447:=0
def tw7043422653401122221:=0
def tw12094306019178415827:=0
def tw10470815423497924704:=0
def tw16838708773044698852:=0
def tw6467972303336361248:=0
def tw13309791278418804583:=0
def tw9681465808786328843:=0
def tw1379798748851985433:=0
def tw11221118214976145846:=0
def tw9491005109032198945:=0
def tw13398278283216384464:=0
def tw10993000169099302630:=0
def tw7028192234970375733:=0
def tw17517193951095125482:=0
def tw8320455628078196705:=0
def tw13735279581859118209:=0
def tw6244253535968979216:=0
def tw8294047699391751483:=0
def tw202243820247443067:=0
def tw16067058936131625882:=0
def tw4788486376999825183:=0
def tw3773449921183413613:=0
def tw12927789385600951293:=0
def tw2127510795376536289:=0
def tw2649918435379265852:=0
def tw1753493419003723620:=0
def tw13458217148404198307:=0
def tw17527829113084983161:=0
def tw17200926246915804025:=0
def tw9310015653946532350:=0
def tw2860917736603127993:=0
def tw2322757070434122473:=0
def tw1011664192543029620:=0
def tw8111997028053726483:=0
def tw13386984373382914632:=0
def tw12705870692964522789:=0
def tw15347152626003763950:=0
def tw100661920491787126:=0
def tw11930278699209658075:=0
def tw277834885158503284:=0
def tw12002718047832560643:=0
def tw12980345046319170758:=0
def tw534463907491306374:=0
def tw3953165349889094652:=0
def tw2539241969888120509:=0
def tw13336663890029187481:=0
def tw12613607403422519427:=0
def tw2520350873589583630:=0
def tw1068346470070339385:=0
def tw10583554823444085562:=0
def tw15621897851610382724:=0
end PySem.W.Fast
open PySem PySem.W PyProof.Rows
set_option maxRecDepth 100000 in
set_option maxHeartbeats 0 in
theorem PySem.Challenge.cw_putsigns_k35_papers_of_bounds_looked_at_holds : PySem.Challenge.rw_putsigns_k35_papers_of_bounds_looked_at.Holds := by
  w_on;o_law;k_head;(case hw=>w_witness2)
  k_fill
  refine Put.walk (l:=PySem.Challenge.rw_putsigns_k35_papers_of_bounds_looked_at) rfl rfl ?hi (fun w h Y=>PySem.W.kIn_of Y) ?F
  case hi=>first|rfl|decide +kernel
  case F =>
    intro w mg fa h KX G hmg;refine' Put.all_mk KX G hmg ?q0 ?q1 ?q2 ?q3 ?q4 ?q5 ?q6 ?q7 ?q8 ?q9 ?q10 ?q11 ?q12 ?q13 ?q14 ?q15 ?q16 ?q17 ?q18 ?q19 ?q20 ?q21 ?q22 ?q23 ?q24 ?q25 ?q26 ?a27 ?l27 ?c27 ?k27 ?z_len ?z_isinstance ?z_int ?z_bool ?z_str ?z_tuple ?z_list ?z_sorted ?z_range ?z_repr ?z_enumerate ?z_sum ?z_all ?z_min ?z_max ?z_abs ?z_divmod ?z_dict ?z_set ?z_reversed ?z_any ?z_zip ?gM3 ?gP ?lP
    (case q0=>exact L2.Fq.mk4 (by k_is) (by k_is) (by k_is) (by k_is))
    (case q1=>exact L2.Fq.mk4 (by k_is) (by k_is) (by k_is) (by k_is))
    (case q2=>exact L2.Fq.mk4 (by k_is) (by k_is) (by k_is) (by k_is))
    (case q3=>exact L2.Fq.mk4 (by k_is) (by k_is) (by k_is) (by k_is))
    (case q4=>exact L2.Fq.mk4 (by k_is) (by k_is) (by k_is) (by k_is))
    (case q5=>exact L2.Fq.mk4 (by k_is) (by k_is) (by k_is) (by k_is))
    (case q6=>exact L2.Fq.mk4 (by k_is) (by k_is) (by k_is) (by k_is))
    (case q7=>exact L2.Fq.mk4 (by k_is) (by k_is) (by k_is) (by k_is))
    (case q8=>exact L2.Fq.mk4 (by k_is) (by k_is) (by k_is) (by k_is))
    (case q9=>exact L2.Fq.mk4 (by k_is) (by k_is) (by k_is) (by k_is))
    (case q10=>exact L2.Fq.mk4 (by k_is) (by k_is) (by k_is) (by k_is))
    (case q11=>exact L2.Fq.mk4 (by k_is) (by k_is) (by k_is) (by k_is))
    (case q12=>exact L2.Fq.mk4 (by k_is) (by k_is) (by k_is) (by k_is))
    (case q13=>exact L2.Fq.mk4 (by k_is) (by k_is) (by k_is) (by k_is))
    (case q14=>exact L2.Fq.mk4 (by k_is) (by k_is) (by k_is) (by k_is))
    (case q15=>exact L2.Fq.mk4 (by k_is) (by k_is) (by k_is) (by k_is))
    (case q16=>exact L2.Fq.mk4 (by k_is) (by k_is) (by k_is) (by k_is))
    (case q17=>exact L2.Fq.mk4 (by k_is) (by k_is) (by k_is) (by k_is))
    (case q18=>exact L2.Fq.mk4 (by k_is) (by k_is) (by k_is) (by k_is))
    (case q19=>exact L2.Fq.mk4 (by k_is) (by k_is) (by k_is) (by k_is))
    (case q20=>exact L2.Fq.mk4 (by k_is) (by k_is) (by k_is) (by k_is))
    (case q21=>exact L2.Fq.mk4 (by k_is) (by k_is) (by k_is) (by k_is))
    (case q22=>exact L2.Fq.mk4 (by k_is) (by k_is) (by k_is) (by k_is))
    (case q23=>exact L2.Fq.mk4 (by k_is) (by k_is) (by k_is) (by k_is))
    (case q24=>exact L2.Fq.mk4 (by k_is) (by k_is) (by k_is) (by k_is))
    (case q25=>exact L2.Fq.mk4 (by k_is) (by k_is) (by k_is) (by k_is))
    (case q26=>exact L2.Fq.mk4 (by k_is) (by k_is) (by k_is) (by k_is))
    (case a27=>k_is)
    (case l27=>k_is)
    (case c27=>k_is)
    (case k27=>k_is)
    (case z_len=>k_is)
    (case z_isinstance=>k_is)
    (case z_int=>k_is)
    (case z_bool=>k_is)
    (case z_str=>k_is)
    (case z_tuple=>k_is)
    (case z_list=>k_is)
    (case z_sorted=>k_is)
    (case z_range=>k_is)
    (case z_repr=>k_is)
    (case z_enumerate=>k_is)
    (case z_sum=>k_is)
    (case z_all=>k_is)
    (case z_min=>k_is)
    (case z_max=>k_is)
    (case z_abs=>k_is)
    (case z_divmod=>k_is)
    (case z_dict=>k_is)
    (case z_set=>k_is)
    (case z_reversed=>k_is)
    (case z_any=>k_is)
    (case z_zip=>k_is)
    (case gM3=>k_is)
    (case gP=>k_is)
    (case lP=>k_is)

