import PyProof.Rows.All
import Wide.All
import OpenK.AllK
import Wide.FinOn
import Lean
import PyProof.EqAt
import PyProof.EqKinds
import PyProof.TupleCall
import PyProof.Rows.RuleB_bool
import PySem.Challenge.RW_putsigns_k36_ways_shown_greatest
open PySem.W renaming Frag → aaa, mg_none_of → aaw, nsIn → aaK, kia_one → abc, keepIn → abq, fnOf → abw, kitOne → abN, codeIn → ab1, mg_of → acz, findIn → acJ, Looks → acL
open List renaming length_map → aab, getElem?_eq_getElem → aac, map_cons → aae, size_toArray → aag, mem_cons → aai, length_append → aaj, mem_cons_of_mem → aak, mem_map → aan, getElem?_map → aao, mem_append_right → aar, mem_of_getElem? → aas, mem_cons_self → aat, mem_append → aav, length_take → aax, take_add_one → aay, append_assoc → aaA, mem_append_left → aaD, getD_eq_getElem?_getD → aaG, map_append → aaH, mem_singleton → aaM, mem_range → aaN, not_mem_nil → aaP, replicate → aaQ, map_map → aaR, getElem?_eq_some_iff → aaT, all_eq_true → aaV, Nodup → aaX, length_cons → aaY, take_length → aaZ, range → aa0, take_of_length_le → aa1, getElem?_range → aa4, find?_cons → aa9, nodup_cons → aba, length_drop → abf, length_eq_zero_iff → abl, mem_flatMap → abn, mem_map_of_mem → abo, length_filter_le → abu, getElem_mem → abx, getElem?_eq_none → abF, map_nil → abG, getElem?_append_left → abM, replicate_succ → abW, filter_cons → abX, length_pos_of_mem → ab2, zip_cons_cons → ab5, length_singleton → ab6, mem_iff_getElem? → ab7, take_range → ab8, all_eq_false → ace, any_cons → acf, flatMap_append → acm, map_congr_left → acn, map_take → act, mem_filter → acu, flatten_cons → acE, length → acF, nodup_nil → acI, length_pos_iff → acM
open Bool renaming false_ne_true → aad, false_eq_true → aaL, and_eq_true → aaS, true_and → abk, eq_iff_iff → abB, false_and → abZ, and_true → acb, and_false → acH
open PySem.Heap renaming get?_push_of_some → aaf, lt_size → aaq, get?_push_size → aau, SameBut → abg, get?_update_self → abh
open Nat renaming le_refl → aah, lt_of_lt_of_le → aam, le_trans → aaE, ne_of_lt → aaF, zero_le → aaU, lt_of_le_of_lt → aa2, pow_le_pow_right → abe, le_of_lt → abz, ne_of_gt → abA, lt_irrefl → abH, min_eq_left → abR, le_add_right → abY, lt_or_ge → ab9, mul_le_mul → acj, lt_succ_self → ack, not_lt → acO
open Option.some renaming inj → aal
open PyProof.Rows renaming boot_isinstance → aap, boot_int → aa3, callWith_type1 → abb, boot_tuple → abm, boot_min → abv, boot_all → abI, boot_max → abJ, boot_bool → ab3, boot_str → aca, boot_dict → acB, boot_list → acC, slot_tuple_getitem → acG
open PySem.PassesOwn renaming never → aaz
open PySem.PyData renaming depth → aaB, eqv → aaI, depthAll → aaJ, canLayAll0 → aa6, canLay0 → abd, showable → abC, depthKv → ab0, eqvAll → acw, shownAll → acx
open PySem.Paired renaming length → aaC
open PySem renaming boot_len → aaO, mem_of_lookup → abp
open PySem.Heap.SameBut renaming update → aaW
open PySem.F renaming plainAttrs_list → aa5, slot_dict_valueiterator_next → abt, slot_dict_keyiterator_next → aby, slot_list_extend → abT, type_list_extend → abU, slot_dict_eq_refl → acl, slot_list_append → acq, type_list_append → acr, plainAttrs_dict → acy, args_dict_valueiterator_next_1 → acA, entry_dict_valueiterator_next → acD, slot_dict_getitem → acN
open Option renaming map_eq_some_iff → aa7, isSome_iff_exists → acp
open Array renaming length_toList → aa8, getElem?_toList → abE, getElem?_eq_getElem → ach
open PySem.Str renaming ofString → abi
open PySem.Builtin.Dict_items renaming ownsTuple → abj
open PySem.Builtin.Dict renaming showsAll → abr
open PySem.Calls renaming callWith_builtin → abD, spliced_cons → acs
open PySem.Builtin.Slice renaming slicePlaces → abK, sliceAdjust → aci
open PySem.Builtin.Tuple renaming tupleHashOf → abL, tupleExact → abP
open PySem.Builtin.List renaming listTooLong → abO
open Int renaming toNat_natCast → abQ
open Ne renaming symm → abS
open PySem.Builtin.Range renaming rangeSize → abV
open List.Nodup renaming sublist → ab4
open False renaming elim → acd
open PySem.Obj renaming data_mapDictKeys → acg, data_mapFields → acv, mapFields → acK
open Nat.succ renaming inj → aco
set_option Elab.async false
set_option linter.all false
set_option maxRecDepth 100000
namespace L2
open PySem PySem.Spec PyProof.Rows
abbrev Key:=Sum Int Str
def jf:Key→Value→Bool
  | .inl k,v=>Value.isInt k v
  | .inr x,v=>Value.isStrOf x v
def xY (w:World):Key→Int
  | .inl k=>hashInt k
  | .inr x=>hashStr w x
theorem a_:∀ {k:Key} {v:Value},jf k v=true→(∃ i t,k=Sum.inl i∧v=Value.int i t)∨(∃ x t,k=Sum.inr x∧v=Value.str x t)
  | .inl i,v,h=>by
    obtain ⟨t,e⟩:=Value.isInt_shape (k:=i) (v:=v) h;exact .inl ⟨i,t,rfl,e⟩
  | .inr x,v,h=>by
    obtain ⟨t,e⟩:=Value.isStrOf_shape (x:=x) (v:=v) h;exact .inr ⟨x,t,rfl,e⟩
theorem qu (i:Int) (t:Tok):jf (.inl i) (.int i t)=true:=by simp [jf,Value.isInt]
theorem qt (x:Str) (t:Tok):jf (.inr x) (.str x t)=true:=by simp [jf,Value.isStrOf]
theorem vF (a b:Int):decide ((Sum.inl a:Key)=Sum.inl b)=(a == b):=by
  by_cases e:a=b
  · subst e;simp
  · have h:¬ (Sum.inl a:Key)=Sum.inl b:=fun q=>e (Sum.inl.inj q);rw [decide_eq_false h];exact (beq_eq_false_iff_ne.mpr e).symm
theorem vC (a b:Str):decide ((Sum.inr a:Key)=Sum.inr b)=decide (a=b):=by
  by_cases e:a=b
  · subst e;simp
  · have h:¬ (Sum.inr a:Key)=Sum.inr b:=fun q=>e (Sum.inr.inj q);rw [decide_eq_false h,decide_eq_false e]
theorem vE (a:Int) (b:Str):decide ((Sum.inl a:Key)=Sum.inr b)=false:=decide_eq_false (fun q=>nomatch q)
theorem vD (a:Str) (b:Int):decide ((Sum.inr a:Key)=Sum.inl b)=false:=decide_eq_false (fun q=>nomatch q)
def aX (prog:Program) (w:World):PySem.KeyKind prog w Key where
  is:=jf
  hash:=xY w
  inj:=fun v a b ha hb=>by
    rcases a_ ha with ⟨i,t,rfl,rfl⟩|⟨x,t,rfl,rfl⟩
    · rcases a_ hb with ⟨j,u,rfl,e⟩|⟨y,u,rfl,e⟩
      · injection e with e1 _;rw [e1]
      · exact nomatch e
    · rcases a_ hb with ⟨j,u,rfl,e⟩|⟨y,u,rfl,e⟩
      · exact nomatch e
      · injection e with e1 _;rw [e1]
  byValue:=fun k v h=>by
    rcases a_ h with ⟨i,t,rfl,rfl⟩|⟨x,t,rfl,rfl⟩ <;> rfl
  pyHash:=fun hv h=>by
    rcases a_ hv with ⟨i,t,rfl,rfl⟩|⟨x,t,rfl,rfl⟩
    · exact wpAny_pyHash_int h
    · exact wpAny_pyHash_str h
  eqBool:=fun hu hv h=>by
    rcases a_ hu with ⟨i,t,rfl,rfl⟩|⟨x,t,rfl,rfl⟩
    · rcases a_ hv with ⟨j,u,rfl,rfl⟩|⟨y,u,rfl,rfl⟩
      · rw [vF] at h;exact wpAny_eqBool_int h
      · rw [vE] at h;exact SeqAt.EqAt.int_str i t y u _ _ _ _ h
    · rcases a_ hv with ⟨j,u,rfl,rfl⟩|⟨y,u,rfl,rfl⟩
      · rw [vD] at h;exact SeqAt.EqAt.str_int x t j u _ _ _ _ h
      · rw [vC] at h;exact wpAny_eqBool_str h
  «strs»:=fun k x t v h=>by
    rcases a_ h with ⟨i,u,rfl,e⟩|⟨y,u,rfl,e⟩
    · exact nomatch e
    · injection e with e1 _
      subst e1;cases v <;> rfl
theorem jc (prog:Program) (w:World) (k:Key) (v:Value):(aX prog w).is k v=jf k v:=rfl
theorem mz (prog:Program) (w:World) (i:Int) (t:Tok):(aX prog w).is (.inl i) (.int i t)=true:=qu i t
theorem my (prog:Program) (w:World) (x:Str) (t:Tok):(aX prog w).is (.inr x) (.str x t)=true:=qt x t
open PySem PySem.Spec PyProof.Rows
inductive V where
  | non|bl (b:Bool)|int (i:Int)|str (x:Str)|byt (b:Array UInt8)|flt (b:UInt64)|ref (a:Addr)|ty (n:String)
  deriving DecidableEq
def RelV:V→Value→Prop
  | .non,u=>u=Value.none
  | .bl b,u=>u=Value.bool b
  | .int i,u=>∃ t,u=Value.int i t
  | .str x,u=>∃ t,u=Value.str x t
  | .byt b,u=>∃ t,u=Value.bytes b t
  | .flt b,u=>∃ t,u=Value.float b t
  | .ref a,u=>u=Value.ref a
  | .ty n,u=>u=Value.type n
abbrev Vals:List V→List Value→Prop:=Paired RelV
theorem Vals.length {xs:List V} {us:List Value} (r:Vals xs us):xs.length=us.length:=aaC r
theorem Vals.get:∀ {xs:List V} {us:List Value} {i:Nat} {x:V},Vals xs us→xs[i]?=some x→∃ u,us[i]?=some u∧RelV x u
  | _,_,_,_,.nil,e=>by simp at e
  | _,_,0,_,.cons r _,e=>by simp at e;subst e;exact ⟨_,rfl,r⟩
  | _,_,i+1,x,.cons _ t,e=>by
    obtain ⟨u,h1,h2⟩:=Vals.get (i:=i) (x:=x) t (by simpa using e);exact ⟨u,by simpa using h1,h2⟩
theorem Vals.set {x:V} {u:Value} (r:RelV x u):∀ {xs:List V} {us:List Value} (i:Nat),Vals xs us→Vals (xs.set i x) (us.set i u)
  | _,_,_,.nil=>.nil
  | _,_,0,.cons _ t=>.cons r t
  | _,_,i+1,.cons q t=>.cons q (Vals.set r i t)
theorem Vals.append {xs ys:List V} {us ws:List Value} (h:Vals xs us) (s:Vals ys ws):Vals (xs++ys) (us++ws):=by
  induction h with
  | nil=>exact s
  | cons r t ih=>exact .cons r ih
theorem Vals.take:∀ {xs:List V} {us:List Value} (n:Nat),Vals xs us→Vals (xs.take n) (us.take n)
  | _,_,0,_=>.nil
  | _,_,_+1,.nil=>.nil
  | _,_,n+1,.cons r t=>.cons r (Vals.take n t)
theorem Vals.drop:∀ {xs:List V} {us:List Value} (n:Nat),Vals xs us→Vals (xs.drop n) (us.drop n)
  | _,_,0,r=>r
  | _,_,_+1,.nil=>.nil
  | _,_,n+1,.cons _ t=>Vals.drop n t
def RelO:Option V→Option Value→Prop
  | some v,some u=>RelV v u
  | none,none=>True
  | _,_=>False
def KV {κ:Type}:List (κ × V)→List (κ × Value)→Prop:=Paired fun (p:κ × V) (q:κ × Value)=>p.1=q.1∧RelV p.2 q.2
def kV:Key→V
  | .inl i=>.int i
  | .inr x=>.str x
inductive HO where
  | lst (xs:List V)
  | tup (xs:List V)
  | dK (kvs:List (Key × V))|dT (kvs:List (List Key × V))
  | set (S:Int→Bool) (n:Nat)
  | ins (C dx:Addr) (fs:List (Str × V))
  | own (x:Addr)
  | xd (fs:List (Str × V))
  | met (f x:Addr)
  | rng (lo hi:Int)
  | frz (o:Obj) (u:HO)
  | tbl (ps:Array Value)
  | ext (φ:Heap→Prop)
abbrev Hp:=Addr→Option HO
def upd (H:Hp) (a:Addr) (o:HO):Hp:=fun b=>if b=a then some o else H b
theorem ad {H:Hp} {a:Addr} {o:HO}:upd H a o a=some o:=by unfold upd;rw [if_pos rfl]
theorem aq {H:Hp} {a b:Addr} {o:HO} (h:b≠a):upd H a o b=H b:=by unfold upd;rw [if_neg h]
theorem uA {H:Hp} {a b:Addr} {o u:HO} (h:H a=some o) (h':H b=some u) (d:o≠u):a≠b:=by
  intro e;subst e;rw [h] at h';exact d (aal h')
theorem ao {H:Hp} {a b:Addr} {o:HO} (h:H a=some o) (h':H b=none):a≠b:=by
  intro e;subst e;rw [h] at h';cases h'
section
variable (P:Program) (w:World)
def ObjOk (H:Hp) (h:Heap) (a:Addr):HO→Prop
  | .lst xs=>xs.length≤sizeLine∧∃ (its:List Value) (n:Nat),Vals xs its∧h.get? a=some { cls:=.type "list",data:=.seq its.toArray n }
  | .tup xs=>xs.length≤sizeLine∧∃ its:List Value,Vals xs its∧IsTup h a its.toArray
  | .dK kvs=>kvs.length≤sizeLine∧(a == sysModules)=false∧∃ vs,KV kvs vs∧h.DictOf (aX P w) a vs
  | .dT kvs=>kvs.length≤sizeLine∧(a == sysModules)=false∧∃ xs:List (List Key × Addr × Value),
      Paired (fun (p:List Key × V) (q:List Key × Addr × Value)=>p.1=q.1∧H q.2.1=some (.tup (p.1.map kV))∧RelV p.2 q.2.2) kvs xs ∧
      ∃ o es ep,h.get? a=some o∧o.ExactDict∧o.data=.dict es ep∧es.toList=xs.map (entryOfKey (tupleKind (aX P w)))∧(xs.map (·.1)).Nodup
  | .set S n=>h.SetOf (intKind P w) a S n
  | .ins C dx fs=>H dx=some (.own a)∧fs.length≤1000∧dx≠a∧h.get? a=some (PySem.W.instObj C dx) ∧
      ∃ mA,h.Ns1 dx mA∧(∀ f,RelO (fs.lookup f) (mA f))∧PySem.Within mA (fs.map (·.1))
  | .own _=>∃ o,h.get? a=some o
  | .xd fs=>∃ mA,h.Ns1 a mA∧∀ f,RelO (fs.lookup f) (mA f)
  | .rng lo hi=>∃ t u v,h.get? a=some { cls:=.type "range",data:=.fields #[.int lo t,.int hi u,.int 1 v] }
  | .frz o u=>h.get? a=some o∧ObjOk H h a u
  | .tbl ps=>h.get? a=some { cls:=.none,data:=.fields ps }
  | .met f x=>h.get? a=some (PySem.W.methodObj (.ref f) (.ref x))
  | .ext φ=>φ h∧(∃ o,h.get? a=some o)∧∀ h1 h2:Heap,φ h1→(∀ o,h1.get? a=some o→h2.get? a=some o)→φ h2
def HOk (H:Hp) (h:Heap):Prop:=∀ a o,H a=some o→ObjOk P w H h a o
end
section
variable {P:Program} {w:World} {H H':Hp} {h h':Heap} {a:Addr} {o:HO}
theorem ObjOk.lt (x:ObjOk P w H h a o):a < h.objs.size:=by
  cases o with
  | lst xs=>obtain ⟨_,_,_,_,e⟩:=x;exact aaq e
  | tup xs=>obtain ⟨_,_,_,p⟩:=x;exact p.lt
  | dK kvs=>obtain ⟨_,_,_,_,o,_,_,e,_⟩:=x;exact aaq e
  | dT kvs=>obtain ⟨_,_,_,_,o,_,_,e,_⟩:=x;exact aaq e
  | set S n=>obtain ⟨o,_,_,_,e,_⟩:=x;exact aaq e
  | ins C dx fs=>obtain ⟨_,_,_,e,_⟩:=x;exact aaq e
  | own y=>obtain ⟨_,e⟩:=x;exact aaq e
  | xd fs=>obtain ⟨_,⟨_,_,_,e,_⟩,_⟩:=x;exact aaq e
  | rng lo hi=>obtain ⟨_,_,_,e⟩:=x;exact aaq e
  | frz ob u=>obtain ⟨e,_⟩:=x;exact aaq e
  | tbl ps=>exact aaq (show h.get? a=some _ from x)
  | met f y=>exact aaq (show h.get? a=some _ from x)
  | ext φ=>obtain ⟨_,⟨_,e⟩,_⟩:=x;exact aaq e
theorem Paired.mapP {α β:Type} {F G:α→β→Prop} {l₁:List α} {l₂:List β} (h:Paired F l₁ l₂) (f:∀ a b,F a b→G a b):Paired G l₁ l₂:=by
  induction h with
  | nil=>exact .nil
  | cons r t ih=>exact .cons (f _ _ r) ih
theorem ObjOk.stay (x:ObjOk P w H h a o) (k:∀ b u,(b=a∨H b=some (.own a))→h.get? b=some u→h'.get? b=some u)
    (ho:∀ b,H b=some (.own a)→H' b=some (.own a)) (ht:∀ b xs,H b=some (.tup xs)→H' b=some (.tup xs)):ObjOk P w H' h' a o:=by
  induction o with
  | lst xs=>obtain ⟨z,its,n,r,e⟩:=x;exact ⟨z,its,n,r,k _ _ (.inl rfl) e⟩
  | tup xs=>obtain ⟨z,its,r,ob,e,c⟩:=x;exact ⟨z,its,r,ob,k _ _ (.inl rfl) e,c⟩
  | dK kvs=>obtain ⟨z,y,vs,r,ob,es,ep,e,c⟩:=x;exact ⟨z,y,vs,r,ob,es,ep,k _ _ (.inl rfl) e,c⟩
  | dT kvs =>
    obtain ⟨z,y,xs,r,ob,es,ep,e,c⟩:=x;exact ⟨z,y,xs,Paired.mapP r fun p q z=>⟨z.1,ht _ _ z.2.1,z.2.2⟩,ob,es,ep,k _ _ (.inl rfl) e,c⟩
  | set S n=>obtain ⟨ob,es,ep,t,e,c⟩:=x;exact ⟨ob,es,ep,t,k _ _ (.inl rfl) e,c⟩
  | ins C dx fs =>
    obtain ⟨d,z,ne,e,mA,⟨od,es,ep,e2,c⟩,r⟩:=x;exact ⟨ho _ d,z,ne,k _ _ (.inl rfl) e,mA,⟨od,es,ep,k _ _ (.inr d) e2,c⟩,r⟩
  | own y=>obtain ⟨ob,e⟩:=x;exact ⟨ob,k _ _ (.inl rfl) e⟩
  | xd fs=>obtain ⟨mA,⟨od,es,ep,e,c⟩,r⟩:=x;exact ⟨mA,⟨od,es,ep,k _ _ (.inl rfl) e,c⟩,r⟩
  | rng lo hi=>obtain ⟨t,u,v,e⟩:=x;exact ⟨t,u,v,k _ _ (.inl rfl) e⟩
  | frz ob u ih=>obtain ⟨e,q⟩:=x;exact ⟨k _ _ (.inl rfl) e,ih q⟩
  | tbl ps =>
    have e:h.get? a=some { cls:=.none,data:=.fields ps }:=x;show h'.get? a=some { cls:=.none,data:=.fields ps };exact k a _ (.inl rfl) e
  | met f y =>
    have e:h.get? a=some (PySem.W.methodObj (.ref f) (.ref y)):=x;show h'.get? a=some (PySem.W.methodObj (.ref f) (.ref y));exact k a _ (.inl rfl) e
  | ext φ=>obtain ⟨p,⟨o,e⟩,st⟩:=x;exact ⟨st _ _ p fun o q=>k _ _ (.inl rfl) q,⟨o,k _ _ (.inl rfl) e⟩,st⟩
theorem HOk.lt (x:HOk P w H h) (e:H a=some o):a < h.objs.size:=(x a o e).lt
theorem HOk.fresh (x:HOk P w H h) (e:h.objs.size≤a):H a=none:=by
  cases q:H a with
  | none=>rfl
  | some u=>exact absurd (aam (x.lt q) e) (abH _)
theorem HOk.kept (x:HOk P w H h) (k:∀ b u,h.get? b=some u→h'.get? b=some u):HOk P w H h':=fun a o e =>
  (x a o e).stay (fun b u _ q=>k b u q) (fun _ q=>q) fun _ _ q=>q
theorem HOk.laid (x:HOk P w H h) (k:∀ b u,h.get? b=some u→h'.get? b=some u) (hp:h.objs.size≤a) (new:ObjOk P w (upd H a o) h' a o):HOk P w (upd H a o) h':=fun b u e=>by
  have hn:=x.fresh hp;by_cases hb:b=a
  · subst hb;rw [ad] at e;cases e;exact new
  · rw [aq hb] at e;exact (x b u e).stay (fun c v _ q=>k c v q) (fun c q=>by rw [aq (ao q hn)];exact q) fun c xs q=>by rw [aq (ao q hn)];exact q
end
def Rd (H:Hp) (a:Addr) (u:HO):Prop:=H a=some u∨∃ o,H a=some (.frz o u)
theorem Rd.ok {P:Program} {w:World} {H:Hp} {h:Heap} {a:Addr} {u:HO} (r:Rd H a u) (x:HOk P w H h):ObjOk P w H h a u:=by
  rcases r with r|⟨o,r⟩
  · exact x a u r
  · obtain ⟨_,q⟩:=x a _ r;exact q
def Mut:Option HO→Prop
  | some (.lst _)=>True
  | some (.dK _)=>True
  | some (.dT _)=>True
  | some (.set _ _)=>True
  | some (.ins _ _ _)=>True
  | some (.ext _)=>True
  | _=>False
section
variable {P:Program} {w:World} {H:Hp} {h h':Heap} {x e:Addr} {o':HO}
theorem HOk.write (ok:HOk P w H h) (mu:Mut (H x)) (he:e=x∨H e=some (.own x)) (k:∀ b u,b≠e→h.get? b=some u→h'.get? b=some u) (heo:∃ u,h'.get? e=some u)
    (new:ObjOk P w (upd H x o') h' x o'):HOk P w (upd H x o') h':=fun b u q=>by
  have nown:∀ c y,H c=some (.own y)→c≠x:=fun c y r z=>by subst z;rw [r] at mu;exact mu
  have ntup:∀ c xs,H c=some (.tup xs)→c≠x:=fun c xs r z=>by subst z;rw [r] at mu;exact mu
  by_cases hb:b=x
  · subst hb;rw [ad] at q;cases q;exact new
  · rw [aq hb] at q;by_cases hbe:b=e
    · have q':H b=some (.own x):=by
        rcases he with z|z
        · exact absurd (hbe.trans z) hb
        · rw [hbe];exact z
      rw [q] at q';cases q';obtain ⟨v,hv⟩:=heo;exact ⟨v,by rw [hbe];exact hv⟩
    · refine (ok b u q).stay (fun c v hc r=>k c v ?_ r) (fun c r=>by rw [aq (nown c b r)];exact r) fun c xs r=>by rw [aq (ntup c xs r)];exact r
      rcases hc with rfl|hc
      · exact hbe
      · rintro rfl;rcases he with z|z
        · exact nown c b hc z
        · rw [hc] at z;cases z;exact hb rfl
end
structure Un (fs ex:List Addr) (H H':Hp) (h h':Heap):Prop where
  keep:∀ b o,h.get? b=some o→H b=none→b∉fs→b∉ex→h'.get? b=some o
  slot:∀ b o,h.get? b=some o→H b=none→b∈fs→b∉ex→∃ sl,h'.get? b=some { o with slots:=sl }
  free:∀ b o,h.get? b=some o→H b=none→b∉ex→H' b=none
  there:∀ b o,h.get? b=some o→b∉ex→∃ o',h'.get? b=some o'
  tups:∀ b xs,H b=some (.tup xs)→H' b=some (.tup xs)
  frzs:∀ b o u,H b=some (.frz o u)→H' b=some (.frz o u)
  tbls:∀ b ps,H b=some (.tbl ps)→∃ more,H' b=some (.tbl (ps++more))
section
variable {fs fs' ex ex':List Addr} {H H1 H2:Hp} {h h1 h2 h':Heap} {a x e:Addr} {o:HO}
theorem Un.any (u:Un fs ex H H1 h h1) {b:Addr} {ob:Obj} (q:h.get? b=some ob) (n:H b=none) (hx:b∉ex):∃ sl,h1.get? b=some { ob with slots:=sl }:=by
  by_cases hb:b∈fs
  · exact u.slot b ob q n hb hx
  · exact ⟨ob.slots,u.keep b ob q n hb hx⟩
theorem Un.kept (k:∀ b u,h.get? b=some u→h'.get? b=some u):Un fs ex H H h h' :=
  ⟨fun b ob q _ _ _=>k b ob q,fun b ob q _ _ _=>⟨ob.slots,k b ob q⟩,fun _ _ _ n _=>n,fun b ob q _=>⟨ob,k b ob q⟩,fun _ _ q=>q,fun _ _ _ q=>q,fun _ ps q=>⟨#[],by rw [q];simp⟩⟩
theorem Un.refl:Un fs ex H H h h:=Un.kept fun _ _ q=>q
theorem Un.laid (k:∀ b u,h.get? b=some u→h'.get? b=some u) (hp:h.objs.size≤a) (hn:H a=none):Un fs ex H (upd H a o) h h' where
  keep:=fun b u q _ _ _=>k b u q
  slot:=fun b u q _ _ _=>⟨u.slots,k b u q⟩
  free:=fun b u q n _=>by rw [aq (aaF (aam (aaq q) hp))];exact n
  there:=fun b u q _=>⟨u,k b u q⟩
  tups:=fun b xs q=>by rw [aq (ao q hn)];exact q
  frzs:=fun b u xs q=>by rw [aq (ao q hn)];exact q
  tbls:=fun b ps q=>⟨#[],by rw [aq (ao q hn),q];simp⟩
theorem Un.write (mu:Mut (H x)) (he:e=x∨H e=some (.own x)) (k:∀ b u,b≠e→h.get? b=some u→h'.get? b=some u) (heo:∃ u,h'.get? e=some u):Un fs ex H (upd H x o) h h':=by
  have hx:∀ b,H b=none→b≠x:=fun b n z=>by subst z;rw [n] at mu;exact mu
  have hb:∀ b,H b=none→b≠e:=fun b n z=>by
    subst z;rcases he with r|r
    · exact hx b n r
    · rw [n] at r;cases r
  have hm:∀ b u,H b=some u→¬ Mut (some u)→b≠x:=fun b u q nm z=>by subst z;rw [q] at mu;exact nm mu
  refine ⟨fun b u q n _ _=>k b u (hb b n) q,fun b u q n _ _=>⟨u.slots,k b u (hb b n) q⟩,fun b u q n _=>by rw [aq (hx b n)];exact n,fun b u q _=>?_,
    fun b xs q=>by rw [aq (hm b _ q fun z=>z)];exact q,fun b u xs q=>by rw [aq (hm b _ q fun z=>z)];exact q,fun b ps q=>⟨#[],by rw [aq (hm b _ q fun z=>z),q];simp⟩⟩
  by_cases hbe:b=e
  · subst hbe;exact heo
  · exact ⟨u,k b u hbe q⟩
end
def trk (h:Heap) (H:Hp):List Addr:=(aa0 h.objs.size).filter fun a=>(H a).isSome
def kZ (h:Heap) (H:Hp):Heap:=PySem.W.hideAll h (trk h H)
theorem qy (h:Heap) (H:Hp):(kZ h H).objs.size=h.objs.size:=PySem.W.hideAll_size _ _
theorem rX {h:Heap} {H:Hp} {b:Addr} {o:Obj} (e:h.get? b=some o) (n:H b=none):(kZ h H).get? b=some o :=
  PySem.W.hideAll_get _ e fun hm=>by
    have q:(H b).isSome=true:=(acu.mp hm).2;rw [n] at q;simp at q
theorem tS {h:Heap} {H:Hp} {b:Addr} {o:Obj} (e:(kZ h H).get? b=some o):h.get? b=some o∧H b=none:=by
  have e':h.get? b=some o:=PySem.W.of_hideAll (trk h H) e;refine ⟨e',?_⟩;cases q:H b with
  | none=>rfl
  | some x =>
    have hm:b∈trk h H:=List.mem_filter.mpr ⟨aaN.mpr (aaq e'),by simp [q]⟩;have z:(kZ h H).get? b=none:=PySem.W.hideAll_none (trk h H) hm;rw [z] at e;cases e
def uj (g h:Heap) (L:Addr):List (Addr × Obj):=(aa0 h.objs.size).filterMap fun a=>if a=L∨(g.get? a).isSome=true then none else (h.get? a).map fun o=>(a,o)
def rest (g h:Heap) (L d:Addr):List (Addr × Obj):=(uj g h L).filter fun p=>decide (p.1≠d)
open PySem PySem.Spec PyProof.Rows
structure Mod (K:aaa) (mg:Str→Option Value) (base:Heap):Prop where
  kin:K.In base
  glob:base.Ns mainGlobals mg
  blt:∃ mb,base.Ns builtinsNs mb∧∀ x:Str,x ≠ "__name__"→mb x=bootBuiltins x
  nolimit:base.NoLimit
  sysm:∃ mm,base.Ns sysModules mm
structure Cx where
  prog:Program
  w:World
  K:aaa
  mg:Str→Option Value
  base:Heap
  A:Around
  N:List Str
  s₀:Shared
  H₀:Hp
  env:Env
  outer:List Env
  stack:List Env
  ex:List Addr
  fn:Str→Bool
  calm:Bool
  pn:List (Addr × Obj)
  xe:Value→Shared→Prop
def frs (l:List Env):List Addr:=l.filterMap (·.frame)
abbrev Cx.fs (X:Cx):List Addr:=frs X.outer
def Vis (sc:Scope) (x:Str):Prop:=sc.names.lookup x=some .local∨sc.names.lookup x=some .cell∨sc.names.lookup x=some .free
def Loc (sc:Scope) (x:Str):Prop:=sc.names.lookup x=some .local∨sc.names.lookup x=some .cell
def xt (env:Env) (h:Heap) (m:Str→Option Value) (x:Str) (u:Value):Prop :=
  (env.kindOf x=some .local∧m x=some u)∨((env.kindOf x=some .cell∨env.kindOf x=some .free)∧∃ c,env.cells.lookup x=some c∧h.IsCell c (some u))
structure Cx.Ok (X:Cx):Prop where
  mod:Mod X.K X.mg X.base
  kind:X.env.scope.kind=.function
  glob:X.env.globals=mainGlobals
  blt:X.env.builtins=builtinsNs
  above:X.s₀.heap.objs.size≤X.env.locals
  inj:∀ x y c,X.env.cells.lookup x=some c→X.env.cells.lookup y=some c→x=y
  has:∀ x,(X.env.kindOf x=some .cell∨X.env.kindOf x=some .free)→∃ c,X.env.cells.lookup x=some c
  cab:∀ x c,X.fn x=true→X.env.cells.lookup x=some c→X.s₀.heap.objs.size≤c
  hd:X.calm=true→X.A.handled=none
  frames:X.A.frames=some X.stack
  stk:X.stack=X.outer∨(X.stack=X.env :: X.outer∧X.env.frame=some X.env.locals)
  exf:∀ b∈X.ex,b≠X.env.locals∧∀ x c,X.env.cells.lookup x=some c→c≠b
  bs:∀ b o,X.base.get? b=some o→X.s₀.heap.get? b=some o∧X.H₀ b=none
  bsz:X.base.objs.size≤X.s₀.heap.objs.size
  noex:∀ b o,X.base.get? b=some o→b∉X.ex
  exfs:∀ b∈X.ex,b∉X.fs
  funs:X.s₀.heap.FunFrames X.base X.outer
  frf:∀ b∈X.fs,X.H₀ b=none
structure Inv (X:Cx) (pins:List (Addr × Obj)) (σ:List (Option V)) (H:Hp) (s:Shared):Prop where
  ok:X.Ok
  os:s.os=X.s₀.os
  bare:AllBare s.gens
  base:Un X.fs X.ex X.H₀ H X.s₀.heap s.heap
  loc:∃ m,s.heap.Ns X.env.locals m∧∀ (i:Nat) (x:Str) (v:V),X.N[i]?=some x→σ[i]?=some (some v)→Vis X.env.scope x→∃ u,RelV v u∧xt X.env s.heap m x u
  cell:∀ x c,X.env.cells.lookup x=some c→∃ v,s.heap.IsCell c v
  free:H X.env.locals=none
  freeC:∀ x c,X.env.cells.lookup x=some c→H c=none
  pin:∀ p∈X.pn++pins,s.heap.get? p.1=some p.2∧H p.1=none∧p.1≠X.env.locals∧p.1∉X.fs∧∀ v,p.2.data≠.cell v
  hok:HOk X.prog X.w H s.heap
  len:σ.length=X.N.length
section
variable {X:Cx} {pins:List (Addr × Obj)} {σ:List (Option V)} {H H':Hp} {s:Shared} {h':Heap}
theorem Cx.Ok.nofr (ok:X.Ok) {b:Addr} {o:Obj} (e:X.base.get? b=some o):b∉X.fs:=fun hb=>by
  have:=(ok.funs.mem hb).1;rw [e] at this;cases this
theorem Inv.bs (I:Inv X pins σ H s):∀ b o,X.base.get? b=some o→s.heap.get? b=some o∧H b=none:=fun b o e =>
  ⟨I.base.keep b o (I.ok.bs b o e).1 (I.ok.bs b o e).2 (I.ok.nofr e) (I.ok.noex b o e),I.base.free b o (I.ok.bs b o e).1 (I.ok.bs b o e).2 (I.ok.noex b o e)⟩
theorem Inv.bk (I:Inv X pins σ H s):∀ b o,X.base.get? b=some o→s.heap.get? b=some o:=fun b o e=>(I.bs b o e).1
theorem Inv.mod (I:Inv X pins σ H s):Mod X.K X.mg X.base:=I.ok.mod
theorem Inv.kIn (I:Inv X pins σ H s):X.K.In s.heap:=I.ok.mod.kin.keeps I.bk
theorem Inv.lt (I:Inv X pins σ H s):X.env.locals < s.heap.objs.size:=let ⟨_,hn,_⟩:=I.loc;hn.lt
theorem Inv.sz (I:Inv X pins σ H s):X.s₀.heap.objs.size≤s.heap.objs.size:=aaE I.ok.above (abz I.lt)
theorem Inv.nofs (I:Inv X pins σ H s) {a:Addr} (h:s.heap.objs.size≤a):a∉X.fs:=fun hb=>by
  obtain ⟨_,o,ho,_⟩:=I.ok.funs.mem hb;exact absurd (aam (aaq ho) (aaE I.sz h)) (abH _)
theorem Inv.cne (I:Inv X pins σ H s):∀ x c,X.env.cells.lookup x=some c→c≠X.env.locals:=fun x c e z=>by
  obtain ⟨v,o,ho,hd⟩:=I.cell x c e;obtain ⟨m,⟨o',es,ep,ho',hd',_⟩,_⟩:=I.loc;rw [z,ho'] at ho;cases ho;rw [hd'] at hd;cases hd
theorem Inv.funs (I:Inv X pins σ H s):s.heap.FunFrames X.base X.outer:=by
  have all:∀ (l:List Env),(∀ b∈frs l,b∈X.fs)→X.s₀.heap.FunFrames X.base l→s.heap.FunFrames X.base l:=by
    intro l
    induction l with
    | nil=>intro _ _;trivial
    | cons env r ih =>
      intro hs hl;obtain ⟨hk,⟨L,o,hf,hn,ho,hd⟩,hr⟩:=hl;have hL:L∈X.fs:=hs L (by unfold frs;rw [List.filterMap_cons,hf];exact aat);obtain ⟨sl,e⟩:=I.base.slot L o ho (I.ok.frf L hL) hL fun z=>I.ok.exfs L z hL;exact ⟨hk,⟨L,_,hf,hn,e,hd⟩,ih (fun b hb=>hs b (by unfold frs;rw [List.filterMap_cons,hf];exact aak _ hb)) hr⟩
  exact all X.outer (fun _ hb=>hb) I.ok.funs
theorem Inv.stack (I:Inv X pins σ H s):s.heap.FunFrames X.base X.stack:=by
  rcases I.ok.stk with e|⟨e,hf⟩
  · rw [e];exact I.funs
  · rw [e];obtain ⟨m,hn,_⟩:=I.loc;refine .cons (by rw [I.ok.kind];decide) hf hn ?_ I.funs;exact Heap.get?_none_of_le (aaE I.ok.bsz I.ok.above)
theorem Inv.stkSub (I:Inv X pins σ H s):∀ b∈frs X.stack,b∈X.env.locals :: X.fs:=fun b hb=>by
  rcases I.ok.stk with e|⟨e,hf⟩
  · rw [e] at hb;exact aak _ hb
  · rw [e] at hb;unfold frs at hb;rw [List.filterMap_cons,hf] at hb;exact hb
theorem Inv.stkFree (I:Inv X pins σ H s):∀ b∈frs X.stack,H b=none:=fun b hb=>by
  rcases aai.mp (I.stkSub b hb) with e|hb
  · rw [e];exact I.free
  · obtain ⟨_,o,ho,_⟩:=I.ok.funs.mem hb;exact I.base.free b o ho (I.ok.frf b hb) fun z=>I.ok.exfs b z hb
theorem Inv.step {g':Array GenState} {t':Nat} {d':Drawn} {ch:List Addr} (I:Inv X pins σ H s)
    (hch:∀ b∈ch,(b∈X.ex∨X.s₀.heap.objs.size≤b)∧b≠X.env.locals∧(∀ x c,X.env.cells.lookup x=some c→c≠b)∧∀ p∈X.pn++pins,p.1≠b)
    (keep:∀ b o,b≠X.env.locals→b∉X.fs→b∉ch→s.heap.get? b=some o→H b=none→h'.get? b=some o)
    (slot:∀ b o,b≠X.env.locals→b∈X.fs→b∉ch→s.heap.get? b=some o→H b=none→∃ sl,h'.get? b=some { o with slots:=sl }) (free:∀ b o,b∉ch→s.heap.get? b=some o→H b=none→H' b=none)
    (there:∀ b o,b∉ch→s.heap.get? b=some o→∃ o',h'.get? b=some o')
    (tups:∀ b xs,H b=some (.tup xs)→H' b=some (.tup xs)) (frzs:∀ b o u,H b=some (.frz o u)→H' b=some (.frz o u)) (tbls:∀ b ps,H b=some (.tbl ps)→∃ more,H' b=some (.tbl (ps++more)))
    (ns:∀ m,s.heap.Ns X.env.locals m→h'.Ns X.env.locals m) (hok:HOk X.prog X.w H' h') (hg:AllBare g') :
    Inv X pins σ H' { s with heap:=h',gens:=g',drawn:=d',toks:=t' }:=by
  have neL:∀ b o,X.s₀.heap.get? b=some o→b≠X.env.locals:=fun b o e=>aaF (aam (aaq e) I.ok.above);have neC:∀ b o,X.s₀.heap.get? b=some o→b∉X.ex→b∉ch:=fun b o e hx hb=>by
    rcases (hch b hb).1 with z|z
    · exact hx z
    · exact absurd (aam (aaq e) z) (abH _)
  have cellK:∀ x c,X.env.cells.lookup x=some c→∀ v,s.heap.IsCell c v→h'.IsCell c v:=fun x c e v ⟨o,ho,hd⟩=>by
    have nch:c∉ch:=fun z=>(hch c z).2.2.1 x c e rfl;by_cases hc:c∈X.fs
    · obtain ⟨sl,q⟩:=slot c o (I.cne x c e) hc nch ho (I.freeC x c e);exact ⟨_,q,hd⟩
    · exact ⟨o,keep c o (I.cne x c e) hc nch ho (I.freeC x c e),hd⟩
  refine ⟨I.ok,I.os,hg,⟨fun b o e n hb hx=>?_,fun b o e n hb hx=>?_,fun b o e n hx=>?_,fun b o e hx=>?_,fun b xs e=>tups b xs (I.base.tups b xs e),fun b o xs e=>frzs b o xs (I.base.frzs b o xs e),fun b ps e=>?_⟩,?_,fun x c e=>?_,?_,fun x c e=>?_,fun p hp=>?_,hok,I.len⟩
  · exact keep b o (neL b o e) hb (neC b o e hx) (I.base.keep b o e n hb hx) (I.base.free b o e n hx)
  · obtain ⟨sl,e1⟩:=I.base.slot b o e n hb hx;obtain ⟨sl',e2⟩:=slot b _ (neL b o e) hb (neC b o e hx) e1 (I.base.free b o e n hx);exact ⟨sl',e2⟩
  · obtain ⟨o',e1⟩:=I.base.there b o e hx;exact free b o' (neC b o e hx) e1 (I.base.free b o e n hx)
  · obtain ⟨o',e1⟩:=I.base.there b o e hx;exact there b o' (neC b o e hx) e1
  · obtain ⟨m1,e1⟩:=I.base.tbls b ps e;obtain ⟨m2,e2⟩:=tbls b _ e1;exact ⟨m1++m2,by rw [e2,Array.append_assoc]⟩
  · obtain ⟨m,hn,hl⟩:=I.loc;refine ⟨m,ns m hn,fun i x v e1 e2 e3=>?_⟩;obtain ⟨u,r,l⟩:=hl i x v e1 e2 e3;refine ⟨u,r,?_⟩;rcases l with l|⟨k,c,e,z⟩
    · exact .inl l
    · exact .inr ⟨k,c,e,cellK x c e _ z⟩
  · obtain ⟨v,z⟩:=I.cell x c e;exact ⟨v,cellK x c e v z⟩
  · obtain ⟨m,⟨o,_,_,ho,_⟩,_⟩:=I.loc;exact free _ o (fun z=>(hch _ z).2.1 rfl) ho I.free
  · obtain ⟨v,o,ho,hd⟩:=I.cell x c e;exact free c o (fun z=>(hch c z).2.2.1 x c e rfl) ho (I.freeC x c e)
  · obtain ⟨e,n,ne,nf,d⟩:=I.pin p hp;have nch:p.1∉ch:=fun z=>(hch p.1 z).2.2.2 p hp rfl;exact ⟨keep p.1 p.2 ne nf nch e n,free p.1 p.2 nch e n,ne,nf,d⟩
theorem Inv.un {t':Nat} (I:Inv X pins σ H s) (u:Un X.fs [] H H' s.heap h') (hok:HOk X.prog X.w H' h'):Inv X pins σ H' { s with heap:=h',toks:=t' }:=by
  obtain ⟨m,⟨o,es,ep,ho,r⟩,_⟩:=id I.loc;obtain ⟨sl,hL⟩:=u.any ho I.free (by simp);exact I.step (g':=s.gens) (d':=s.drawn) (ch:=[]) (fun _ z=>nomatch z) (fun b o _ hb _ e n=>u.keep b o e n hb (by simp)) (fun b o _ hb _ e n=>u.slot b o e n hb (by simp)) (fun b o _ e n=>u.free b o e n (by simp)) (fun b o _ e=>u.there b o e (by simp)) u.tups u.frzs u.tbls (fun m' hm=>by
    obtain ⟨o',es',ep',ho',r'⟩:=hm;rw [ho] at ho';cases ho';exact ⟨_,es',ep',hL,r'⟩) hok I.bare
theorem Inv.call {g':Array GenState} {t':Nat} {d':Drawn} {ch:List Addr} (I:Inv X pins σ H s) (u:Un (frs X.stack) ch H H' s.heap h') (hok:HOk X.prog X.w H' h') (hg:AllBare g')
    (hch:∀ b∈ch,(b∈X.ex∨X.s₀.heap.objs.size≤b)∧b≠X.env.locals∧(∀ x c,X.env.cells.lookup x=some c→c≠b)∧∀ p∈X.pn++pins,p.1≠b) :
    Inv X pins σ H' { s with heap:=h',gens:=g',drawn:=d',toks:=t' }:=by
  obtain ⟨m,⟨o,es,ep,ho,r⟩,_⟩:=id I.loc;obtain ⟨sl,hL⟩:=u.any ho I.free fun z=>(hch _ z).2.1 rfl;exact I.step (ch:=ch) hch (fun b o hL hb hc e n=>u.keep b o e n (fun z=>(aai.mp (I.stkSub b z)).elim hL hb) hc) (fun b o _ _ hc e n=>u.any e n hc) (fun b o hc e n=>u.free b o e n hc) (fun b o hc e=>u.there b o e hc) u.tups u.frzs u.tbls (fun m' hm=>by
    obtain ⟨o',es',ep',ho',r'⟩:=hm;rw [ho] at ho';cases ho';exact ⟨_,es',ep',hL,r'⟩) hok hg
theorem Inv.turned {t':Nat} {it:Addr} (I:Inv X pins σ H s) (k:∀ b o,b≠it→s.heap.get? b=some o→h'.get? b=some o) (hn:H it=none) (hL:it≠X.env.locals)
    (h1:it∈X.ex∨X.s₀.heap.objs.size≤it) (h2:∀ x c,X.env.cells.lookup x=some c→c≠it) (h3:∀ p∈X.pn++pins,p.1≠it):Inv X pins σ H { s with heap:=h',toks:=t' }:=by
  have nit:∀ b u,H b=some u→b≠it:=fun b u e z=>by rw [z,hn] at e;cases e
  refine I.step (g':=s.gens) (d':=s.drawn) (ch:=[it]) (fun b hb=>?_) (fun b o _ _ hc e _=>k b o (fun z=>hc (by simp [z])) e) (fun b o _ _ hc e _=>⟨o.slots,k b o (fun z=>hc (by simp [z])) e⟩) (fun _ _ _ _ n=>n)
    (fun b o hc e=>⟨o,k b o (fun z=>hc (by simp [z])) e⟩) (fun _ _ e=>e) (fun _ _ _ e=>e) (fun b ps e=>⟨#[],by rw [e];simp⟩) (fun m hm=>?_) (fun b u e=>?_) I.bare
  · have e:b=it:=by simpa using hb
    subst e;exact ⟨h1,hL,h2,h3⟩
  · obtain ⟨o,es,ep,ho,r⟩:=hm;exact ⟨o,es,ep,k _ o (abS hL) ho,r⟩
  · refine (I.hok b u e).stay (fun c v hc q=>k c v ?_ q) (fun _ q=>q) fun _ _ q=>q;rcases hc with z|z
    · rw [z];exact nit b u e
    · exact nit c _ z
theorem Inv.tok (I:Inv X pins σ H s) (t:Nat):Inv X pins σ H { s with toks:=t }:=I.un (h':=s.heap) (t':=t) Un.refl I.hok
theorem Inv.kept {t':Nat} (I:Inv X pins σ H s) (k:∀ b u,s.heap.get? b=some u→h'.get? b=some u):Inv X pins σ H { s with heap:=h',toks:=t' }:=I.un (Un.kept k) (I.hok.kept k)
theorem Inv.laid {a:Addr} {o:HO} {t':Nat} (I:Inv X pins σ H s) (k:∀ b u,s.heap.get? b=some u→h'.get? b=some u) (hp:s.heap.objs.size≤a) (new:ObjOk X.prog X.w (upd H a o) h' a o) :
    Inv X pins σ (upd H a o) { s with heap:=h',toks:=t' }:=I.un (Un.laid k hp (I.hok.fresh hp)) (I.hok.laid k hp new)
theorem Inv.write {x e:Addr} {o:HO} {t':Nat} (I:Inv X pins σ H s) (mu:Mut (H x)) (he:e=x∨H e=some (.own x)) (k:∀ b u,b≠e→s.heap.get? b=some u→h'.get? b=some u) (heo:∃ u,h'.get? e=some u)
    (new:ObjOk X.prog X.w (upd H x o) h' x o):Inv X pins σ (upd H x o) { s with heap:=h',toks:=t' }:=I.un (Un.write mu he k heo) (I.hok.write mu he k heo new)
theorem Inv.pins_of {pins':List (Addr × Obj)} (I:Inv X pins σ H s) (h:∀ p∈pins',s.heap.get? p.1=some p.2∧H p.1=none∧p.1≠X.env.locals∧p.1∉X.fs∧∀ v,p.2.data≠.cell v):Inv X pins' σ H s :=
  ⟨I.ok,I.os,I.bare,I.base,I.loc,I.cell,I.free,I.freeC,fun p hp=>(aav.mp hp).elim (fun z=>I.pin p (aaD _ z)) (h p),I.hok,I.len⟩
theorem mx {N:List Str} (hN:N.Nodup) {i j:Nat} {x:Str} (a:N[i]?=some x) (b:N[j]?=some x):i=j:=by
  obtain ⟨h1,e1⟩:=aaT.mp a;obtain ⟨h2,e2⟩:=aaT.mp b;exact (List.getElem_inj hN).mp (e1.trans e2.symm)
theorem pX {M:Model} {A:Around} {E:Value→Shared→Prop} {i:Nat} {x:Str} {v:V} {u:Value} {Q:Unit→Shared→Prop} (I:Inv X pins σ H s) (hN:X.N.Nodup) (hi:X.N[i]?=some x) (hx:Loc X.env.scope x) (r:RelV v u)
    (h:∀ s',Inv X pins (σ.set i (some v)) H s'→(∃ a,abg a s.heap s'.heap∧(a=X.env.locals∨X.env.cells.lookup x=some a))→Q () s') (hf:X.fn x=true∨X.env.scope.names.lookup x=some .local:=by first|exact .inl rfl|exact .inr rfl|assumption):wpAny M A (storeName X.env x u) Q E s:=by
  obtain ⟨m,hn,hl⟩:=id I.loc;have hcls:(X.env.scope.kind == .class || (X.env.scope.kind == .module && X.env.locals != X.env.globals))=false:=by rw [I.ok.kind];rfl
  have hiσ:i < σ.length:=by rw [I.len];exact (aaT.mp hi).1
  have cne:=I.cne;have tracked:∀ {a:Addr} {h':Heap},(∃ o,s.heap.get? a=some o∧H a=none)→abg a s.heap h'→HOk X.prog X.w H h':=fun {a h'} ha hs b ob e=>by
    obtain ⟨_,_,hfree⟩:=ha;refine (I.hok b ob e).stay (fun c w' hc q=>(hs.2 c ?_).trans q) (fun _ q=>q) fun _ _ q=>q;rintro rfl;rcases hc with rfl|hc
    · rw [hfree] at e;cases e
    · rw [hfree] at hc;cases hc
  rcases hx with hk|hk
  · refine wpAny_storeName_local hk hn (fun h' hn' hs=>?_) hcls;obtain ⟨oL,_,_,hoL,_⟩:=id hn;refine h _ ⟨I.ok,I.os,I.bare,⟨fun b o e n hb hx=>?_,fun b o e n hb hx=>?_,I.base.free,fun b o e hx=>?_,I.base.tups,I.base.frzs,I.base.tbls⟩,⟨_,hn',fun j y v' e1 e2 e3=>?_⟩,fun y c e=>?_,I.free,I.freeC,fun p hp=>?_,tracked ⟨oL,hoL,I.free⟩ hs,by simpa using I.len⟩ ⟨_,hs,.inl rfl⟩
    · exact (hs.2 b (aaF (aam (aaq e) I.ok.above))).trans (I.base.keep b o e n hb hx)
    · obtain ⟨sl,e1⟩:=I.base.slot b o e n hb hx;exact ⟨sl,(hs.2 b (aaF (aam (aaq e) I.ok.above))).trans e1⟩
    · obtain ⟨o',e1⟩:=I.base.there b o e hx;exact ⟨o',(hs.2 b (aaF (aam (aaq e) I.ok.above))).trans e1⟩
    · by_cases hj:j=i
      · subst hj;rw [hi] at e1;cases e1;rw [List.getElem?_set_self hiσ] at e2;cases e2;exact ⟨u,r,.inl ⟨hk,by simp⟩⟩
      · rw [List.getElem?_set_ne (abS hj)] at e2;obtain ⟨u',r',q⟩:=hl j y v' e1 e2 e3;refine ⟨u',r',?_⟩;rcases q with ⟨k,e⟩|⟨k,c,e,z⟩
        · refine .inl ⟨k,?_⟩;have : y≠x:=fun e=>hj (mx hN e1 (e ▸ hi));simp [this,e]
        · exact .inr ⟨k,c,e,z.sameBut hs (cne y c e)⟩
    · obtain ⟨w',z⟩:=I.cell y c e;exact ⟨w',z.sameBut hs (cne y c e)⟩
    · obtain ⟨e,n,ne,nf,d⟩:=I.pin p hp;exact ⟨(hs.2 p.1 ne).trans e,n,ne,nf,d⟩
  · have hfn:X.fn x=true:=by
      rcases hf with z|z
      · exact z
      · rw [z] at hk;cases hk
    obtain ⟨c,hc⟩:=I.ok.has x (.inl hk);obtain ⟨w',z⟩:=I.cell x c hc;refine wpAny_storeName_cell I.ok.kind hk hc z (fun h' hc' hs=>?_);obtain ⟨oc,hoc,hocd⟩:=id z;refine h { s with heap:=h' } ⟨I.ok,I.os,I.bare,⟨fun b o e n hb hx=>?_,fun b o e n hb hx=>?_,I.base.free,fun b o e hx=>?_,I.base.tups,I.base.frzs,I.base.tbls⟩,⟨m,hn.sameBut hs (abS (cne x c hc)),fun j y v' e1 e2 e3=>?_⟩,fun y c' e=>?_,I.free,I.freeC,fun p hp=>?_,tracked ⟨oc,hoc,I.freeC x c hc⟩ hs,by simpa using I.len⟩ ⟨c,hs,.inr hc⟩
    · exact (hs.2 b (aaF (aam (aaq e) (I.ok.cab x c hfn hc)))).trans (I.base.keep b o e n hb hx)
    · obtain ⟨sl,e1⟩:=I.base.slot b o e n hb hx;exact ⟨sl,(hs.2 b (aaF (aam (aaq e) (I.ok.cab x c hfn hc)))).trans e1⟩
    · obtain ⟨o',e1⟩:=I.base.there b o e hx;exact ⟨o',(hs.2 b (aaF (aam (aaq e) (I.ok.cab x c hfn hc)))).trans e1⟩
    · by_cases hj:j=i
      · subst hj;rw [hi] at e1;cases e1;rw [List.getElem?_set_self hiσ] at e2;cases e2;exact ⟨u,r,.inr ⟨.inl hk,c,hc,hc'⟩⟩
      · rw [List.getElem?_set_ne (abS hj)] at e2;obtain ⟨u',r',q⟩:=hl j y v' e1 e2 e3;refine ⟨u',r',?_⟩;rcases q with q|⟨k,c',e,z'⟩
        · exact .inl q
        · refine .inr ⟨k,c',e,z'.sameBut hs ?_⟩;rintro rfl;exact hj (mx hN e1 (I.ok.inj _ _ _ e hc ▸ hi))
    · by_cases hcc:c'=c
      · subst hcc;exact ⟨_,hc'⟩
      · obtain ⟨w2,z2⟩:=I.cell y c' e;exact ⟨w2,z2.sameBut hs hcc⟩
    · obtain ⟨e,n,ne,nf,d⟩:=I.pin p hp;refine ⟨(hs.2 p.1 ?_).trans e,n,ne,nf,d⟩;intro q;rw [q,hoc] at e;have q':oc=p.2:=aal e;exact d w' (by rw [← q'];exact hocd)
theorem eW {M:Model} {A:Around} {E:Value→Shared→Prop} {i:Nat} {x:Str} {v:V} {u:Value} {Q:Unit→Shared→Prop} (I:Inv X pins σ H s) (hN:X.N.Nodup) (hi:X.N[i]?=some x) (hx:Loc X.env.scope x) (r:RelV v u)
    (h:∀ s',Inv X pins (σ.set i (some v)) H s'→Q () s') (hf:X.fn x=true∨X.env.scope.names.lookup x=some .local:=by first|exact .inl rfl|exact .inr rfl|assumption):wpAny M A (storeName X.env x u) Q E s :=
  pX I hN hi hx r (fun s' I' _=>h s' I') hf
theorem Inv.call' {s':Shared} {ch:List Addr} (I:Inv X pins σ H s) (ho:s'.os=s.os) (u:Un (frs X.stack) ch H H' s.heap s'.heap) (hok:HOk X.prog X.w H' s'.heap) (hg:AllBare s'.gens)
    (hch:∀ b∈ch,(b∈X.ex∨X.s₀.heap.objs.size≤b)∧b≠X.env.locals∧(∀ x c,X.env.cells.lookup x=some c→c≠b)∧∀ p∈X.pn++pins,p.1≠b):Inv X pins σ H' s':=by
  obtain ⟨h',g',d',t',o'⟩:=s';have e:o'=s.os:=ho;subst e;exact I.call (g':=g') (t':=t') (d':=d') u hok hg hch
end
abbrev XK:=Value→Option Addr→Hp→Prop
abbrev St:=List (Option V)
abbrev VK:=V→Hp→Prop
abbrev TE:=St→Hp→VK→Prop
abbrev TT:=St→Hp→(Bool→Hp→Prop)→Prop
abbrev TA:=St→Hp→(List V→Hp→Prop)→Prop
structure Ends where
  nx:St→Hp→Prop
  rt:VK
  bk:St→Hp→Prop:=fun _ _=>False
  ct:St→Hp→Prop:=fun _ _=>False
abbrev TS:=Ends→St→Hp→Prop
def EP (X:Cx) (pins:List (Addr × Obj)) (σ:St) (Q:VK) (u:Value) (s':Shared):Prop:=∃ v H',Inv X pins σ H' s'∧RelV v u∧Q v H'
def TP (X:Cx) (pins:List (Addr × Obj)) (σ:St) (Q:Bool→Hp→Prop) (b:Bool) (s':Shared):Prop:=∃ H',Inv X pins σ H' s'∧Q b H'
def AP (X:Cx) (pins:List (Addr × Obj)) (σ:St) (Q:List V→Hp→Prop) (us:List Value) (s':Shared):Prop:=∃ vs H',Inv X pins σ H' s'∧Vals vs us∧Q vs H'
def SP (X:Cx) (pins:List (Addr × Obj)) (D:Ends) (f:Flow) (s':Shared):Prop :=
  match f with
  | .next=>∃ σ' H',Inv X pins σ' H' s'∧D.nx σ' H'
  | .brk=>∃ σ' H',Inv X pins σ' H' s'∧D.bk σ' H'
  | .cont=>∃ σ' H',Inv X pins σ' H' s'∧D.ct σ' H'
  | .ret u=>∃ v σ' H',Inv X pins σ' H' s'∧RelV v u∧D.rt v H'
def PE (X:Cx) (e:Expr) (t:TE):Prop :=
  ∀ (pins:List (Addr × Obj)) (s:Shared) (σ:St) (H:Hp) (Q:VK),Inv X pins σ H s→t σ H Q→wpAny (model X.prog X.w) X.A (eval e X.env) (EP X pins σ Q) X.xe s
def PT (X:Cx) (e:Expr) (t:TT):Prop :=
  ∀ (pins:List (Addr × Obj)) (s:Shared) (σ:St) (H:Hp) (Q:Bool→Hp→Prop),Inv X pins σ H s→t σ H Q→wpAny (model X.prog X.w) X.A (isTrue e X.env (eval e X.env)) (TP X pins σ Q) X.xe s
def PW (X:Cx) (e:Expr) (t:TT):Prop :=
  ∀ (whole:Sem Value) (pins:List (Addr × Obj)) (s:Shared) (σ:St) (H:Hp) (Q:Bool→Hp→Prop),Inv X pins σ H s→t σ H Q→wpAny (model X.prog X.w) X.A (isTrue e X.env whole) (TP X pins σ Q) X.xe s
theorem PW.pt {X:Cx} {e:Expr} {t:TT} (h:PW X e t):PT X e t:=h _
def PA (X:Cx) (es:List Expr) (t:TA):Prop :=
  ∀ (pos:Pos) (pins:List (Addr × Obj)) (s:Shared) (σ:St) (H:Hp) (Q:List V→Hp→Prop),Inv X pins σ H s→t σ H Q→wpAny (model X.prog X.w) X.A (spliced (backTo pos (starEach es X.env))) (AP X pins σ Q) X.xe s
def PS (X:Cx) (st:Stmt) (t:TS):Prop :=
  ∀ (pins:List (Addr × Obj)) (s:Shared) (σ:St) (H:Hp) (D:Ends),Inv X pins σ H s→t D σ H→wpAny (model X.prog X.w) X.A (exec st X.env) (SP X pins D) X.xe s
def PSs (X:Cx) (st:List Stmt) (t:TS):Prop :=
  ∀ (pins:List (Addr × Obj)) (s:Shared) (σ:St) (H:Hp) (D:Ends),Inv X pins σ H s→t D σ H→wpAny (model X.prog X.w) X.A (execs st X.env) (SP X pins D) X.xe s
theorem thn {α:Type} {t:Sem α} {Q Q':α→Shared→Prop} {M:Model} {A:Around} {E:Value→Shared→Prop} {s:Shared} (h:wpAny M A t Q E s) (hQ:∀ a s,Q a s→Q' a s):wpAny M A t Q' E s:=wpAny_mono h hQ fun _ _ x=>x
open PySem PySem.Spec PyProof.Rows
section
variable {X:Cx}
def v4 (i:Nat):TE:=fun σ H Q=>∃ v,σ[i]?=some (some v)∧Q v H
def tC (v:V):TE:=fun _ H Q=>Q v H
theorem uZ {i:Nat} {x:Str} {pos:Pos} (hN:X.N[i]?=some x) (hv:Vis X.env.scope x) (hd:(x == ("__debug__":Str))=false:=by decide) (hcd:(x == ("__classdict__":Str))=false:=by decide):PE X (.Name x pos) (v4 i):=by
  intro pins s σ H Q I h;obtain ⟨v,e,h⟩:=h;obtain ⟨m,hn,hl⟩:=I.loc;obtain ⟨u,r,l⟩:=hl i x v hN e hv;have fin:EP X pins σ Q u s:=⟨v,H,I,r,h⟩
  rcases l with ⟨hk,hm⟩|⟨hk,c,hc,hcell⟩
  · exact wpAny_Name (wpAny_loadName_local I.ok.kind hk hn hm fin) hd
  · rcases hk with hk|hk
    · exact wpAny_Name (wpAny_loadName_cell I.ok.kind hk hc hcell fin) hd
    · exact wpAny_Name (wpAny_loadName_free I.ok.kind hk hc hcell fin hcd) hd
theorem ae {i j pos}:PE X (.Constant (.int i) j pos) (tC (.int i)):=fun _ _ _ H _ I h=>wpAny_Constant_int ⟨.int i,H,I.tok _,⟨_,rfl⟩,h⟩
theorem cJ {b j pos}:PE X (.Constant (.bool b) j pos) (tC (.bl b)):=fun _ _ _ H _ I h=>Constant_bool ⟨.bl b,H,I,rfl,h⟩
theorem bO {j pos}:PE X (.Constant .none j pos) (tC .non):=fun _ _ _ H _ I h=>Constant_none ⟨.non,H,I,rfl,h⟩
theorem bc {x j pos}:PE X (.Constant (.str x) j pos) (tC (.str x)):=fun _ _ _ H _ I h=>Calls.Constant_str ⟨.str x,H,I.tok _,⟨_,rfl⟩,h⟩
def Gl (X:Cx) (x:Str):Prop:=X.env.kindOf x=some .globalImplicit
theorem oY {E:Value→Shared→Prop} {pins:List (Addr × Obj)} {s:Shared} {σ:St} {H:Hp} {x:Str} {u:Value} {pos:Pos} {Q:Value→Shared→Prop} (I:Inv X pins σ H s) (hg:Gl X x) (hm:X.mg x=some u) (h:Q u s)
    (hd:(x == ("__debug__":Str))=false:=by decide):wpAny (model X.prog X.w) X.A (eval (.Name x pos) X.env) Q E s :=
  Calls.Name_function_global I.ok.kind hg (Calls.loadGlobal_global (by rw [I.ok.glob];exact I.mod.glob.keeps I.bk) hm h) hd
theorem fq {E:Value→Shared→Prop} {pins:List (Addr × Obj)} {s:Shared} {σ:St} {H:Hp} {x:Str} {u:Value} {pos:Pos} {Q:Value→Shared→Prop} (I:Inv X pins σ H s) (hg:Gl X x) (hm:X.mg x=none) (hv:bootBuiltins x=some u) (h:Q u s)
    (hn:x ≠ "__name__":=by decide) (hd:(x == ("__debug__":Str))=false:=by decide):wpAny (model X.prog X.w) X.A (eval (.Name x pos) X.env) Q E s:=by
  obtain ⟨mb,h1,h2⟩:=I.mod.blt;exact Calls.Name_function_global I.ok.kind hg (Calls.loadGlobal_builtin (by rw [I.ok.glob];exact I.mod.glob.keeps I.bk) hm (by rw [I.ok.blt];exact h1.keeps I.bk) ((h2 x hn).trans hv) h) hd
theorem gp {x:Str} {v:V} {u:Value} {pos:Pos} (hg:Gl X x) (hm:X.mg x=some u) (r:RelV v u) (hd:(x == ("__debug__":Str))=false:=by decide):PE X (.Name x pos) (tC v) :=
  fun _ _ _ H _ I h=>oY I hg hm ⟨v,H,I,r,h⟩ hd
theorem bu {x:Str} {v:V} {u:Value} {pos:Pos} (hg:Gl X x) (hm:X.mg x=none) (hv:bootBuiltins x=some u) (r:RelV v u) (hn:x ≠ "__name__":=by decide) (hd:(x == ("__debug__":Str))=false:=by decide):PE X (.Name x pos) (tC v) :=
  fun _ _ _ H _ I h=>fq I hg hm hv ⟨v,H,I,r,h⟩ hn hd
variable {a b:Expr} {ta tb:TE} {pos:Pos}
def PC (X:Cx) (op:CmpOp) (a b:Expr) (t:TE):Prop :=
  ∀ (pins:List (Addr × Obj)) (s:Shared) (σ:St) (H:Hp) (Q:VK),Inv X pins σ H s→t σ H Q →
    wpAny (model X.prog X.w) X.A (eval a X.env) (fun v s₁=>wpAny (model X.prog X.w) X.A (eval b X.env) (fun u s₂=>wpAny (model X.prog X.w) X.A (compareOp op v u) (EP X pins σ Q) X.xe s₂) X.xe s₁) X.xe s
def tB (t:TE):TT:=fun σ H Q=>t σ H fun x H1=>∃ c,x=.bl c∧Q c H1
theorem vc {op:CmpOp} {t:TE} (h:PC X op a b t) (h1:behindInMarks op b=false:=by first|exact nobehind _ (by decide) (by decide)|rfl):PE X (.Compare a [op] [b] pos) t:=fun pins s σ H Q I hw=>wpAny_Compare1 (h pins s σ H Q I hw) h1
theorem uU {op:CmpOp} {t:TE} (h:PC X op a b t) (h1:behindInMarks op b=false:=by first|exact nobehind _ (by decide) (by decide)|rfl):PT X (.Compare a [op] [b] pos) (tB t):=by
  intro pins s σ H Q I hw;refine wpAny_isTrue_Compare1 (thn (h pins s σ H _ I hw) fun v s1 h1=>thn h1 fun u s2 h2=>thn h2 fun c s3 ⟨x,H1,I1,r1,q1⟩=>?_) h1;obtain ⟨d,rfl,q⟩:=q1;cases r1;exact wpAny_truthy_bool ⟨H1,I1,q⟩
theorem bh {e:Expr} {t:TE} (h:PE X e t) (he:∀ whole,isTrue e X.env whole=(do let v ← whole;standAt e.pos;holding [v] (truthy v)):=by intro _;rfl):PT X e (tB t):=by
  intro pins s σ H Q I hw;refine isTrue_plain (thn (h pins s σ H _ I hw) fun v s1 ⟨x,H1,I1,r1,q1⟩=>?_) (he _);obtain ⟨d,rfl,q⟩:=q1;cases r1;exact wpAny_truthy_bool ⟨H1,I1,q⟩
variable {tA tB':TT} {rest:List Expr}
def xN (t u:TT):TT:=fun σ H Q=>t σ H fun c H1=>if c=true then u σ H1 Q else Q false H1
def tOr (t u:TT):TT:=fun σ H Q=>t σ H fun c H1=>if c=true then Q true H1 else u σ H1 Q
def xC (t:TT):TT:=fun σ H Q=>t σ H fun c H1=>Q (!c) H1
theorem gl (ha:PT X a tA):PW X (.BoolOp .And [a] pos) tA:=by
  intro wh pins s σ H Q I h;refine isTrue_and (thn (ha pins s σ H Q I h) fun c s1 e=>?_);cases c with
  | true=>exact isTrue_and_nil e
  | false=>exact e
theorem fi (ha:PT X a tA):PW X (.BoolOp .Or [a] pos) tA:=by
  intro wh pins s σ H Q I h;refine isTrue_or (thn (ha pins s σ H Q I h) fun c s1 e=>?_);cases c with
  | false=>exact isTrue_or_nil e
  | true=>exact e
theorem fW (ha:PT X a tA) (hb:PW X (.BoolOp .And (b :: rest) pos) tB'):PW X (.BoolOp .And (a :: b :: rest) pos) (xN tA tB'):=by
  intro wh pins s σ H Q I h;refine isTrue_and (thn (ha pins s σ H _ I h) fun c s1 ⟨H1,I1,q1⟩=>?_);cases c with
  | true=>exact hb wh pins s1 σ H1 Q I1 q1
  | false=>exact ⟨H1,I1,q1⟩
theorem gj (ha:PT X a tA) (hb:PW X (.BoolOp .Or (b :: rest) pos) tB'):PW X (.BoolOp .Or (a :: b :: rest) pos) (tOr tA tB'):=by
  intro wh pins s σ H Q I h;refine isTrue_or (thn (ha pins s σ H _ I h) fun c s1 ⟨H1,I1,q1⟩=>?_);cases c with
  | true=>exact ⟨H1,I1,q1⟩
  | false=>exact hb wh pins s1 σ H1 Q I1 q1
theorem bT (ha:PT X a tA):PT X (.UnaryOp .Not a pos) (xC tA):=by
  intro pins s σ H Q I h;exact isTrue_not (ha pins s σ H (fun c H1=>Q (!c) H1) I h)
def wm (ta tb:TE):TE:=fun σ H Q=>ta σ H fun x H1=>∃ c,x=.bl c∧if c=true then tb σ H1 Q else Q (.bl false) H1
def v7 (ta:TE):TE:=fun σ H Q=>ta σ H fun x H1=>∃ c,x=.bl c∧Q (.bl (!c)) H1
theorem eK {op} {t:TE} (h:PE X a t):PE X (.BoolOp op [a] pos) t:=fun pins s σ H Q I hw=>BoolOp_one (h pins s σ H Q I hw)
theorem b5 (ha:PE X a ta) (hb:PE X (.BoolOp .And (b :: rest) pos) tb):PE X (.BoolOp .And (a :: b :: rest) pos) (wm ta tb):=by
  intro pins s σ H Q I h;refine BoolOp_and (thn (ha pins s σ H _ I h) fun v s1 ⟨x,H1,I1,r1,q1⟩=>?_);obtain ⟨c,rfl,q1⟩:=q1;cases r1;refine wpAny_truthy_bool ?_;cases c with
  | true=>exact hb pins s1 σ H1 Q I1 q1
  | false=>exact ⟨.bl false,H1,I1,rfl,q1⟩
theorem u9 (ha:PE X a ta):PE X (.UnaryOp .Not a pos) (v7 ta):=by
  intro pins s σ H Q I h;refine UnaryOp_ (thn (ha pins s σ H _ I h) fun v s1 ⟨x,H1,I1,r1,q1⟩=>?_);obtain ⟨c,rfl,q1⟩:=q1;cases r1;exact not_of (wpAny_truthy_bool ⟨.bl (!c),H1,I1,rfl,q1⟩)
def tIf (t:TT) (ta tb:TE):TE:=fun σ H Q=>t σ H fun c H1=>if c=true then ta σ H1 Q else tb σ H1 Q
theorem rq {c:Expr} (hc:PT X c tA) (ha:PE X a ta) (hb:PE X b tb):PE X (.IfExp c a b pos) (tIf tA ta tb):=by
  intro pins s σ H Q I h;refine wpAny_IfExp (thn (hc pins s σ H _ I h) fun d s1 ⟨H1,I1,q1⟩=>?_);cases d with
  | true=>exact ha pins s1 σ H1 Q I1 q1
  | false=>exact hb pins s1 σ H1 Q I1 q1
end
open PySem PySem.Spec PyProof.Rows
def SqL (K:aaa) (H:Hp) (a:Addr) (xs:List V):Prop :=
  Rd H a (.lst xs) ∨
    ∃ (o:Obj) (its:Array Value) (n:Nat),K.lookup a=some o∧o.cls=.type "list"∧o.dict=none∧o.data=.seq its n∧its.size≤sizeLine∧Vals xs its.toList
def SqT (K:aaa) (H:Hp) (a:Addr) (xs:List V):Prop :=
  Rd H a (.tup xs) ∨
    ∃ (o:Obj) (its:Array Value) (n:Nat),K.lookup a=some o∧o.cls=.type "tuple"∧o.data=.seq its n∧its.size≤sizeLine∧Vals xs its.toList
def yi:Value→Option V
  | .none=>some .non
  | .bool b=>some (.bl b)
  | .int i _=>some (.int i)
  | .str x _=>some (.str x)
  | .bytes b _=>some (.byt b)
  | .float b _=>some (.flt b)
  | .ref a=>some (.ref a)
  | .type n=>some (.ty n)
  | _=>none
theorem RelV.abs {x:V} {u:Value} (r:RelV x u):yi u=some x:=by
  cases x with
  | non=>cases r;rfl
  | bl _=>cases r;rfl
  | int _=>obtain ⟨t,rfl⟩:=r;rfl
  | str _=>obtain ⟨t,rfl⟩:=r;rfl
  | byt _=>obtain ⟨t,rfl⟩:=r;rfl
  | flt _=>obtain ⟨t,rfl⟩:=r;rfl
  | ref _=>cases r;rfl
  | ty _=>cases r;rfl
theorem RelV.inj {x y:V} {u:Value} (r:RelV x u) (q:RelV y u):x=y:=aal (r.abs.symm.trans q.abs)
theorem Vals.inj {xs ys:List V} {us:List Value} (h:Vals xs us) (h':Vals ys us):xs=ys:=by
  induction h generalizing ys with
  | nil=>cases h';rfl
  | cons r t ih =>
    cases h' with
    | cons r' t'=>rw [r.inj r',ih t']
section
variable {X:Cx} {pins:List (Addr × Obj)} {σ:St} {H:Hp} {s:Shared} {a:Addr} {xs ys:List V}
theorem SqL.of {K:aaa} (h:H a=some (.lst xs)):SqL K H a xs:=.inl (.inl h)
theorem SqT.of {K:aaa} (h:H a=some (.tup xs)):SqT K H a xs:=.inl (.inl h)
theorem Inv.list (I:Inv X pins σ H s) (h:SqL X.K H a xs):∃ its:List Value,Vals xs its∧PlainL s.heap a its.toArray∧xs.length≤sizeLine:=by
  rcases h with h|⟨o,its,n,hk,hc,hd,hs,hz,r⟩
  · obtain ⟨z,its,n,r,e⟩:=h.ok I.hok;exact ⟨its,r,⟨_,n,e,rfl,rfl,rfl⟩,z⟩
  · refine ⟨its.toList,r,⟨o,n,I.kIn a o hk,hc,hd,by simpa using hs⟩,?_⟩;have e:=r.length;simp only [aa8] at e;lia
theorem Inv.tuple (I:Inv X pins σ H s) (h:SqT X.K H a xs):∃ its:List Value,Vals xs its∧IsTup s.heap a its.toArray∧xs.length≤sizeLine:=by
  rcases h with h|⟨o,its,n,hk,hc,hs,hz,r⟩
  · obtain ⟨z,its,r,p⟩:=h.ok I.hok;exact ⟨its,r,p,z⟩
  · refine ⟨its.toList,r,⟨o,I.kIn a o hk,hc,n,by simpa using hs⟩,?_⟩;have e:=r.length;simp only [aa8] at e;lia
theorem Inv.list_inj (I:Inv X pins σ H s) (h:SqL X.K H a xs) (h':SqL X.K H a ys):xs=ys:=by
  obtain ⟨its,r,⟨o,n,e,_,_,d⟩,_⟩:=I.list h;obtain ⟨its',r',⟨o',n',e',_,_,d'⟩,_⟩:=I.list h';rw [e] at e';cases e';rw [d] at d';injection d' with d1 _
  have : its=its':=by simpa using congrArg Array.toList d1
  subst this;exact r.inj r'
theorem Inv.tuple_inj (I:Inv X pins σ H s) (h:SqT X.K H a xs) (h':SqT X.K H a ys):xs=ys:=by
  obtain ⟨its,r,⟨o,e,_,n,d⟩,_⟩:=I.tuple h;obtain ⟨its',r',⟨o',e',_,n',d'⟩,_⟩:=I.tuple h';rw [e] at e';cases e';rw [d] at d';injection d' with d1 _
  have : its=its':=by simpa using congrArg Array.toList d1
  subst this;exact r.inj r'
end
abbrev Cx.wish (X:Cx) (E:Value→Shared→Prop):Cx:={ X with xe:=E }
abbrev Cx.nox (X:Cx):Cx:=X.wish fun _ _=>False
theorem Cx.Ok.wish {X:Cx} (ok:X.Ok) (E:Value→Shared→Prop):(X.wish E).Ok :=
  ⟨ok.mod,ok.kind,ok.glob,ok.blt,ok.above,ok.inj,ok.has,ok.cab,ok.hd,ok.frames,ok.stk,ok.exf,ok.bs,ok.bsz,ok.noex,ok.exfs,ok.funs,ok.frf⟩
theorem Cx.Ok.unwish {X:Cx} {E:Value→Shared→Prop} (ok:(X.wish E).Ok):X.Ok :=
  ⟨ok.mod,ok.kind,ok.glob,ok.blt,ok.above,ok.inj,ok.has,ok.cab,ok.hd,ok.frames,ok.stk,ok.exf,ok.bs,ok.bsz,ok.noex,ok.exfs,ok.funs,ok.frf⟩
section
variable {X:Cx} {pins:List (Addr × Obj)} {σ:St} {H:Hp} {s:Shared} {E:Value→Shared→Prop}
theorem Inv.wish (I:Inv X pins σ H s) (E:Value→Shared→Prop):Inv (X.wish E) pins σ H s:=⟨I.ok.wish E,I.os,I.bare,I.base,I.loc,I.cell,I.free,I.freeC,I.pin,I.hok,I.len⟩
theorem Inv.unwish (I:Inv (X.wish E) pins σ H s):Inv X pins σ H s:=⟨I.ok.unwish,I.os,I.bare,I.base,I.loc,I.cell,I.free,I.freeC,I.pin,I.hok,I.len⟩
theorem SP.unwish {D:Ends} {f:Flow} {s':Shared} (h:SP (X.wish E) pins D f s'):SP X pins D f s':=by
  cases f with
  | next=>obtain ⟨σ',H',I,q⟩:=h;exact ⟨σ',H',I.unwish,q⟩
  | brk=>obtain ⟨σ',H',I,q⟩:=h;exact ⟨σ',H',I.unwish,q⟩
  | cont=>obtain ⟨σ',H',I,q⟩:=h;exact ⟨σ',H',I.unwish,q⟩
  | ret u=>obtain ⟨v,σ',H',I,r,q⟩:=h;exact ⟨v,σ',H',I.unwish,r,q⟩
theorem PSs.nox {st:List Stmt} {t:TS} (h:PSs X.nox st t):PSs X st t:=fun pins s σ H D I hw =>
  wpAny_mono (h pins s σ H D (I.wish _) hw) (fun _ _ q=>q.unwish) fun _ _ z=>acd z
end
section
variable {X:Cx} {st:Stmt} {rest:List Stmt} {t u:TS} {e:Expr} {te:TE} {pos:Pos}
def v8:TS:=fun D σ H=>D.nx σ H
def xz (t u:TS):TS:=fun D σ H=>t { D with nx:=u D } σ H
theorem aG:PSs X [] v8:=fun _ _ σ H _ I h=>wpAny_execs_nil ⟨σ,H,I,h⟩
theorem af (h1:PS X st t) (h2:PSs X rest u):PSs X (st :: rest) (xz t u):=by
  intro pins s σ H D I h;refine wpAny_execs_cons (thn (h1 pins s σ H { D with nx:=u D } I h) fun f s1 q=>?_);cases f with
  | next =>
    obtain ⟨σ',H',I',q⟩:=q;exact h2 pins s1 σ' H' D I' q
  | ret v=>exact q
  | brk=>exact q
  | cont=>exact q
theorem ag (h1:PS X st t):PSs X [st] t:=by
  intro pins s σ H D I h;refine wpAny_execs_cons (thn (h1 pins s σ H D I h) fun f s1 q=>?_);cases f with
  | next=>exact wpAny_execs_nil q
  | ret v=>exact q
  | brk=>exact q
  | cont=>exact q
theorem Inv.quiet {pins:List (Addr × Obj)} {σ:St} {H:Hp} {s:Shared} (I:Inv X pins σ H s):interactive X.env=false:=by simp [interactive,I.ok.kind]
def wd (te:TE):TS:=fun D σ H=>te σ H fun _ H1=>D.nx σ H1
theorem bS (he:PE X e te) (hs:swapsWith e none pos.line X.env=pure false:=by rfl):PS X (.Expr e pos) (wd te):=by
  intro pins s σ H D I h;exact wpAny_Expr_any (thn (he pins s σ H _ I h) fun v s1 ⟨x,H1,I1,r1,q1⟩=>⟨σ,H1,I1,q1⟩) I.quiet hs
def xA (te:TE):TS:=fun D σ H=>te σ H D.rt
theorem ar (he:PE X e te):PS X (.Return (some e) pos) (xA te):=by
  intro pins s σ H D I h;exact wpAny_Return_some (thn (he pins s σ H _ I h) fun v s1 ⟨x,H1,I1,r1,q1⟩=>⟨x,σ,H1,I1,r1,q1⟩)
def xI (c:TT) (t u:TS):TS:=fun D σ H=>c σ H fun b H1=>if b=true then t D σ H1 else u D σ H1
theorem aY {c:Expr} {a b:List Stmt} {tc:TT} (hc:PT X c tc) (ha:PSs X a t) (hb:PSs X b u):PS X (.If c a b pos) (xI tc t u):=by
  intro pins s σ H D I h;refine wpAny_If (thn (hc pins s σ H _ I h) fun d s1 ⟨H1,I1,q1⟩=>?_);cases d with
  | true=>exact ha pins s1 σ H1 D I1 q1
  | false=>exact hb pins s1 σ H1 D I1 q1
def uI:TS:=fun _ _ _=>False
theorem lY:PS X st uI:=fun _ _ _ _ _ _ h=>h.elim
end
abbrev TG:=V→St→Hp→(St→Hp→Prop)→Prop
abbrev TGs:=List V→St→Hp→(St→Hp→Prop)→Prop
def PG (X:Cx) (target:Expr) (t:TG):Prop :=
  ∀ (pins:List (Addr × Obj)) (s:Shared) (σ:St) (H:Hp) (v:V) (u:Value) (Q:St→Hp→Prop),Inv X pins σ H s→RelV v u→t v σ H Q →
    wpAny (model X.prog X.w) X.A (assign target X.env u) (fun _ s'=>∃ σ' H',Inv X pins σ' H' s'∧Q σ' H') X.xe s
def PGs (X:Cx) (ts:List Expr) (t:TGs):Prop :=
  ∀ (pins:List (Addr × Obj)) (s:Shared) (σ:St) (H:Hp) (vs:List V) (us:List Value) (Q:St→Hp→Prop),Inv X pins σ H s→Vals vs us→t vs σ H Q →
    wpAny (model X.prog X.w) X.A (assignInOrder ((assignEach ts X.env).map (·.2)) us) (fun _ s'=>∃ σ' H',Inv X pins σ' H' s'∧Q σ' H') X.xe s
abbrev um:=V→V→V→Hp→(Hp→Prop)→Prop
def vP (X:Cx) (t:um):Prop :=
  ∀ (pins:List (Addr × Obj)) (s:Shared) (σ:St) (H:Hp) (o i v:V) (ov iv u:Value) (Q:Hp→Prop),Inv X pins σ H s→RelV o ov→RelV i iv→RelV v u→t o i v H Q →
    wpAny (model X.prog X.w) X.A (setItem ov iv u) (fun _ s'=>∃ H',Inv X pins σ H' s'∧Q H') X.xe s
abbrev TIp:=V→V→Hp→VK→Prop
def PIp (X:Cx) (op:Operator) (t:TIp):Prop :=
  ∀ (pins:List (Addr × Obj)) (s:Shared) (σ:St) (H:Hp) (x y:V) (v u:Value) (Q:VK),Inv X pins σ H s→RelV x v→RelV y u→t x y H Q →
    wpAny (model X.prog X.w) X.A (inplaceOp op v u) (EP X pins σ Q) X.xe s
section
variable {X:Cx} {pos:Pos}
def pA (i:Nat):TG:=fun v σ H Q=>Q (σ.set i (some v)) H
theorem aj {i:Nat} {x:Str} (hN:X.N.Nodup) (hi:X.N[i]?=some x) (hx:Loc X.env.scope x) (hf:X.fn x=true∨X.env.scope.names.lookup x=some .local:=by first|exact .inl rfl|exact .inr rfl|assumption):PG X (.Name x pos) (pA i):=by
  intro pins s σ H v u Q I r h;exact wpAny_assign_Name (eW I hN hi hx r (fun s' I'=>⟨_,H,I',h⟩) hf)
def ya:TGs:=fun vs σ H Q=>vs=[]∧Q σ H
def xi (t:TG) (u:TGs):TGs:=fun vs σ H Q=>∃ v r,vs=v :: r∧t v σ H fun σ' H'=>u r σ' H' Q
theorem bX:PGs X [] ya:=by
  intro pins s σ H vs us Q I r h;obtain ⟨e,h⟩:=h;subst e;cases r;exact assignInOrder_nil ⟨σ,H,I,h⟩
theorem aD {e:Expr} {es:List Expr} {t:TG} {u:TGs} (h1:PG X e t) (h2:PGs X es u)
    (hs:(assignEach (e :: es) X.env).map (·.2)=assign e X.env :: (assignEach es X.env).map (·.2):=by rfl):PGs X (e :: es) (xi t u):=by
  intro pins s σ H vs us Q I r h;obtain ⟨v,vr,e1,h⟩:=h;subst e1;cases r with
  | cons r rr =>
    rw [hs];refine assignInOrder_cons (thn (h1 pins s σ H _ _ _ I r h) fun _ s1 ⟨σ1,H1,I1,q1⟩=>?_);exact h2 pins s1 σ1 H1 _ _ Q I1 rr q1
def xh (K:aaa) (n:Nat) (t:TGs):TG:=fun v σ H Q=>∃ a xs,v=.ref a∧SqT K H a xs∧xs.length=n∧t xs σ H Q
theorem dF {es:List Expr} {k:Nat} {t:TGs} {n:Nat} (hc:X.calm=true) (h:PGs X es t)
    (hn:(assignEach es X.env).length=n:=by rfl) (hst:(assignEach es X.env).findIdx? (·.1)=none:=by rfl):PG X (.Tuple es k pos) (xh X.K n t):=by
  intro pins s σ H v u Q I r hw;obtain ⟨a,xs,e1,hq,hl,hw⟩:=hw;subst e1;cases r;obtain ⟨its,rv,ht,hz⟩:=I.tuple hq;refine assign_Tuple_tuple (I.ok.hd hc) ht (by simp [hn,← hl,rv.length]) hst fun h' hx=>?_;have I1:Inv X pins σ H { s with heap:=h' }:=I.kept (t':=s.toks) fun b o e=>hx b o (aaF (aaq e)) e;exact h pins _ σ H xs _ Q I1 (by simpa using rv) hw
def x_ (to ti:TE) (t:um):TG:=fun v σ H Q=>to σ H fun o H1=>ti σ H1 fun i H2=>t o i v H2 fun H3=>Q σ H3
theorem kF {o i:Expr} {to ti:TE} {t:um} (ho:PE X o to) (hi:PE X i ti) (hs:vP X t)
    (ha:∀ v,assign (.Subscript o i pos) X.env v=(do
      let ov ← holding [v] (eval o X.env)
      let iv ← holding [v,ov] (eval i X.env)
      standAt pos
      holding [v,ov,iv] (setItem ov iv v)
      release [v,ov,iv] []):=by intro _;rfl):PG X (.Subscript o i pos) (x_ to ti t):=by
  intro pins s σ H v u Q I r h;rw [ha];refine wpAny_bind (wpAny_holding (thn (ho pins s σ H _ I h) fun ov s1 ⟨x,H1,I1,r1,q1⟩=>?_));refine wpAny_bind (wpAny_holding (thn (hi pins s1 σ H1 _ I1 q1) fun iv s2 ⟨y,H2,I2,r2,q2⟩=>?_));refine wpAny_bind (wpAny_standAt (wpAny_bind (wpAny_holding (thn (hs pins s2 σ H2 x y v ov iv u _ I2 r1 r2 r q2) fun _ s3 ⟨H3,I3,q3⟩=>?_))));exact wpAny_release ⟨σ,H3,I3,q3⟩
def wj (te:TE) (g:TG):TS:=fun D σ H=>te σ H fun x H1=>g x σ H1 D.nx
theorem dE {tg e:Expr} {te:TE} {g:TG} (he:PE X e te) (hg:PG X tg g) (hs:swapsWithSole [tg] e pos.line X.env=pure false:=by rfl) (hw:swappedStores [tg] e X.env=pure none:=by rfl)
    (h1:(assignEach [tg] X.env).map (·.2)=[assign tg X.env]:=by rfl):PS X (.Assign [tg] e pos) (wj te g):=by
  intro pins s σ H D I h;refine wpAny_Assign_stores (thn (he pins s σ H _ I h) fun v s1 ⟨x,H1,I1,r1,q1⟩=>?_) hs hw;rw [h1];exact thn (hg pins s1 σ H1 x v _ I1 r1 q1) fun _ s2 q=>q
theorem av {i:Nat} {x:Str} {e:Expr} {te:TE} {pos':Pos} (hN:X.N.Nodup) (hi:X.N[i]?=some x) (hx:Loc X.env.scope x) (he:PE X e te) (hs:swapsWith e (some (.Name x pos')) pos.line X.env=pure false:=by rfl) (hf:X.fn x=true∨X.env.scope.names.lookup x=some .local:=by first|exact .inl rfl|exact .inr rfl|assumption) :
    PS X (.Assign [.Name x pos'] e pos) (wj te (pA i)):=by
  intro pins s σ H D I h;refine wpAny_Assign_Name (thn (he pins s σ H _ I h) fun v s1 ⟨y,H1,I1,r1,q1⟩=>?_) hs;exact eW I1 hN hi hx r1 (fun s2 I2=>⟨_,H1,I2,q1⟩) hf
def xB (i j:Nat) (ta:TA):TS:=fun D σ H=>ta σ H fun vs H1=>∃ v w,vs=[v,w]∧D.nx ((σ.set i (some v)).set j (some w)) H1
theorem uV {i j:Nat} {x y:Str} {a b:Expr} {ta:TA} {px py pt:Pos} {kt k2 pt2} (hc:X.calm=true) (hN:X.N.Nodup) (hi:X.N[i]?=some x) (hj:X.N[j]?=some y) (hij:i≠j)
    (hx:X.env.scope.names.lookup x=some .local) (hy:X.env.scope.names.lookup y=some .local) (ha:PA X [a,b] ta)
    (hw:swappedStores [.Tuple [.Name x px,.Name y py] kt pt] (.Tuple [a,b] k2 pt2) X.env=pure (some [x,y]))
    (hs:swapsWithSole [.Tuple [.Name x px,.Name y py] kt pt] (.Tuple [a,b] k2 pt2) pos.line X.env=pure false:=by rfl) :
    PS X (.Assign [.Tuple [.Name x px,.Name y py] kt pt] (.Tuple [a,b] k2 pt2) pos) (xB i j ta):=by
  intro pins s σ H D I h;rw [exec_Assign_arm];refine wpAny_bind (wpAny_standAt ?_);rw [hs];refine wpAny_bind (wpAny_pure ?_);rw [if_neg (by decide)];refine wpAny_bind (Tuple_ (thn (ha _ pins s σ H _ I h) fun us s1 ⟨vs,H1,I1,r1,q1⟩=>?_));obtain ⟨v,w,e1,q1⟩:=q1;subst e1;obtain ⟨u1,u2,rfl,rv,rw'⟩:∃ u1 u2,us=[u1,u2]∧RelV v u1∧RelV w u2:=by
    cases r1 with
    | cons p q =>
      cases q with
      | cons p' q' =>
        cases q';exact ⟨_,_,rfl,p,p'⟩
  refine wpAny_newObj_type ?_ (by show 2≤sizeLine;decide);have I2:Inv X pins σ H1 { s1 with heap:=s1.heap.push { cls:=.type "tuple",data:=.seq [u1,u2].toArray } }:=I1.kept (t':=s1.toks) fun b o e=>aaf _ e;rw [hw];refine wpAny_bind (wpAny_pure ?_);show wpAny (model X.prog X.w) X.A (do rule "assign.swapped-stores";let items ← unpackItems (.ref s1.heap.objs.size) 2 none;assignInOrder [fun v=>bindName X.env y v,fun v=>bindName X.env x v] items.reverse;pure Flow.next) _ _ _;refine wpAny_bind (wpAny_rule (wpAny_bind (unpackItems_tuple (items:=#[u1,u2]) (I.ok.hd hc) (IsTup.new s1.heap _) fun h' hx'=>?_)));have I3:=I2.kept (h':=h') (t':=s1.toks) fun b o e=>hx' b o (aaF (aaq e)) e;show wpAny _ _ (assignInOrder [fun v=>bindName X.env y v,fun v=>bindName X.env x v] [u2,u1] >>= fun _=>pure Flow.next) _ _ _;refine wpAny_bind (assignInOrder_cons (wpAny_bindName (eW I3 hN hj (.inl hy) rw' (fun s2 I4=>?_) (.inr hy))));refine assignInOrder_cons (wpAny_bindName (eW I4 hN hi (.inl hx) rv (fun s3 I5=>assignInOrder_nil (wpAny_pure ?_)) (.inr hx)));rw [List.set_comm _ _ (abS hij)] at I5;exact ⟨_,H1,I5,q1⟩
def xM (i:Nat) (te:TE) (ti:TIp):TS:=fun D σ H=>∃ x,σ[i]?=some (some x)∧te σ H fun y H1=>ti x y H1 fun z H2=>D.nx (σ.set i (some z)) H2
theorem uW {i:Nat} {x:Str} {e:Expr} {te:TE} {op:Operator} {ti:TIp} {pos':Pos} (hN:X.N.Nodup) (hi:X.N[i]?=some x) (hx:Loc X.env.scope x) (he:PE X e te) (ho:PIp X op ti) (hf:X.fn x=true∨X.env.scope.names.lookup x=some .local:=by first|exact .inl rfl|exact .inr rfl|assumption) :
    PS X (.AugAssign (.Name x pos') op e pos) (xM i te ti):=by
  intro pins s σ H D I h;obtain ⟨v,e1,h⟩:=h;obtain ⟨m,hn,hl⟩:=I.loc;have vis:Vis X.env.scope x:=by rcases hx with k|k;exact .inl k;exact .inr (.inl k)
  obtain ⟨u,r,l⟩:=hl i x v hi e1 vis;refine wpAny_AugAssign_Name ?_;have go:wpAny (model X.prog X.w) X.A (eval e X.env) (fun w s₂=>wpAny (model X.prog X.w) X.A (inplaceOp op u w) (fun r s₃=>wpAny (model X.prog X.w) X.A (storeName X.env x r) (fun _=>SP X pins D .next) X.xe s₃) X.xe s₂) X.xe s:=by
    refine thn (he pins s σ H _ I h) fun w s1 ⟨y,H1,I1,r1,q1⟩=>?_;refine thn (ho pins s1 σ H1 v y u w _ I1 r r1 q1) fun z s2 ⟨zv,H2,I2,r2,q2⟩=>?_;exact eW I2 hN hi hx r2 (fun s3 I3=>⟨_,H2,I3,q2⟩) hf
  rcases l with ⟨hk,hm⟩|⟨hk,c,hc,hcell⟩
  · exact wpAny_loadName_local I.ok.kind hk hn hm go
  · rcases hk with hk|hk
    · exact wpAny_loadName_cell I.ok.kind hk hc hcell go
    · rcases hx with k|k
      · have : X.env.scope.names.lookup x=some .free:=hk;rw [k] at this;cases this
      · have : X.env.scope.names.lookup x=some .free:=hk;rw [k] at this;cases this
def ipI (f:Int→Int→Int):TIp:=fun x y H Q=>∃ i j,x=.int i∧y=.int j∧Q (.int (f i j)) H
theorem vH:PIp X .Add (ipI fun i j=>i+j):=by
  intro pins s σ H x y v u Q I r1 r2 h;obtain ⟨i,j,e1,e2,q⟩:=h;subst e1;subst e2;obtain ⟨t,rfl⟩:=r1;obtain ⟨t',rfl⟩:=r2;exact iadd_int ⟨.int _,H,I.tok _,⟨_,rfl⟩,q⟩
end
section
variable {X:Cx} {pos:Pos}
def uH (c:TT) (tb:TS):TS:=fun D σ H=>∃ W:Nat→St→Hp→Prop,(∃ m,W m σ H)∧∀ m σ H,W m σ H →
  c σ H fun b H1=>if b=true then ∃ N:St→Hp→Prop,(∀ σ' H',N σ' H'→∃ m',m' < m∧W m' σ' H')∧tb { D with nx:=N,ct:=N,bk:=D.nx } σ H1 else D.nx σ H1
theorem rg {c:Expr} {body:List Stmt} {tc:TT} {tb:TS} (hp:PassesOwn (model X.prog X.w) X.A X.env X.xe) (hc:PT X c tc) (hb:PSs X body tb):PS X (.While c body [] pos) (uH tc tb):=by
  intro pins s σ H D I h;obtain ⟨W,⟨m0,w0⟩,turn⟩:=h;refine wpAny_While (codeAny_whileLoop (fun n s'=>∃ σ' H',Inv X pins σ' H' s'∧W n σ' H') ?_ m0 ⟨σ,H,I,w0⟩);rintro n s1 ⟨σ1,H1,I1,w1⟩;refine wpAny_passesOwn hp (thn (hc pins s1 σ1 H1 _ I1 (turn n σ1 H1 w1)) fun b s2 ⟨H2,I2,q2⟩=>?_);cases b with
  | true =>
    obtain ⟨N,hN,q2⟩:=q2;rw [if_pos rfl];refine wpAny_passesOwn hp (thn (hb pins s2 σ1 H2 _ I2 q2) fun f s3 q3=>?_);cases f with
    | next =>
      obtain ⟨σ3,H3,I3,n3⟩:=q3;obtain ⟨m',hm,w3⟩:=hN σ3 H3 n3;exact ⟨m',hm,σ3,H3,I3,w3⟩
    | cont =>
      obtain ⟨σ3,H3,I3,n3⟩:=q3;obtain ⟨m',hm,w3⟩:=hN σ3 H3 n3;exact ⟨m',hm,σ3,H3,I3,w3⟩
    | brk=>exact q3
    | ret v=>exact q3
  | false =>
    rw [if_neg aad];exact wpAny_execs_nil ⟨σ1,H2,I2,q2⟩
end
structure It where
  go:Nat→Hp→Prop
  yld:Nat→Hp→V→Hp→Prop
  stop:Nat→Hp→Prop
def eR (X:Cx) (pins:List (Addr × Obj)) (H:Hp) (b:Addr):Prop :=
  H b=none∧b≠X.env.locals∧b∉X.fs∧(b∈X.ex∨X.s₀.heap.objs.size≤b)∧(∀ x c,X.env.cells.lookup x=some c→c≠b)∧∀ p∈X.pn++pins,p.1≠b
theorem Inv.fpOk {X:Cx} {pins:List (Addr × Obj)} {σ:St} {H H':Hp} {s:Shared} {b:Addr} (I:Inv X pins σ H s) (hb:s.heap.objs.size≤b) (hn:H' b=none):eR X pins H' b:=by
  refine ⟨hn,abA (aam I.lt hb),I.nofs hb,.inr (aaE I.sz hb),fun x c e z=>?_,fun p hp z=>?_⟩
  · obtain ⟨v,q⟩:=I.cell x c e;exact absurd (aam q.lt (by rw [z];exact hb)) (abH _)
  · exact absurd (aam (aaq (I.pin p hp).1) (by rw [z];exact hb)) (abH _)
structure Turn (P:Program) (w:World) (K:aaa) (tg:Expr) (J:It) (fp:List Addr) (it:Addr) (tn:Nat→Heap→Prop):Prop where
  mem:it∈fp
  obj:∀ i h,tn i h→∀ b∈fp,∃ o,h.get? b=some o∧∀ v,o.data≠.cell v
  keep:∀ i h h',tn i h→(∀ b∈fp,∀ o,h.get? b=some o→h'.get? b=some o)→tn i h'
  item:∀ (X:Cx),X.prog=P→X.w=w→X.K=K→X.calm=true→∀ (i:Nat) (pins:List (Addr × Obj)) (s:Shared) (σ:St) (H:Hp) (E:Value→Shared→Prop),Inv X pins σ H s→(∀ b∈fp,eR X pins H b)→tn i s.heap→J.go i H →
    wpAny (model P w) X.A (pyNext (.ref it)) (fun r s1=>∃ u,r=some u ∧
      wpAny (model P w) X.A (letOwnedTupleGo tg (.ref it) u) (fun _ s2=>∃ x H',Inv X pins σ H' s2∧RelV x u∧J.yld i H x H'∧tn (i+1) s2.heap∧∀ b∈fp,H' b=none) E s1) E s
  done:∀ (X:Cx),X.prog=P→X.w=w→X.K=K→X.calm=true→∀ (i:Nat) (pins:List (Addr × Obj)) (s:Shared) (σ:St) (H:Hp) (E:Value→Shared→Prop),Inv X pins σ H s→(∀ b∈fp,eR X pins H b)→tn i s.heap→J.stop i H →
    wpAny (model P w) X.A (pyNext (.ref it)) (fun r s1=>r=none∧Inv X pins σ H s1) E s
  self:∀ (A:Around) (i:Nat) (s:Shared) (Q:Value→Shared→Prop) (E:Value→Shared→Prop),tn i s.heap→Q (.ref it) s→wpAny (model P w) A (pyIter (.ref it)) Q E s
abbrev TI:=St→Hp→(It→Hp→Prop)→Prop
def PIE (X:Cx) (pins:List (Addr × Obj)) (σ:St) (tg:Expr) (R:It→Hp→Prop) (itv:Value) (s2:Shared):Prop :=
  ∃ (it:Addr) (fp:List Addr) (tn:Nat→Heap→Prop) (J:It) (H':Hp),itv=.ref it∧Inv X pins σ H' s2∧Turn X.prog X.w X.K tg J fp it tn∧tn 0 s2.heap∧(∀ b∈fp,eR X pins H' b)∧R J H'
def PI (X:Cx) (tg iter:Expr) (wi:TI):Prop :=
  ∀ (pins:List (Addr × Obj)) (s:Shared) (σ:St) (H:Hp) (R:It→Hp→Prop),Inv X pins σ H s→wi σ H R →
    wpAny (model X.prog X.w) X.A (eval iter X.env) (fun v s1=>wpAny (model X.prog X.w) X.A (pyIter v) (PIE X pins σ tg R) X.xe s1) X.xe s
theorem jX {M:Model} {A:Around} {E:Value→Shared→Prop} {s:Shared} {tg:Expr} {it:Addr} {u:Value} {o:Obj} {n:String} {vs:Array Value} {Q:Unit→Shared→Prop} (ho:s.heap.get? it=some o) (hc:o.cls=.type n) (hd:o.data=.fields vs)
    (hn:["enumerate","zip","dict_itemiterator","dict_reverseitemiterator","odict_iterator","itertools.zip_longest","itertools.pairwise"].contains n=false) (hQ:Q () s):wpAny M A (letOwnedTupleGo tg (.ref it) u) Q E s:=by
  unfold letOwnedTupleGo;cases tg <;> first
    | exact wpAny_pure hQ
    | (cases u <;> first
        | exact wpAny_pure hQ
        | (refine wpAny_bind (wpAny_load ho ?_)
           rw [hc,hd];show wpAny M A (if (["enumerate","zip","dict_itemiterator","dict_reverseitemiterator","odict_iterator","itertools.zip_longest","itertools.pairwise"].contains n && vs[0]? == some (rawInt _))=true then _ else _) Q E s;rw [if_neg (by intro h;rw [hn,abZ] at h;cases h)];exact wpAny_pure hQ))
def Itl (K:aaa) (a:Addr):It :=
  ⟨fun i H=>∃ xs x,SqL K H a xs∧xs[i]?=some x,fun i H x H'=>H'=H∧∀ xs,SqL K H a xs→xs[i]?=some x,fun i H=>∃ xs,SqL K H a xs∧xs.length≤i⟩
def Itt (K:aaa) (a:Addr):It :=
  ⟨fun i H=>∃ xs x,SqT K H a xs∧xs[i]?=some x,fun i H x H'=>H'=H∧∀ xs,SqT K H a xs→xs[i]?=some x,fun i H=>∃ xs,SqT K H a xs∧xs.length≤i⟩
def Itr (lo:Int) (n:Nat):It:=⟨fun i _=>i < n,fun i H x H'=>H'=H∧x=.int (lo+i),fun i _=>n≤i⟩
theorem pU {P:Program} {w:World} {K:aaa} {tg:Expr} (a it:Addr):Turn P w K tg (Itl K a) [it] it (fun i h=>h.IsListIter it a i) where
  mem:=by simp
  obj:=fun i h st b hb=>by
    have e:b=it:=by simpa using hb
    subst e;obtain ⟨o,e,c,d⟩:=st;exact ⟨o,e,fun v z=>by rw [d] at z;cases z⟩
  keep:=fun i h h' st k=>st.at fun o e=>k it (by simp) o e
  item:=by
    intro X hP hw hK hc i pins s σ H E I hf st hg;subst hP hw hK;obtain ⟨xs,x,hq,hx⟩:=hg;obtain ⟨its,rv,p,hz⟩:=I.list hq;obtain ⟨u,hu,ru⟩:=rv.get hx;obtain ⟨f0,f1,f2,f3,f4,f5⟩:=hf it (by simp);refine wpAny_pyNext_list_item st p.isList (x:=u) (by simpa using hu) fun h' st' sb=>?_;have I1:Inv X pins σ H { s with heap:=h' }:=I.turned (t':=s.toks) (fun b o hb e=>(sb.2 b hb).trans e) f0 f1 f3 f4 f5;obtain ⟨o,e,c,d⟩:=id st';exact ⟨u,rfl,jX (s:={ s with heap:=h' }) e c d (by decide) ⟨x,H,I1,ru,⟨rfl,fun ys hy=>by rw [I.list_inj hy hq];exact hx⟩,st',fun b hb=>(hf b hb).1⟩⟩
  done:=by
    intro X hP hw hK hc i pins s σ H E I hf st hg;subst hP hw hK;obtain ⟨xs,hq,hx⟩:=hg;obtain ⟨its,rv,p,hz⟩:=I.list hq;obtain ⟨f0,f1,f2,f3,f4,f5⟩:=hf it (by simp);have hl:=rv.length;exact wpAny_pyNext_list_end (I.ok.hd hc) st p.isList (by simp;lia) fun h' eb=>⟨rfl,I.turned (t':=s.toks) (fun b o hb e=>eb b o hb e) f0 f1 f3 f4 f5⟩
  self:=fun _ _ _ _ _ st h=>wpAny_pyIter_listiter st h
theorem mR {P:Program} {w:World} {K:aaa} {tg:Expr} (a it:Addr):Turn P w K tg (Itt K a) [it] it (fun i h=>h.IsTupleIter it a i) where
  mem:=by simp
  obj:=fun i h st b hb=>by
    have e:b=it:=by simpa using hb
    subst e;obtain ⟨o,e,c,d⟩:=st;exact ⟨o,e,fun v z=>by rw [d] at z;cases z⟩
  keep:=fun i h h' st k=>st.at fun o e=>k it (by simp) o e
  item:=by
    intro X hP hw hK hc i pins s σ H E I hf st hg;subst hP hw hK;obtain ⟨xs,x,hq,hx⟩:=hg;obtain ⟨its,rv,p,hz⟩:=I.tuple hq;obtain ⟨u,hu,ru⟩:=rv.get hx;obtain ⟨f0,f1,f2,f3,f4,f5⟩:=hf it (by simp);refine wpAny_pyNext_tuple_item st (show s.heap.IsTuple a its.toArray from p) (x:=u) (by simpa using hu) fun h' st' sb=>?_;have I1:Inv X pins σ H { s with heap:=h' }:=I.turned (t':=s.toks) (fun b o hb e=>(sb.2 b hb).trans e) f0 f1 f3 f4 f5;obtain ⟨o,e,c,d⟩:=id st';exact ⟨u,rfl,jX (s:={ s with heap:=h' }) e c d (by decide) ⟨x,H,I1,ru,⟨rfl,fun ys hy=>by rw [I.tuple_inj hy hq];exact hx⟩,st',fun b hb=>(hf b hb).1⟩⟩
  done:=by
    intro X hP hw hK hc i pins s σ H E I hf st hg;subst hP hw hK;obtain ⟨xs,hq,hx⟩:=hg;obtain ⟨its,rv,p,hz⟩:=I.tuple hq;obtain ⟨f0,f1,f2,f3,f4,f5⟩:=hf it (by simp);have hl:=rv.length;exact wpAny_pyNext_tuple_end (I.ok.hd hc) st (show s.heap.IsTuple a its.toArray from p) (by simp;lia) fun h' eb=>⟨rfl,I.turned (t':=s.toks) (fun b o hb e=>eb b o hb e) f0 f1 f3 f4 f5⟩
  self:=fun _ _ _ _ _ st h=>wpAny_pyIter_tupleiter st h
theorem mS {P:Program} {w:World} {K:aaa} {tg:Expr} (it:Addr) (lo:Int) (n:Nat):Turn P w K tg (Itr lo n) [it] it (fun i h=>IsRangeIter h it (lo+(i:Nat) * 1) ((n:Int) - (i:Nat)) 1) where
  mem:=by simp
  obj:=fun i h st b hb=>by
    have e:b=it:=by simpa using hb
    subst e;exact ⟨_,st,fun v z=>by
      have z':Data.fields _=Data.cell v:=z;cases z'⟩
  keep:=fun i h h' st k=>k it (by simp) _ st
  item:=by
    intro X hP hw hK hc i pins s σ H E I hf st hg;subst hP hw hK;obtain ⟨f0,f1,f2,f3,f4,f5⟩:=hf it (by simp);have W:=Walks.range (prog:=X.prog) (w:=X.w) (I.ok.hd hc) it lo 1 n;refine W.item i s _ _ hg st fun v h' tk hv st' kk=>?_;obtain ⟨t,rfl⟩:=hv;have I1:Inv X pins σ H { s with heap:=h',toks:=tk }:=I.turned (fun b o hb e=>kk b o (by simpa using hb) e) f0 f1 f3 f4 f5;refine ⟨_,rfl,jX (s:={ s with heap:=h',toks:=tk }) (n:="range_iterator") st' rfl rfl (by decide) ⟨.int (lo+i),H,I1,⟨t,?_⟩,⟨rfl,rfl⟩,st',fun b hb=>(hf b hb).1⟩⟩;rw [Int.mul_one]
  done:=by
    intro X hP hw hK hc i pins s σ H E I hf st hg;subst hP hw hK;obtain ⟨f0,f1,f2,f3,f4,f5⟩:=hf it (by simp);exact wpAny_pyNext_range_end (I.ok.hd hc) st (by have : n≤i:=hg;lia) fun h' eb=>⟨rfl,I.turned (t':=s.toks) (fun b o hb e=>eb b o hb e) f0 f1 f3 f4 f5⟩
  self:=fun _ _ _ _ _ st h=>wpAny_pyIter_rangeiter st h
open PySem PySem.Spec PyProof.Rows
section
variable {X:Cx} {tg:Expr}
def xc (K:aaa) (tl:TE):TI:=fun σ H R=>tl σ H fun x H1=>∃ a,x=.ref a∧(∃ xs,SqL K H1 a xs)∧R (Itl K a) H1
def wX (K:aaa) (tl:TE):TI:=fun σ H R=>tl σ H fun x H1=>∃ a,x=.ref a∧(∃ xs,SqT K H1 a xs)∧R (Itt K a) H1
theorem cV {l:Expr} {tl:TE} (hl:PE X l tl):PI X tg l (xc X.K tl):=by
  intro pins s σ H R I h;refine thn (hl pins s σ H _ I h) fun v s1 ⟨x,H1,I1,r1,q1⟩=>?_;obtain ⟨a,e,⟨xs,hq⟩,q⟩:=q1;subst e;cases r1;obtain ⟨its,rv,p,hz⟩:=I1.list hq;refine wpAny_pyIter_list p.isList ?_;refine ⟨s1.heap.objs.size,[s1.heap.objs.size],_,_,H1,rfl,I1.kept (t':=s1.toks) fun b o e=>aaf _ e,pU a _,⟨_,aau _ rfl,rfl,rfl⟩,fun b hb=>?_,q⟩;have e:b=s1.heap.objs.size:=by simpa using hb
  subst e;exact I1.fpOk (aah _) (I1.hok.fresh (aah _))
theorem eJ {l:Expr} {tl:TE} (hl:PE X l tl):PI X tg l (wX X.K tl):=by
  intro pins s σ H R I h;refine thn (hl pins s σ H _ I h) fun v s1 ⟨x,H1,I1,r1,q1⟩=>?_;obtain ⟨a,e,⟨xs,hq⟩,q⟩:=q1;subst e;cases r1;obtain ⟨its,rv,p,hz⟩:=I1.tuple hq;refine wpAny_pyIter_tuple (show s1.heap.IsTuple a its.toArray from p) ?_;refine ⟨s1.heap.objs.size,[s1.heap.objs.size],_,_,H1,rfl,I1.kept (t':=s1.toks) fun b o e=>aaf _ e,mR a _,⟨_,aau _ rfl,rfl,rfl⟩,fun b hb=>?_,q⟩;have e:b=s1.heap.objs.size:=by simpa using hb
  subst e;exact I1.fpOk (aah _) (I1.hok.fresh (aah _))
theorem lR {pins:List (Addr × Obj)} {σ:St} {H:Hp} {s:Shared} {R:It→Hp→Prop} {E:Value→Shared→Prop} {lo hi:Int} {t u v:Tok} {tk:Nat} (I:Inv X pins σ H s) (h1:-(2 ^ 62)≤lo) (h2:lo < 2 ^ 62) (h3:-(2 ^ 62)≤hi) (h4:hi < 2 ^ 62)
    (q:R (Itr lo (hi - lo).toNat) H):wpAny (model X.prog X.w) X.A (pyIter (.ref s.heap.objs.size)) (PIE X pins σ tg R) E { s with heap:=s.heap.push { cls:=.type "range",data:=.fields #[.int lo t,.int hi u,.int 1 v] },toks:=tk }:=by
  refine wpAny_pyIter_range (IsRange.new ..) (small_one h1 h2 h3 h4) ?_;have I1:Inv X pins σ H { s with heap:=s.heap.push { cls:=.type "range",data:=.fields #[.int lo t,.int hi u,.int 1 v] },toks:=tk }:=I.kept fun b o e=>aaf _ e;refine ⟨(s.heap.push { cls:=.type "range",data:=.fields #[.int lo t,.int hi u,.int 1 v] }).objs.size,[(s.heap.push { cls:=.type "range",data:=.fields #[.int lo t,.int hi u,.int 1 v] }).objs.size],_,_,H,rfl,
    I1.kept (t':=tk) fun b o e=>aaf _ e,mS _ lo (hi - lo).toNat,?_,fun b hb=>?_,q⟩
  · have e1:lo+((0:Nat):Int) * 1=lo:=by simp
    have e2:(((hi - lo).toNat:Nat):Int) - ((0:Nat):Int)=abV lo hi 1:=by rw [rangeSize_one];split <;> lia
    show IsRangeIter _ _ (lo+((0:Nat):Int) * 1) ((((hi - lo).toNat:Nat):Int) - ((0:Nat):Int)) 1;rw [e1,e2];exact aau _ rfl
  · have e:b=(s.heap.push { cls:=.type "range",data:=.fields #[.int lo t,.int hi u,.int 1 v] }).objs.size:=by simpa using hb
    subst e;exact I1.fpOk (aah _) (I1.hok.fresh (aah _))
def w_ (ta:TA):TI:=fun σ H R=>ta σ H fun vs H1=>∃ j:Int,vs=[.int j]∧-(2 ^ 62)≤j∧j < 2 ^ 62∧R (Itr 0 j.toNat) H1
def wZ (ta:TA):TI:=fun σ H R=>ta σ H fun vs H1=>∃ i j:Int,vs=[.int i,.int j]∧(-(2 ^ 62)≤i∧i < 2 ^ 62∧-(2 ^ 62)≤j∧j < 2 ^ 62)∧R (Itr i (j - i).toNat) H1
theorem bz {a:Expr} {ta:TA} {p pos:Pos} (hg:Gl X "range") (hm:X.mg "range" = none) (ha:PA X [a] ta) (hs:starEach [a] X.env=[(false,eval a X.env)]:=by rfl):PI X tg (.Call (.Name "range" p) [a] [] pos) (w_ ta):=by
  intro pins s σ H R I h;refine Call_ (fq I hg hm boot_range (abb (thn (ha pos pins s σ H _ I h) fun us s1 ⟨vs,H1,I1,r1,q1⟩=>?_) hs rfl));obtain ⟨j,e,q1,q2,q⟩:=q1;subst e;cases r1 with
  | cons r rr =>
    cases rr;obtain ⟨t,rfl⟩:=r;exact call_range_1 (lR I1 (by lia) (by lia) q1 q2 (by simpa using q))
theorem cu {a b:Expr} {ta:TA} {p pos:Pos} (hg:Gl X "range") (hm:X.mg "range" = none) (ha:PA X [a,b] ta) (hs:starEach [a,b] X.env=[(false,eval a X.env),(false,eval b X.env)]:=by rfl) (hs2:starEach [b] X.env=[(false,eval b X.env)]:=by rfl) :
    PI X tg (.Call (.Name "range" p) [a,b] [] pos) (wZ ta):=by
  intro pins s σ H R I h;refine Call_ (fq I hg hm boot_range (abb (thn (ha pos pins s σ H _ I h) fun us s1 ⟨vs,H1,I1,r1,q1⟩=>?_) (by rw [hs,hs2]) (by rw [hs2];rfl)));obtain ⟨i,j,e,⟨q1,q2,q3,q4⟩,q⟩:=q1;subst e;cases r1 with
  | cons r rr =>
    cases rr with
    | cons r' rr =>
      cases rr;obtain ⟨t,rfl⟩:=r;obtain ⟨t',rfl⟩:=r';exact call_range_2 (lR I1 q1 q2 q3 q4 q)
def xJ (wi:TI) (g:TG) (tb:TS):TS:=fun D σ H=>wi σ H fun J H1=>∃ W:Nat→Nat→St→Hp→Prop,(∃ m,W 0 m σ H1)∧∀ i m σ H,W i m σ H →
  (J.stop i H∧D.nx σ H)∨(J.go i H∧∃ N:St→Hp→Prop,(∀ σ' H',N σ' H'→∃ m',m' < m∧W (i+1) m' σ' H')∧∀ x H',J.yld i H x H'→g x σ H' fun σ2 H2=>tb { D with nx:=N,ct:=N,bk:=D.nx } σ2 H2)
def cO (fp:List Addr) (h:Heap):List (Addr × Obj):=fp.filterMap fun b=>(h.get? b).map fun o=>(b,o)
theorem eL {fp:List Addr} {h:Heap} {b:Addr} {o:Obj} (hb:b∈fp) (e:h.get? b=some o):(b,o)∈cO fp h:=List.mem_filterMap.mpr ⟨b,hb,by rw [e];rfl⟩
theorem gZ {fp:List Addr} {h:Heap} {p:Addr × Obj} (hp:p∈cO fp h):p.1∈fp∧h.get? p.1=some p.2:=by
  obtain ⟨b,hb,e⟩:=List.mem_filterMap.mp hp;cases q:h.get? b with
  | none=>rw [q] at e;cases e
  | some o =>
    rw [q] at e;have e':(b,o)=p:=aal e;subst e';exact ⟨hb,q⟩
theorem Inv.pinned {pins:List (Addr × Obj)} {σ:St} {H:Hp} {s:Shared} {fp:List Addr} (I:Inv X pins σ H s) (hf:∀ b∈fp,eR X pins H b) (ho:∀ b∈fp,∃ o,s.heap.get? b=some o∧∀ v,o.data≠.cell v):Inv X (pins++cO fp s.heap) σ H s :=
  I.pins_of fun p hp=>(aav.mp hp).elim (fun z=>I.pin p (aar _ z)) fun z=>by
    obtain ⟨hb,e⟩:=gZ z;obtain ⟨f0,f1,f2,_⟩:=hf p.1 hb;obtain ⟨o,e',d⟩:=ho p.1 hb;rw [e] at e';cases e';exact ⟨e,f0,f1,f2,d⟩
theorem Inv.unpinned {pins pl:List (Addr × Obj)} {σ:St} {H:Hp} {s:Shared} (I:Inv X (pins++pl) σ H s):Inv X pins σ H s:=I.pins_of fun p hp=>I.pin p (aar _ (aaD _ hp))
theorem bb {iter:Expr} {body:List Stmt} {wi:TI} {g:TG} {tb:TS} {pos:Pos} (hp:PassesOwn (model X.prog X.w) X.A X.env X.xe) (hc:X.calm=true) (hi:PI X tg iter wi) (hg:PG X tg g) (hb:PSs X body tb)
    (hs:∀ x,foldedSetIterable iter X.env x=pure x:=by intro _;rfl):PS X (.For tg iter body [] pos) (xJ wi g tb):=by
  intro pins s σ H D I h;refine wpAny_For (thn (hi pins s σ H _ I h) fun v s1 h1=>thn h1 fun itv s2 h2=>?_) hs;obtain ⟨it,fp,tn,J,H2,e,I2,T,st2,f2,W,⟨m0,w0⟩,turn⟩:=h2;subst e;have stat:∀ {H':Hp},(∀ b∈fp,H' b=none)→∀ b∈fp,eR X pins H' b:=fun hn b hb=>⟨hn b hb,(f2 b hb).2⟩
  refine codeAny_forLoop_any (fun n s'=>∃ i σ' H',Inv X pins σ' H' s'∧tn i s'.heap∧(∀ b∈fp,H' b=none)∧W i n σ' H') ?_ m0 ⟨0,σ,H2,I2,st2,fun b hb=>(f2 b hb).1,w0⟩;rintro n s3 ⟨i,σ3,H3,I3,st3,fr3,w3⟩;rcases turn i n σ3 H3 w3 with ⟨stop,qn⟩|⟨go,N,hN,step⟩
  · refine wpAny_passesOwn hp (thn (T.done X rfl rfl rfl hc i pins s3 σ3 H3 X.xe I3 (stat fr3) st3 stop) fun r s4 ⟨hr,I4⟩=>?_);subst hr;exact wpAny_execs_nil ⟨σ3,H3,I4,qn⟩
  · refine wpAny_passesOwn hp (thn (T.item X rfl rfl rfl hc i pins s3 σ3 H3 X.xe I3 (stat fr3) st3 go) fun r s4 ⟨u,hr,h4⟩=>?_);subst hr;refine wpAny_passesOwn hp (thn h4 fun _ s5 ⟨x,H5,I5,r5,y5,st5,fr5⟩=>?_);have I5':=I5.pinned (stat fr5) (T.obj _ _ st5);refine wpAny_passesOwn hp (thn (hg _ s5 σ3 H5 x u _ I5' r5 (step x H5 y5)) fun _ s6 ⟨σ6,H6,I6,q6⟩=>?_);refine wpAny_passesOwn hp (thn (hb _ s6 σ6 H6 _ I6 q6) fun f s7 q7=>?_);have again:∀ {σ7:St} {H7:Hp},Inv X (pins++cO fp s5.heap) σ7 H7 s7→N σ7 H7→∃ m,m < n∧∃ i σ' H',Inv X pins σ' H' s7∧tn i s7.heap∧(∀ b∈fp,H' b=none)∧W i m σ' H':=fun {σ7 H7} I7 n7=>by
      obtain ⟨m',hm,w7⟩:=hN σ7 H7 n7;refine ⟨m',hm,i+1,σ7,H7,I7.unpinned,T.keep _ _ _ st5 fun b hb o e=>(I7.pin (b,o) (aar _ (aar _ (eL hb e)))).1,fun b hb=>?_,w7⟩;obtain ⟨o,e,d⟩:=T.obj _ _ st5 b hb;exact (I7.pin (b,o) (aar _ (aar _ (eL hb e)))).2.1
    cases f with
    | next=>obtain ⟨σ7,H7,I7,n7⟩:=q7;exact again I7 n7
    | cont=>obtain ⟨σ7,H7,I7,n7⟩:=q7;exact again I7 n7
    | brk=>obtain ⟨σ7,H7,I7,q7⟩:=q7;exact ⟨σ7,H7,I7.unpinned,q7⟩
    | ret v=>obtain ⟨x7,σ7,H7,I7,r7,q7⟩:=q7;exact ⟨x7,σ7,H7,I7.unpinned,r7,q7⟩
end
theorem sx {K:aaa} {a:Addr} {xs:List V} {g:TG} {tb:TS} {D:Ends} {σ:St} {H:Hp} (Pv:Nat→St→Hp→Prop) (h0:Pv 0 σ H) (hl:∀ i σ H,i≤xs.length→Pv i σ H→SqL K H a xs)
    (hs:∀ i x σ H,xs[i]?=some x→Pv i σ H→g x σ H fun σ2 H2=>tb { D with nx:=Pv (i+1),ct:=Pv (i+1),bk:=D.nx } σ2 H2) (hd:∀ σ H,Pv xs.length σ H→D.nx σ H) :
    ∃ W:Nat→Nat→St→Hp→Prop,(∃ m,W 0 m σ H)∧∀ i m σ H,W i m σ H →
      ((Itl K a).stop i H∧D.nx σ H)∨((Itl K a).go i H∧∃ N:St→Hp→Prop,(∀ σ' H',N σ' H'→∃ m',m' < m∧W (i+1) m' σ' H')∧∀ x H',(Itl K a).yld i H x H'→g x σ H' fun σ2 H2=>tb { D with nx:=N,ct:=N,bk:=D.nx } σ2 H2):=by
  refine ⟨fun i m σ H=>m=xs.length - i∧i≤xs.length∧Pv i σ H,⟨xs.length,by simp,aaU _,h0⟩,?_⟩;rintro i m σ H ⟨rfl,hi,p⟩;have q:=hl i σ H hi p;by_cases hlt:i < xs.length
  · refine .inr ⟨⟨xs,xs[i],q,by simp [hlt]⟩,Pv (i+1),fun σ' H' p'=>⟨xs.length - (i+1),by lia,rfl,hlt,p'⟩,fun x H' y=>?_⟩;obtain ⟨e,y⟩:=y;subst e;exact hs i x σ _ (y xs q) p
  · have e:i=xs.length:=by lia
    subst e;exact .inl ⟨⟨xs,q,aah _⟩,hd σ H p⟩
theorem bq {lo:Int} {n:Nat} {g:TG} {tb:TS} {D:Ends} {σ:St} {H:Hp} (Pv:Nat→St→Hp→Prop) (h0:Pv 0 σ H)
    (hs:∀ i σ H,i < n→Pv i σ H→g (.int (lo+i)) σ H fun σ2 H2=>tb { D with nx:=Pv (i+1),ct:=Pv (i+1),bk:=D.nx } σ2 H2) (hd:∀ σ H,Pv n σ H→D.nx σ H) :
    ∃ W:Nat→Nat→St→Hp→Prop,(∃ m,W 0 m σ H)∧∀ i m σ H,W i m σ H →
      ((Itr lo n).stop i H∧D.nx σ H)∨((Itr lo n).go i H∧∃ N:St→Hp→Prop,(∀ σ' H',N σ' H'→∃ m',m' < m∧W (i+1) m' σ' H')∧∀ x H',(Itr lo n).yld i H x H'→g x σ H' fun σ2 H2=>tb { D with nx:=N,ct:=N,bk:=D.nx } σ2 H2):=by
  refine ⟨fun i m σ H=>m=n - i∧i≤n∧Pv i σ H,⟨n,by simp,aaU _,h0⟩,?_⟩;rintro i m σ H ⟨rfl,hi,p⟩;by_cases hlt:i < n
  · refine .inr ⟨hlt,Pv (i+1),fun σ' H' p'=>⟨n - (i+1),by lia,rfl,hlt,p'⟩,fun x H' y=>?_⟩;obtain ⟨e,y⟩:=y;subst e y;exact hs i σ _ hlt p
  · have e:i=n:=by lia
    subst e;exact .inl ⟨aah _,hd σ H p⟩
open PySem PySem.Spec PyProof.Rows
abbrev R2:=V→V→Hp→VK→Prop
def OpR (X:Cx) (f:Value→Value→Sem Value) (r:R2):Prop :=
  ∀ (pins:List (Addr × Obj)) (s:Shared) (σ:St) (H:Hp) (x y:V) (v u:Value) (Q:VK),Inv X pins σ H s→RelV x v→RelV y u→r x y H Q →
    wpAny (model X.prog X.w) X.A (f v u) (EP X pins σ Q) X.xe s
def UnR (X:Cx) (f:Value→Sem Value) (r:V→Hp→VK→Prop):Prop :=
  ∀ (pins:List (Addr × Obj)) (s:Shared) (σ:St) (H:Hp) (x:V) (v:Value) (Q:VK),Inv X pins σ H s→RelV x v→r x H Q →
    wpAny (model X.prog X.w) X.A (f v) (EP X pins σ Q) X.xe s
def bQ (X:Cx) (f:Value) (r:List V→Hp→VK→Prop):Prop :=
  ∀ (pins:List (Addr × Obj)) (s:Shared) (σ:St) (H:Hp) (xs:List V) (us:List Value) (Q:VK),Inv X pins σ H s→Vals xs us→r xs H Q →
    wpAny (model X.prog X.w) X.A (call f us) (EP X pins σ Q) X.xe s
def yj (X:Cx) (r:V→Hp→(Bool→Hp→Prop)→Prop):Prop :=
  ∀ (pins:List (Addr × Obj)) (s:Shared) (σ:St) (H:Hp) (x:V) (v:Value) (Q:Bool→Hp→Prop),Inv X pins σ H s→RelV x v→r x H Q →
    wpAny (model X.prog X.w) X.A (truthy v) (TP X pins σ Q) X.xe s
def tOp (r:R2) (ta tb:TE):TE:=fun σ H Q=>ta σ H fun x H1=>tb σ H1 fun y H2=>r x y H2 Q
def tUn (r:V→Hp→VK→Prop) (ta:TE):TE:=fun σ H Q=>ta σ H fun x H1=>r x H1 Q
def rI (C:Int→Int→Prop) (g:Int→Int→V):R2:=fun x y H Q=>∃ i j,x=.int i∧y=.int j∧C i j∧Q (g i j) H
def rI0 (g:Int→Int→V):R2:=fun x y H Q=>∃ i j,x=.int i∧y=.int j∧Q (g i j) H
def rU (g:Int→V):V→Hp→VK→Prop:=fun x H Q=>∃ i,x=.int i∧Q (g i) H
section
variable {X:Cx} {a b c:Expr} {ta tb tc:TE} {pos:Pos}
theorem vN (ha:PE X a ta) (hb:PE X b tb) {pins:List (Addr × Obj)} {s:Shared} {σ:St} {H:Hp} {R:V→V→Hp→Prop} (I:Inv X pins σ H s)
    (h:ta σ H fun x H1=>tb σ H1 fun y H2=>R x y H2) {Q:Value→Shared→Prop} {f:Value→Value→Sem Value}
    (hf:∀ v u s2 x y H2,Inv X pins σ H2 s2→RelV x v→RelV y u→R x y H2→wpAny (model X.prog X.w) X.A (f v u) Q X.xe s2) :
    wpAny (model X.prog X.w) X.A (eval a X.env) (fun v s₁=>wpAny (model X.prog X.w) X.A (eval b X.env) (fun u s₂=>wpAny (model X.prog X.w) X.A (f v u) Q X.xe s₂) X.xe s₁) X.xe s:=by
  refine thn (ha pins s σ H _ I h) fun v s1 ⟨x,H1,I1,r1,q1⟩=>?_;refine thn (hb pins s1 σ H1 _ I1 q1) fun u s2 ⟨y,H2,I2,r2,q2⟩=>?_;exact hf v u s2 x y H2 I2 r1 r2 q2
theorem ap {op:Operator} {r:R2} (ho:OpR X (binaryOp op) r) (ha:PE X a ta) (hb:PE X b tb):PE X (.BinOp a op b pos) (tOp r ta tb):=by
  intro pins s σ H Q I h;exact wpAny_BinOp (vN ha hb I h fun v u s2 x y H2 I2 rx ry q=>ho pins s2 σ H2 x y v u Q I2 rx ry q)
theorem h_ {op:UnaryOp} {r:V→Hp→VK→Prop} (ho:UnR X (unaryOp op) r) (ha:PE X a ta):PE X (.UnaryOp op a pos) (tUn r ta):=by
  intro pins s σ H Q I h;exact UnaryOp_ (thn (ha pins s σ H _ I h) fun v s1 ⟨x,H1,I1,r1,q1⟩=>ho pins s1 σ H1 x v Q I1 r1 q1)
theorem opI {f:Value→Value→Sem Value} {C:Int→Int→Prop} {g:Int→Int→Int}
    (rule:∀ (i j:Int) (t u:Tok) (s:Shared) (Q:Value→Shared→Prop) (E:Value→Shared→Prop),C i j→Q (.int (g i j) s.toks) { s with toks:=s.toks+1 }→wpAny (model X.prog X.w) X.A (f (.int i t) (.int j u)) Q E s) :
    OpR X f (rI C fun i j=>.int (g i j)):=by
  intro pins s σ H x y v u Q I rx ry h;obtain ⟨i,j,rfl,rfl,hc,q⟩:=h;obtain ⟨t,rfl⟩:=rx;obtain ⟨t',rfl⟩:=ry;exact rule i j t t' s _ _ hc ⟨.int (g i j),H,I.tok _,⟨_,rfl⟩,q⟩
theorem wP {f:Value→Value→Sem Value} {g:Int→Int→Int}
    (rule:∀ (i j:Int) (t u:Tok) (s:Shared) (Q:Value→Shared→Prop) (E:Value→Shared→Prop),Q (.int (g i j) s.toks) { s with toks:=s.toks+1 }→wpAny (model X.prog X.w) X.A (f (.int i t) (.int j u)) Q E s) :
    OpR X f (rI0 fun i j=>.int (g i j)):=by
  intro pins s σ H x y v u Q I rx ry h;obtain ⟨i,j,rfl,rfl,q⟩:=h;obtain ⟨t,rfl⟩:=rx;obtain ⟨t',rfl⟩:=ry;exact rule i j t t' s _ _ ⟨.int (g i j),H,I.tok _,⟨_,rfl⟩,q⟩
theorem tP {f:Value→Value→Sem Value} {g:Int→Int→Bool}
    (rule:∀ (i j:Int) (t u:Tok) (s:Shared) (Q:Value→Shared→Prop) (E:Value→Shared→Prop),Q (.bool (g i j)) s→wpAny (model X.prog X.w) X.A (f (.int i t) (.int j u)) Q E s) :
    OpR X f (rI0 fun i j=>.bl (g i j)):=by
  intro pins s σ H x y v u Q I rx ry h;obtain ⟨i,j,rfl,rfl,q⟩:=h;obtain ⟨t,rfl⟩:=rx;obtain ⟨t',rfl⟩:=ry;exact rule i j t t' s _ _ ⟨.bl (g i j),H,I,rfl,q⟩
def xw (i j:Int):Prop:=0≤j∧j≤1000000∧i.natAbs < 2 ^ 64
def CMul (i j:Int):Prop:=(-(2 ^ 64) < i∧i < 2 ^ 64)∨(-(2 ^ 64) < j∧j < 2 ^ 64)
theorem CMul.ok {i j:Int} (h:CMul i j):IntMulOk i j:=by
  rcases h with ⟨h1,h2⟩|⟨h1,h2⟩
  · exact .of_left (intBits_le_64 h1 h2)
  · exact .of_right (intBits_le_64 h1 h2)
theorem bf:OpR X (binaryOp .Add) (rI0 fun i j=>.int (i+j)):=wP fun _ _ _ _ _ _ _ q=>add_int q
theorem dn:OpR X (binaryOp .Sub) (rI0 fun i j=>.int (i - j)):=wP fun _ _ _ _ _ _ _ q=>sub_int q
theorem dq:OpR X (binaryOp .Mult) (rI CMul fun i j=>.int (i * j)):=opI fun _ _ _ _ _ _ _ hc q=>mul_int q hc.ok
theorem cQ:OpR X (binaryOp .Mod) (rI (fun _ j=>0 < j) fun i j=>.int (i % j)):=opI fun i j _ _ _ _ _ hc q=>by
  have h1:(0:Int) < j:=hc;exact mod_int' (by lia) (by rw [Int.fmod_eq_emod_of_nonneg i (by lia)];exact q)
theorem fk:OpR X (binaryOp .Pow) (rI xw fun i j=>.int (i ^ j.toNat)):=opI fun _ _ _ _ _ _ _ hc q=>pow_int_small hc.1 hc.2.1 hc.2.2 q
theorem unI {f:Value→Sem Value} {g:Int→Int}
    (rule:∀ (i:Int) (t:Tok) (s:Shared) (Q:Value→Shared→Prop) (E:Value→Shared→Prop),Q (.int (g i) s.toks) { s with toks:=s.toks+1 }→wpAny (model X.prog X.w) X.A (f (.int i t)) Q E s) :
    UnR X f (rU fun i=>.int (g i)):=by
  intro pins s σ H x v Q I rx h;obtain ⟨i,rfl,q⟩:=h;obtain ⟨t,rfl⟩:=rx;exact rule i t s _ _ ⟨.int (g i),H,I.tok _,⟨_,rfl⟩,q⟩
theorem eV:UnR X (unaryOp .USub) (rU fun i=>.int (-i)):=unI fun _ _ _ _ _ q=>neg_int q
end
def wu:V→V→Bool
  | .non,.non=>true|.non,.int _=>true|.int _,.non=>true|.non,.bl _=>true|.bl _,.non=>true|.non,.str _=>true|.str _,.non=>true
  | .int _,.int _=>true|.bl _,.bl _=>true|.str _,.str _=>true|.byt _,.byt _=>true
  | .int _,.str _=>true|.str _,.int _=>true|.bl _,.str _=>true|.str _,.bl _=>true
  | _,_=>false
def rEq:R2:=fun x y H Q=>wu x y=true∧Q (.bl (decide (x=y))) H
def rNe:R2:=fun x y H Q=>wu x y=true∧Q (.bl (!decide (x=y))) H
theorem pG {i j:Int}:decide (V.int i=V.int j)=(i == j):=by
  rw [abB];simp
theorem sQ {i j:Bool}:decide (V.bl i=V.bl j)=(i == j):=by
  rw [abB];simp
theorem pF {i j:Str}:decide (V.str i=V.str j)=(i == j):=by
  rw [abB];simp
theorem pH {i j:Array UInt8}:decide (V.byt i=V.byt j)=(i.toList == j.toList):=by
  rw [abB];cases i;cases j;simp
section
variable {X:Cx} {a b c:Expr} {ta tb tc:TE} {pos:Pos}
theorem aK {pins:List (Addr × Obj)} {σ:St} {H:Hp} {s:Shared} {Q:VK} {k k':Bool} (I:Inv X pins σ H s) (q:Q (.bl k) H) (e:k=k'):EP X pins σ Q (.bool k') s:=by
  subst e;exact ⟨.bl k,H,I,rfl,q⟩
theorem bw:OpR X (compareOp .Eq) rEq:=by
  intro pins s σ H x y v u Q I rx ry h;obtain ⟨hs,q⟩:=h;cases x with
  | non =>
    cases rx;cases y with
    | non=>cases ry;exact PySem.EqNone.eq_none_none (aK I q (by simp))
    | bl j=>cases ry;exact PySem.EqNone.eq_none_bool (aK I q (by simp))
    | int j=>obtain ⟨t',rfl⟩:=ry;exact PySem.EqNone.eq_none_int (aK I q (by simp))
    | str j=>obtain ⟨t',rfl⟩:=ry;exact PySem.EqNone.eq_none_str (aK I q (by simp))
    | _=>exact absurd (show false=true from hs) aad
  | bl i =>
    cases rx;cases y with
    | non=>cases ry;exact PySem.EqNone.eq_bool_none (aK I q (by simp))
    | bl j=>cases ry;exact eq_bool (aK I q sQ)
    | str j=>obtain ⟨t',rfl⟩:=ry;exact PySem.EqMixed.eq_bool_str (aK I q (by simp))
    | _=>exact absurd (show false=true from hs) aad
  | int i =>
    obtain ⟨t,rfl⟩:=rx;cases y with
    | non=>cases ry;exact PySem.EqNone.eq_int_none (aK I q (by simp))
    | int j=>obtain ⟨t',rfl⟩:=ry;exact eq_int (aK I q pG)
    | str j=>obtain ⟨t',rfl⟩:=ry;exact PySem.EqMixed.eq_int_str (aK I q (by simp))
    | _=>exact absurd (show false=true from hs) aad
  | str i =>
    obtain ⟨t,rfl⟩:=rx;cases y with
    | non=>cases ry;exact PySem.EqNone.eq_str_none (aK I q (by simp))
    | bl j=>cases ry;exact PySem.EqMixed.eq_str_bool (aK I q (by simp))
    | int j=>obtain ⟨t',rfl⟩:=ry;exact PySem.EqMixed.eq_str_int (aK I q (by simp))
    | str j=>obtain ⟨t',rfl⟩:=ry;exact eq_str (aK I q pF)
    | _=>exact absurd (show false=true from hs) aad
  | byt i =>
    obtain ⟨t,rfl⟩:=rx;cases y with
    | byt j=>obtain ⟨t',rfl⟩:=ry;exact PySem.W.eq_bytes (aK I q pH)
    | _=>exact absurd (show false=true from hs) aad
  | _=>cases y <;> exact absurd (show false=true from hs) aad
theorem rD:OpR X (compareOp .NotEq) rNe:=by
  intro pins s σ H x y v u Q I rx ry h;obtain ⟨hs,q⟩:=h;cases x with
  | non =>
    cases rx;cases y with
    | non=>cases ry;exact PySem.EqNone.ne_none_none (aK I q (by simp))
    | bl j=>cases ry;exact PySem.EqNone.ne_none_bool (aK I q (by simp))
    | int j=>obtain ⟨t',rfl⟩:=ry;exact PySem.EqNone.ne_none_int (aK I q (by simp))
    | str j=>obtain ⟨t',rfl⟩:=ry;exact PySem.EqNone.ne_none_str (aK I q (by simp))
    | _=>exact absurd (show false=true from hs) aad
  | bl i =>
    cases rx;cases y with
    | non=>cases ry;exact PySem.EqNone.ne_bool_none (aK I q (by simp))
    | bl j=>cases ry;exact ne_bool (aK I q (congrArg not sQ))
    | str j=>obtain ⟨t',rfl⟩:=ry;exact PySem.EqMixed.ne_bool_str (aK I q (by simp))
    | _=>exact absurd (show false=true from hs) aad
  | int i =>
    obtain ⟨t,rfl⟩:=rx;cases y with
    | non=>cases ry;exact PySem.EqNone.ne_int_none (aK I q (by simp))
    | int j=>obtain ⟨t',rfl⟩:=ry;exact ne_int (aK I q (congrArg not pG))
    | str j=>obtain ⟨t',rfl⟩:=ry;exact PySem.EqMixed.ne_int_str (aK I q (by simp))
    | _=>exact absurd (show false=true from hs) aad
  | str i =>
    obtain ⟨t,rfl⟩:=rx;cases y with
    | non=>cases ry;exact PySem.EqNone.ne_str_none (aK I q (by simp))
    | bl j=>cases ry;exact PySem.EqMixed.ne_str_bool (aK I q (by simp))
    | int j=>obtain ⟨t',rfl⟩:=ry;exact PySem.EqMixed.ne_str_int (aK I q (by simp))
    | str j=>obtain ⟨t',rfl⟩:=ry;exact ne_str (aK I q (congrArg not pF))
    | _=>exact absurd (show false=true from hs) aad
  | byt i =>
    obtain ⟨t,rfl⟩:=rx;cases y with
    | byt j=>obtain ⟨t',rfl⟩:=ry;exact PySem.W.ne_bytes (aK I q (congrArg not pH))
    | _=>exact absurd (show false=true from hs) aad
  | _=>cases y <;> exact absurd (show false=true from hs) aad
theorem wM:OpR X (compareOp .Lt) (rI0 fun i j=>.bl (decide (i < j))):=tP fun _ _ _ _ _ _ _ q=>lt_int q
theorem ic:OpR X (compareOp .LtE) (rI0 fun i j=>.bl (decide (i≤j))):=tP fun _ _ _ _ _ _ _ q=>le_int q
theorem uz:OpR X (compareOp .Gt) (rI0 fun i j=>.bl (decide (j < i))):=tP fun _ _ _ _ _ _ _ q=>gt_int q
theorem wN:OpR X (compareOp .GtE) (rI0 fun i j=>.bl (decide (j≤i))):=tP fun _ _ _ _ _ _ _ q=>ge_int q
theorem qj:OpR X (compareOp .In) (fun x y H Q=>∃ i j,x=.str i∧y=.str j∧Q (.bl (!(Builtin.Str.occurrences j i 0 j.length 1).isEmpty)) H):=by
  intro pins s σ H x y v u Q I rx ry h;obtain ⟨i,j,rfl,rfl,q⟩:=h;obtain ⟨t,rfl⟩:=rx;obtain ⟨t',rfl⟩:=ry;exact in_str (aK I q rfl)
theorem vh:OpR X (compareOp .Is) (fun x y H Q=>y=.non∧Q (.bl (decide (x=.non))) H):=by
  intro pins s σ H x y v u Q I rx ry h;obtain ⟨rfl,q⟩:=h;cases ry;refine is_none_gen (aK I q ?_);cases x <;> first
    | (cases rx;rfl)
    | (obtain ⟨t,rfl⟩:=rx;rfl)
theorem oR:OpR X (compareOp .IsNot) (fun x y H Q=>y=.non∧Q (.bl (!decide (x=.non))) H):=by
  intro pins s σ H x y v u Q I rx ry h;obtain ⟨rfl,q⟩:=h;cases ry;refine isnot_none_gen (aK I q ?_);cases x <;> first
    | (cases rx;rfl)
    | (obtain ⟨t,rfl⟩:=rx;rfl)
theorem az (b:Expr) {op:CmpOp} (h:op≠.In:=by decide) (h2:op≠.NotIn:=by decide):behindInMarks op b=false:=by
  have e1:(op == CmpOp.In)=false:=by cases op <;> first|rfl|exact absurd rfl h
  have e2:(op == CmpOp.NotIn)=false:=by cases op <;> first|rfl|exact absurd rfl h2
  cases b <;> simp [behindInMarks,e1,e2]
theorem aO {op:CmpOp} {r:R2} (ho:OpR X (compareOp op) r) (ha:PE X a ta) (hb:PE X b tb) (hm:behindInMarks op b=false):PE X (.Compare a [op] [b] pos) (tOp r ta tb):=by
  intro pins s σ H Q I h;exact wpAny_Compare1 (vN ha hb I h fun v u s2 x y H2 I2 rx ry q=>ho pins s2 σ H2 x y v u Q I2 rx ry q) hm
def qP (t:TE):TT:=fun σ H Q=>t σ H fun x H'=>∃ k,x=.bl k∧Q k H'
theorem aF {op:CmpOp} {r:R2} (ho:OpR X (compareOp op) r) (ha:PE X a ta) (hb:PE X b tb) (hm:behindInMarks op b=false):PT X (.Compare a [op] [b] pos) (qP (tOp r ta tb)):=by
  intro pins s σ H Q I h;refine wpAny_isTrue_Compare1 (thn (ha pins s σ H _ I h) fun v s1 ⟨x,H1,I1,r1,q1⟩=>thn (hb pins s1 σ H1 _ I1 q1) fun u s2 ⟨y,H2,I2,r2,q2⟩ =>
    thn (ho pins s2 σ H2 x y v u _ I2 r1 r2 q2) fun c s3 ⟨z,H3,I3,r3,k,e,q3⟩=>?_) hm
  subst e;cases r3;exact wpAny_truthy_bool ⟨H3,I3,q3⟩
def uN (r r':R2) (ta tb tc:TE):TE:=fun σ H Q=>ta σ H fun x H1=>tb σ H1 fun y H2=>r x y H2 fun z H3=>∃ k,z=.bl k ∧
  (if k=true then tc σ H3 fun w' H4=>r' y w' H4 Q else Q (.bl false) H3)
theorem rf {op op':CmpOp} {r r':R2} (ho:OpR X (compareOp op) r) (ho':OpR X (compareOp op') r') (ha:PE X a ta) (hb:PE X b tb) (hc:PE X c tc)
    (hm:lastMarks [op,op'] [b,c]=false:=by with_unfolding_all rfl):PT X (.Compare a [op,op'] [b,c] pos) (qP (uN r r' ta tb tc)):=by
  intro pins s σ H Q I h;refine isTrue_chain (thn (ha pins s σ H _ I h) fun v s1 ⟨x,H1,I1,r1,q1⟩=>test_link (thn (hb pins s1 σ H1 _ I1 q1) fun u s2 ⟨y,H2,I2,r2,q2⟩ =>
    thn (ho pins s2 σ H2 x y v u _ I2 r1 r2 q2) fun d s3 ⟨z,H3,I3,r3,k,e,q3⟩=>?_)) hm
  subst e;cases r3;refine wpAny_truthy_bool ?_;cases k with
  | false =>
    obtain ⟨k',e',q'⟩:=q3;cases e';exact ite_ff ⟨H3,I3,q'⟩
  | true =>
    refine ite_tt (test_last (thn (hc pins s3 σ H3 _ I3 q3) fun w' s4 ⟨z',H4,I4,r4,q4⟩=>thn (ho' pins s4 σ H4 y z' u w' _ I4 r2 r4 q4) fun d' s5 ⟨z2,H5,I5,r5,k2,e2,q5⟩=>?_));subst e2;cases r5;exact wpAny_truthy_bool ⟨H5,I5,q5⟩
def vO (K:aaa) (x:V) (H:Hp) (k:Bool):Prop :=
  match x with
  | .non=>k=false
  | .bl b=>k=b
  | .int i=>k=(i != 0)
  | .str y=>y.length≤sizeLine∧k=((y.length:Int) != 0)
  | .byt y=>y.size≤sizeLine∧k=((y.size:Int) != 0)
  | .ref p=>(∃ xs,SqL K H p xs∧k=!xs.isEmpty)∨(∃ xs,SqT K H p xs∧k=!xs.isEmpty)∨∃ kvs,H p=some (.dK kvs)∧k=!kvs.isEmpty
  | _=>False
theorem nW {κ:Type} {kvs:List (κ × V)} {vs:List (κ × Value)} (r:KV kvs vs):(!vs.isEmpty)=!kvs.isEmpty:=by
  cases r <;> rfl
theorem ji {xs:List V} {its:List Value} (r:Vals xs its):(!its.toArray.isEmpty)=!xs.isEmpty:=by
  cases r <;> simp
theorem g8:(sizeLine:Nat) < 2 ^ 63:=by rw [sizeLine_eq];decide
theorem qN:yj X (fun x H Q=>∃ k,vO X.K x H k∧Q k H):=by
  intro pins s σ H x v Q I rx h;obtain ⟨k,e,q⟩:=h;have hl:=g8;have hs:sizeLine=16777216:=sizeLine_eq;cases x with
  | non =>
    cases rx;have e':k=false:=e;subst e';exact truthy_none ⟨H,I,q⟩
  | bl b =>
    cases rx;have e':k=b:=e;subst e';exact wpAny_truthy_bool ⟨H,I,q⟩
  | int i =>
    obtain ⟨t,rfl⟩:=rx;have e':k=(i != 0):=e;subst e';exact PySem.P.truthy_int ⟨H,I,q⟩
  | str y =>
    obtain ⟨t,rfl⟩:=rx;obtain ⟨hy,e'⟩:y.length≤sizeLine∧k=((y.length:Int) != 0):=e;subst e';exact PySem.P.truthy_str (by lia) ⟨H,I.tok _,q⟩
  | byt y =>
    obtain ⟨t,rfl⟩:=rx;obtain ⟨hy,e'⟩:y.size≤sizeLine∧k=((y.size:Int) != 0):=e;subst e';exact PySem.W.truthy_bytes (by lia) ⟨H,I.tok _,q⟩
  | ref p =>
    cases rx;have e':(∃ xs,SqL X.K H p xs∧k=!xs.isEmpty)∨(∃ xs,SqT X.K H p xs∧k=!xs.isEmpty)∨∃ kvs,H p=some (.dK kvs)∧k=!kvs.isEmpty:=e;rcases e' with ⟨xs,hx,e'⟩|⟨xs,hx,e'⟩|⟨kvs,hx,e'⟩
    · subst e';obtain ⟨its,r,pl,hz⟩:=I.list hx;have hlen:=r.length;exact wpAny_truthy_list pl.isList (by simp only [aag];lia) ⟨H,I.tok _,by rw [ji r];exact q⟩
    · subst e';obtain ⟨its,r,pl,hz⟩:=I.tuple hx;have hlen:=r.length;exact truthy_tuple pl (by simp only [aag];lia) ⟨H,I.tok _,by rw [ji r];exact q⟩
    · subst e';obtain ⟨hz,hS,vs,r,m⟩:kvs.length≤sizeLine∧(p == sysModules)=false∧∃ vs,KV kvs vs∧s.heap.DictOf (aX X.prog X.w) p vs:=I.hok p _ hx;have hlen:kvs.length=vs.length:=aaC r;exact wpAny_truthy_dict hS m (by lia) ⟨H,I.tok _,by rw [nW r];exact q⟩
  | _=>exact (show False from e).elim
theorem re (ha:PE X a ta) (he:∀ whole,isTrue a X.env whole=(do let v ← whole;standAt a.pos;holding [v] (truthy v))) :
    PT X a (fun σ H Q=>ta σ H fun x H'=>∃ k,vO X.K x H' k∧Q k H'):=by
  intro pins s σ H Q I h;exact isTrue_plain (thn (ha pins s σ H _ I h) fun v s1 ⟨x,H1,I1,r1,q1⟩=>qN pins s1 σ H1 x v Q I1 r1 q1) (he _)
theorem fY:OpR X (binaryOp .Add) (fun x y H Q=>∃ i j,x=.str i∧y=.str j∧i.length+j.length≤sizeLine∧Q (.str (i++j)) H):=by
  intro pins s σ H x y v u Q I rx ry h;obtain ⟨i,j,rfl,rfl,hz,q⟩:=h;obtain ⟨t,rfl⟩:=rx;obtain ⟨t',rfl⟩:=ry;exact add_str (fun t' tk=>⟨.str (i++j),H,I.tok _,⟨_,rfl⟩,q⟩) hz
theorem dI {x:V} {us:List Value} (r:Vals [x] us):∃ u,us=[u]∧RelV x u:=by
  cases r with
  | cons r1 r2=>cases r2;exact ⟨_,rfl,r1⟩
theorem oA {x y:V} {us:List Value} (r:Vals [x,y] us):∃ u w',us=[u,w']∧RelV x u∧RelV y w':=by
  cases r with
  | cons r1 r2 =>
    cases r2 with
    | cons r3 r4=>cases r4;exact ⟨_,_,rfl,r1,r3⟩
theorem cA:bQ X (.type "int") (fun xs H Q=>(∃ i,xs=[.int i]∧Q (.int i) H)∨∃ k,xs=[.bl k]∧Q (.int (if k then 1 else 0)) H):=by
  intro pins s σ H xs us Q I r h;rcases h with ⟨i,rfl,q⟩|⟨k,rfl,q⟩
  · obtain ⟨u,rfl,t,rfl⟩:=dI r;exact call_int_int ⟨.int i,H,I,⟨_,rfl⟩,q⟩
  · obtain ⟨u,rfl,r1⟩:=dI r;cases r1;exact call_int_bool ⟨.int (if k then 1 else 0),H,I.tok _,⟨_,rfl⟩,q⟩
end
open PySem PySem.Spec PyProof.Rows
structure ObjM (h:Heap) (x dx C:Addr) (mA:Str→Option Value):Prop where
  obj:h.get? x=some (PySem.W.instObj C dx)
  ns:h.Ns1 dx mA
  ne:dx≠x
theorem qr {h:Heap} {dx:Addr} {mA:Str→Option Value} (n:h.Ns1 dx mA):∃ od,h.get? dx=some od∧∀ name,PySem.W.lookIn name od=some (mA name):=by
  obtain ⟨o,es,ep,ho,hd,hk,_,hm⟩:=n;refine ⟨o,ho,fun name=>?_⟩;have e:=hm name;unfold nsFind findBy at e;rw [← Array.find?_toList] at e;unfold PySem.W.lookIn;rw [hd];dsimp only;split
  · rename_i y q;rw [q] at e;exact congrArg some e
  · rename_i q;rw [q] at e;have a:es.toList.any (·.refKey)=false:=by
      rw [List.any_eq_false];intro y hy;obtain ⟨z,t,hkey⟩:=hk y (Array.mem_toList_iff.mp hy);simp [DictEntry.refKey,hkey]
    have a':¬ es.toList.any (·.refKey)=true:=by rw [a];exact aad
    rw [if_neg a'];exact congrArg some e
theorem ObjM.look {h:Heap} {x dx C:Addr} {mA:Str→Option Value} (I:ObjM h x dx C mA):∃ od,PySem.W.InstAt h x (PySem.W.instObj C dx) C (some od)∧∀ name,PySem.W.lookIn name od=some (mA name) :=
  let ⟨od,ho,hl⟩:=qr I.ns
  ⟨od,⟨I.obj,rfl,rfl,ho⟩,hl⟩
section
variable {prog:Program} {w:World} {A:Around} {E:Value→Shared→Prop} {s:Shared} {K:aaa} {x dx C f:Addr} {mA:Str→Option Value} {name:Str} {v:Value}
end
theorem RelO.some_of {v:V} {o:Option Value} (r:RelO (some v) o):∃ u,o=some u∧RelV v u:=by
  cases o with
  | none=>exact (show False from r).elim
  | some u=>exact ⟨u,rfl,r⟩
section
variable {P:Program} {w:World} {H H':Hp} {h h':Heap} {a C dx:Addr} {fs fs':List (Str × V)}
theorem t7 (hok:HOk P w H h) (e:H a=some (.ins C dx fs)):∃ mA,ObjM h a dx C mA∧(∀ f,RelO (fs.lookup f) (mA f))∧PySem.Within mA (fs.map (·.1))∧fs.length≤1000∧H dx=some (.own a):=by
  obtain ⟨d,z,ne,ob,mA,n,r,q⟩:=(show ObjOk P w H h a (.ins C dx fs) from hok a _ e)
  exact ⟨mA,⟨ob,n,ne⟩,r,q,z,d⟩
end
structure Cls (K:aaa) (C:Addr):Prop where
  pg:PySem.W.plainGet K C Str.empty=true
  hd:PySem.W.hasDictIn K C=true
  po:PySem.W.plainOver K C=true
  sa:acJ K (.ref C) "__setattr__" = some (some (.builtin "object.__setattr__"))
theorem Cls.get {K:aaa} {C:Addr} (c:Cls K C) (f:Str):PySem.W.plainGet K C f=true:=c.pg
structure Con (K:aaa) (C:Addr) (f:Str) (v:V) (u:Value):Prop where
  at_:acJ K (.ref C) f=some (some u)
  rel:RelV v u
  get:PySem.W.specialIn K u "__get__" = some none
  cp:PySem.W.copiedNames.contains f=false
structure Meth (K:aaa) (C:Addr) (m:Str) (f:Addr):Prop where
  at_:acJ K (.ref C) m=some (some (.ref f))
  fn:PySem.W.isFn K (.ref f)=true
  kp:abq K (.ref f)=true
section
variable {X:Cx} {pins:List (Addr × Obj)} {σ:St} {H:Hp} {s:Shared} {a C dx:Addr} {fs:List (Str × V)} {f:Str} {v:V} {A:Around} {E:Value→Shared→Prop}
end
section
variable {X:Cx} {o e value:Expr} {f:Str} {pos pos' tpos:Pos} {ta tv:TE}
end
section
variable {X:Cx} {pins:List (Addr × Obj)} {σ:St} {H:Hp} {s:Shared} {A:Around} {E:Value→Shared→Prop} {Q:Value→Shared→Prop} {c:Value} {b:Bool}
inductive TyOf (K:aaa) (H:Hp):V→Value→Prop where
  | non:TyOf K H .non (.type "NoneType")
  | bl (x:Bool):TyOf K H (.bl x) (.type "bool")
  | int (i:Int):TyOf K H (.int i) (.type "int")
  | str (x:Str):TyOf K H (.str x) (.type "str")
  | flt (x:UInt64):TyOf K H (.flt x) (.type "float")
  | lst {a:Addr} {xs:List V} (e:H a=some (.lst xs)):TyOf K H (.ref a) (.type "list")
  | frz {a:Addr} {o:Obj} {xs:List V} (e:H a=some (.frz o (.lst xs))):TyOf K H (.ref a) (.type "list")
  | tup {a:Addr} {xs:List V} (e:H a=some (.tup xs)):TyOf K H (.ref a) (.type "tuple")
  | dK {a:Addr} {kvs:List (Key × V)} (e:H a=some (.dK kvs)):TyOf K H (.ref a) (.type "dict")
  | dT {a:Addr} {kvs:List (List Key × V)} (e:H a=some (.dT kvs)):TyOf K H (.ref a) (.type "dict")
  | ins {a C dx:Addr} {fs:List (Str × V)} (e:H a=some (.ins C dx fs)) (cl:Cls K C) (ha:acJ K (.ref C) "__class__" = some (some (.builtin "object.__class__")))
      (hn:PySem.W.specialIn K (.builtin "object.__class__") "__get__" = some (some (.builtin "getset_descriptor.__get__"))) (htk:PySem.W.takesIn K (.builtin "object.__class__")=some true)
      (hm:PySem.W.mroIn K C (.type "object")=some true):TyOf K H (.ref a) (.ref C)
theorem jV {x:V} {u t:Value} (I:Inv X pins σ H s) (rx:RelV x u) (ty:TyOf X.K H x t) (e:abN X.K t c=some b) (h:∀ tk,Q (.bool b) { s with toks:=tk }) :
    wpAny (model X.prog X.w) A (call (.builtin "isinstance") [u,c]) Q E s:=by
  cases ty with
  | non=>cases (show u=Value.none from rx);exact abc PySem.W.kitx_none I.kIn True.intro e (fun z=>nomatch z) h
  | bl y=>cases (show u=Value.bool y from rx);exact abc PySem.W.kitx_bool I.kIn True.intro e (fun z=>nomatch z) h
  | int i=>obtain ⟨t,q⟩:=(show ∃ t,u=Value.int i t from rx);cases q;exact abc PySem.W.kitx_int I.kIn True.intro e (fun z=>nomatch z) h
  | str y=>obtain ⟨t,q⟩:=(show ∃ t,u=Value.str y t from rx);cases q;exact abc PySem.W.kitx_str I.kIn True.intro e (fun z=>nomatch z) h
  | flt y=>obtain ⟨t,q⟩:=(show ∃ t,u=Value.float y t from rx);cases q;exact abc PySem.W.kitx_float I.kIn True.intro e (fun z=>nomatch z) h
  | @lst a xs ea =>
    cases (show u=Value.ref a from rx);obtain ⟨_,_,n,_,h1⟩:=(show ObjOk X.prog X.w H s.heap a (.lst xs) from I.hok a _ ea)
    exact abc PySem.W.kitx_list I.kIn ⟨_,h1,rfl⟩ e (fun z=>nomatch z) h
  | @frz a ob xs ea =>
    cases (show u=Value.ref a from rx);obtain ⟨_,_,_,n,_,h1⟩:=(show ObjOk X.prog X.w H s.heap a (.frz ob (.lst xs)) from I.hok a _ ea)
    exact abc PySem.W.kitx_list I.kIn ⟨_,h1,rfl⟩ e (fun z=>nomatch z) h
  | @tup a xs ea =>
    cases (show u=Value.ref a from rx);obtain ⟨_,_,_,p⟩:=(show ObjOk X.prog X.w H s.heap a (.tup xs) from I.hok a _ ea)
    obtain ⟨o,h1,h2,_⟩:=p;exact abc PySem.W.kitx_tuple I.kIn ⟨o,h1,h2⟩ e (fun z=>nomatch z) h
  | @dK a kvs ea =>
    cases (show u=Value.ref a from rx);obtain ⟨_,_,vs,_,p⟩:=(show ObjOk X.prog X.w H s.heap a (.dK kvs) from I.hok a _ ea)
    obtain ⟨o,es,ep,h1,h2,_⟩:=p;exact abc PySem.W.kitx_dict I.kIn ⟨o,h1,h2.1⟩ e (fun z=>nomatch z) h
  | @dT a kvs ea =>
    cases (show u=Value.ref a from rx);obtain ⟨_,_,xs,_,o,es,ep,h1,h2,_⟩:=(show ObjOk X.prog X.w H s.heap a (.dT kvs) from I.hok a _ ea)
    exact abc PySem.W.kitx_dict I.kIn ⟨o,h1,h2.1⟩ e (fun z=>nomatch z) h
  | @ins a C dx fs ea cl ha hn htk hm =>
    cases (show u=Value.ref a from rx);obtain ⟨mA,O,_⟩:=t7 I.hok ea;obtain ⟨od,J,_⟩:=O.look;exact abc (PySem.W.kitx_own (cl.get _) cl.hd ha hn htk hm) I.kIn J e (fun z=>nomatch z) h
end
open PySem PySem.Spec PyProof.Rows
structure Room (k:Nat) (A:Around):Prop where
  hd:A.handled=none
  dp:A.depth+3 * k+5 < recursionLimit
  un:A.units+16 * k+200 < cLine
  gd:A.guards=some []
theorem Room.mono {j k:Nat} {A:Around} (r:Room k A) (h:j≤k):Room j A:=⟨r.hd,by have:=r.dp;lia,by have:=r.un;lia,r.gd⟩
theorem Room.deeper {k:Nat} {A:Around} (r:Room (k+1) A) (env:Env):Room k (A.deeper env) :=
  ⟨r.hd,by have:=r.dp;show A.depth+1+3 * k+5 < _;lia,by have:=r.un;show A.units+3+16 * k+200 < _;lia,r.gd⟩
theorem Room.depth {k:Nat} {A:Around} (r:Room k A):A.depth < recursionLimit:=by have:=r.dp;lia
theorem Room.units {k:Nat} {A:Around} (r:Room k A):A.units+64 < cLine:=by have:=r.un;lia
def xD:TA:=fun _ H Q=>Q [] H
def wg (ta:TE) (tr:TA):TA:=fun σ H Q=>ta σ H fun x H1=>tr σ H1 fun xs H2=>Q (x :: xs) H2
section
variable {X:Cx} {e:Expr} {es:List Expr} {te:TE} {t:TA} {pos:Pos}
theorem ac:PA X [] xD:=fun _ _ _ _ H Q I h=>Calls.spliced_nil ⟨[],H,I,.nil,h⟩
theorem aa (ha:PE X e te) (hr:PA X es t) (hs:starEach (e :: es) X.env=(false,eval e X.env) :: starEach es X.env:=by rfl):PA X (e :: es) (wg te t):=by
  intro pos pins s σ H Q I h;rw [hs];show wpAny _ _ (spliced ((false,eval e X.env) :: backTo pos (starEach es X.env))) _ _ s;refine acs (thn (ha pins s σ H _ I h) fun u s1 ⟨x,H1,I1,r1,q1⟩=>?_);exact thn (hr pos pins s1 σ H1 _ I1 q1) fun us s2 ⟨xs,H2,I2,r2,q2⟩=>⟨x :: xs,H2,I2,.cons r1 r2,q2⟩
def xy (t:TA):TE:=fun σ H Q=>t σ H fun xs H1=>xs.length≤sizeLine∧∀ p,H1 p=none→Q (.ref p) (upd H1 p (.tup xs))
def xE (t:TA):TE:=fun σ H Q=>t σ H fun xs H1=>xs.length≤sizeLine∧∀ p,H1 p=none→Q (.ref p) (upd H1 p (.lst xs))
theorem au {x1} (h:PA X es t):PE X (.Tuple es x1 pos) (xy t):=by
  intro pins s σ H Q I hq;refine wpAny_Tuple_spliced (thn (h pos pins s σ H _ I hq) fun us s1 ⟨xs,H1,I1,r,z,q⟩=>⟨by rw [← r.length];exact z,?_⟩);have hf:H1 s1.heap.objs.size=none:=I1.hok.fresh (aah _);refine ⟨.ref s1.heap.objs.size,upd H1 s1.heap.objs.size (.tup xs),I1.laid (t':=s1.toks) (fun b u e=>aaf _ e) (aah _) ?_,rfl,q _ hf⟩;exact ⟨z,us,r,⟨_,aau _ rfl,rfl,_,rfl⟩⟩
theorem aJ (h:PA X es t):PE X (.List es pos) (xE t):=by
  intro pins s σ H Q I hq;refine wpAny_List_spliced (thn (h pos pins s σ H _ I hq) fun us s1 ⟨xs,H1,I1,r,z,q⟩=>⟨by rw [← r.length];exact z,?_⟩);have hf:H1 s1.heap.objs.size=none:=I1.hok.fresh (aah _);refine ⟨.ref s1.heap.objs.size,upd H1 s1.heap.objs.size (.lst xs),I1.laid (t':=s1.toks) (fun b u e=>aaf _ e) (aah _) ?_,rfl,q _ hf⟩;exact ⟨z,us,0,r,aau _ rfl⟩
end
abbrev Sp:=List V→Hp→VK→XK→Prop
abbrev CXT:=List Env→Hp→Shared→XK→Value→Shared→Prop
structure Env0 (P:Program) (w:World) (K:aaa) (mg:Str→Option Value) (base:Heap) (A:Around) (outer:List Env) (s:Shared) (H:Hp):Prop where
  frames:A.frames=some outer
  mod:Mod K mg base
  bs:∀ b o,base.get? b=some o→s.heap.get? b=some o∧H b=none
  bsz:base.objs.size≤s.heap.objs.size
  funs:s.heap.FunFrames base outer
  frf:∀ b∈frs outer,H b=none
  hok:HOk P w H s.heap
  bare:AllBare s.gens
def CE (outer:List Env) (P:Program) (w:World) (H:Hp) (s:Shared) (Q:VK) (u:Value) (s':Shared):Prop :=
  ∃ v H',s'.os=s.os∧AllBare s'.gens∧Un (frs outer) [] H H' s.heap s'.heap∧HOk P w H' s'.heap∧RelV v u∧Q v H'
def CR (CX:CXT) (outer:List Env) (P:Program) (w:World) (H:Hp) (s:Shared) (Q:VK) (E:XK) (r:Result) (s':Shared):Prop :=
  match r with
  | .ok (.ret u)=>CE outer P w H s Q u s'
  | .ok _=>False
  | .error e=>CX outer H s E e s'
structure FnOk (P:Program) (w:World) (K:aaa) (mg:Str→Option Value) (base:Heap) (CX:CXT) (k:Nat) (f:Addr) (fd:FuncData) (ps:List Str) (sp:Sp):Prop where
  len:∀ vs H Q E,sp vs H Q E→vs.length=ps.length
  run:∀ (A:Around) (outer:List Env) (s:Shared) (H:Hp) (args:Args) (us:List Value) (vs:List V) (Q:VK) (E:XK),Room k A→Env0 P w K mg base A outer s H→BindsTo s fd args (ps.zip us)→Vals vs us→sp vs H Q E →
    codeAny (model P w) A (.call (.ref f) args) (CR CX outer P w H s Q E) s
section
variable {X:Cx} {pins:List (Addr × Obj)} {σ:St} {H:Hp} {s s':Shared}
theorem Inv.env0 (I:Inv X pins σ H s):Env0 X.prog X.w X.K X.mg X.base X.A X.stack s H :=
  ⟨I.ok.frames,I.ok.mod,I.bs,aaE I.ok.bsz I.sz,I.stack,I.stkFree,I.hok,I.bare⟩
theorem Inv.after {Q:VK} {u:Value} (I:Inv X pins σ H s) (h:CE X.stack X.prog X.w H s Q u s'):EP X pins σ Q u s':=by
  obtain ⟨v,H',os,bare,un,hok,r,q⟩:=h;obtain ⟨hh,g,d,t,os'⟩:=s';obtain rfl:os'=s.os:=os;exact ⟨v,H',I.call (h':=hh) (g':=g) (d':=d) (t':=t) (ch:=[]) un hok bare (fun b z=>absurd z (by simp)),r,q⟩
end
def uv (sp:Sp) (dvs:List V) (E:XK) (t:TA):TE:=fun σ H Q=>t σ H fun vs H1=>sp (vs++dvs) H1 Q E
def Binds (K:aaa) (fd:FuncData) (ps:List Str) (ds:List Value):Prop :=
  ∀ (s:Shared) (us:List Value),K.In s.heap→(us++ds).length=ps.length→BindsTo s fd ⟨us,[]⟩ (ps.zip (us++ds))
theorem Binds.all {K:aaa} {fd:FuncData} {ps:List Str} (h:∀ us:List Value,us.length=ps.length→bindArgs fd ⟨us,[]⟩=pure (ps.zip us)):Binds K fd ps []:=fun s us _ hl=>by
  rw [List.append_nil] at hl ⊢;exact .of_eq (h us hl)
def ox (CX:CXT) (X:Cx) (E:XK):Prop:=∀ (pins:List (Addr × Obj)) (σ:St) (H:Hp) (s:Shared) (e:Value) (s':Shared),Inv X pins σ H s→CX X.stack H s E e s'→X.xe e s'
section
variable {X:Cx} {CX:CXT} {k:Nat} {f C:Addr} {fd:FuncData} {ps:List Str} {sp:Sp} {dvs:List V} {ds:List Value} {E:XK} {x m:Str} {p pos apos:Pos} {e o:Expr} {es:List Expr} {ta:TE} {t:TA}
theorem uS {pins:List (Addr × Obj)} {σ:St} {H:Hp} {s:Shared} {Q:VK} {us:List Value} {vs:List V} (F:FnOk X.prog X.w X.K X.mg X.base CX k f fd ps sp) (hr:Room k X.A) (hb:Binds X.K fd ps ds) (hd:Vals dvs ds) (hx:ox CX X E)
    (I:Inv X pins σ H s) (r:Vals vs us) (h:sp (vs++dvs) H Q E):wpAny (model X.prog X.w) X.A (call (.ref f) us) (EP X pins σ Q) X.xe s:=by
  have r2:Vals (vs++dvs) (us++ds):=r.append hd;have hl:(us++ds).length=ps.length:=by rw [← r2.length];exact F.len _ _ _ _ h
  refine wpAny_call (codeAny_mono (F.run X.A X.stack s H ⟨us,[]⟩ (us++ds) (vs++dvs) Q E hr I.env0 (hb s us I.kIn hl) r2 h) fun r s' hq=>?_);cases r with
  | error e=>exact hx pins σ H s e s' I hq
  | ok fl =>
    cases fl with
    | ret u=>exact I.after hq
    | next=>exact acd hq
    | brk=>exact acd hq
    | cont=>exact acd hq
theorem tL (F:FnOk X.prog X.w X.K X.mg X.base CX k f fd ps sp) (hr:Room k X.A) (hg:Gl X x) (hm:X.mg x=some (.ref f)) (hk:abq X.K (.ref f)=true) (hb:Binds X.K fd ps ds) (hd:Vals dvs ds) (hx:ox CX X E)
    (ha:PA X (e :: es) t) (hdb:(x == ("__debug__":Str))=false:=by decide) (he:starEach (e :: es) X.env=(false,eval e X.env) :: starEach es X.env:=by rfl) (hpl:(backTo pos (starEach es X.env)).any (·.1)=false:=by rfl) :
    PE X (.Call (.Name x p) (e :: es) [] pos) (uv sp dvs E t):=by
  intro pins s σ H Q I h;refine wpAny_Call_Name_kw (oY I hg hm ?_ hdb);refine PySem.W.callWith_K (h₀:=X.base) I.ok.mod.kin hk (thn (ha pos pins s σ H _ I h) fun us s1 ⟨vs,H1,I1,r,q⟩=>⟨I1.kIn,?_⟩) he hpl;exact uS F hr hb hd hx I1 r q
structure Mk (K:aaa) (C f:Addr):Prop where
  makes:PySem.W.makesIn K C=true
  init:acJ K (.ref C) "__init__" = some (some (.ref f))
  fn:PySem.W.isFn K (.ref f)=true
  kp:abq K (.ref C)=true
end
section
variable {X:Cx} {CX:CXT} {k:Nat} {f C:Addr} {fd:FuncData} {ps ks:List Str} {sp:Sp} {E:XK} {x m:Str} {p pos apos kpos:Pos} {e o:Expr} {es:List Expr} {kws:List Keyword} {te ta:TE} {t tk:TA} {nm:Option Str}
structure KBinds (K:aaa) (fd:FuncData) (ps ks:List Str) (g:List Value→List Value→List Value) (gV:List V→List V→List V):Prop where
  to:∀ (s:Shared) (us ws:List Value),K.In s.heap→(g us ws).length=ps.length→BindsTo s fd ⟨us,ks.zip ws⟩ (ps.zip (g us ws))
  rel:∀ {vs:List V} {us:List Value} {zs:List V} {ws:List Value},Vals vs us→Vals zs ws→Vals (gV vs zs) (g us ws)
variable {g:List Value→List Value→List Value} {gV:List V→List V→List V}
end
structure FnScope (N P:List Str) (sc:Scope):Prop where
  kind:sc.kind=.function
  co:sc.isCoroutine=false
  gen:sc.isGenerator=false
  nd:N.Nodup
  pre:N.take P.length=P
  par:∀ x∈P,sc.names.lookup x=some .local∨sc.names.lookup x=some .cell
  nofree:∀ y∈sc.names,y.2≠.free
theorem j0 {kindOf:Str→Option NameKind} {x:Str}:∀ {binds:List (Str × Value)} {m:Str→Option Value},(∀ v,(x,v)∉binds)→bindL kindOf binds m x=m x
  | [],_,_=>rfl
  | (n,v) :: r,m,h=>by
    unfold bindL;rw [j0 fun w hw=>h w (aak _ hw)];split
    · have : x≠n:=by rintro rfl;exact h v aat
      simp [this]
    · rfl
theorem ka {kindOf:Str→Option NameKind} {x:Str}:∀ {binds:List (Str × Value)} {m:Str→Option Value},(∀ v,(x,v)∉binds)→bindC kindOf binds m x=m x
  | [],_,_=>rfl
  | (n,v) :: r,m,h=>by
    unfold bindC;rw [ka fun w hw=>h w (aak _ hw)];split
    · rfl
    · have : x≠n:=by rintro rfl;exact h v aat
      simp [this]
theorem j_ {kindOf:Str→Option NameKind} {x:Str} {v:Value}:∀ {P:List Str} {vs:List Value} {i:Nat} {m:Str→Option Value},P.Nodup→P[i]?=some x→vs[i]?=some v→kindOf x=some .local →
    bindL kindOf (P.zip vs) m x=some v
  | [],_,_,_,_,h,_,_=>by simp at h
  | _ :: _,[],_,_,_,_,h,_=>by simp at h
  | p :: P,w :: vs,0,m,nd,h1,h2,hk=>by
    simp at h1 h2;subst h1;subst h2;show bindL kindOf ((p,w) :: P.zip vs) m p=_;unfold bindL;rw [j0 fun v hv=>(aba.mp nd).1 (List.of_mem_zip hv).1,if_pos hk];simp
  | p :: P,w :: vs,i+1,m,nd,h1,h2,hk=>by
    show bindL kindOf ((p,w) :: P.zip vs) m x=_;unfold bindL;exact j_ (i:=i) (aba.mp nd).2 (by simpa using h1) (by simpa using h2) hk
theorem kc {kindOf:Str→Option NameKind} {x:Str} {v:Value}:∀ {P:List Str} {vs:List Value} {i:Nat} {m:Str→Option Value},P.Nodup→P[i]?=some x→vs[i]?=some v→kindOf x≠some .local →
    bindC kindOf (P.zip vs) m x=some v
  | [],_,_,_,_,h,_,_=>by simp at h
  | _ :: _,[],_,_,_,_,h,_=>by simp at h
  | p :: P,w :: vs,0,m,nd,h1,h2,hk=>by
    simp at h1 h2;subst h1;subst h2;show bindC kindOf ((p,w) :: P.zip vs) m p=_;unfold bindC;rw [ka fun v hv=>(aba.mp nd).1 (List.of_mem_zip hv).1,if_neg hk];simp
  | p :: P,w :: vs,i+1,m,nd,h1,h2,hk=>by
    show bindC kindOf ((p,w) :: P.zip vs) m x=_;unfold bindC;exact kc (i:=i) (aba.mp nd).2 (by simpa using h1) (by simpa using h2) hk
def hZ (N:List Str) (vs:List V):St:=vs.map some++aaQ (N.length - vs.length) none
def qD (CX:CXT) (P:Program) (w:World) (K:aaa) (mg:Str→Option Value) (base:Heap) (N:List Str) (qual:Str) (scope:Scope) (f:Addr) (cd:Value) (A:Around) (outer:List Env) (s:Shared) (H:Hp) (E:XK):Cx where
  prog:=P
  w:=w
  K:=K
  mg:=mg
  base:=base
  A:=A.deeper (envOfC qual scope s.heap.objs.size f cd)
  N:=N
  s₀:=s
  H₀:=H
  env:=envOfC qual scope s.heap.objs.size f cd
  outer:=outer
  stack:=envOfC qual scope s.heap.objs.size f cd :: outer
  ex:=[]
  calm:=true
  fn:=fun _=>true
  pn:=[]
  xe:=fun e s'=>wpAny (model P w) (A.deeper (envOfC qual scope s.heap.objs.size f cd)) (leaving (envOfC qual scope s.heap.objs.size f cd) e) (fun _ s''=>CX outer H s E e s'') (fun e' s''=>CX outer H s E e' s'') s'
theorem mM {sc:Scope} {n:Nat} {x:Str} (h:sc.names.lookup x=some .cell):∃ c,(cellsFrom n sc.names []).lookup x=some c:=by
  have q:=PySem.W.cellsFrom_some sc.names n [] (.inl h);exact acp.mp q
theorem qx {CX:CXT} {P:Program} {w:World} {K:aaa} {mg:Str→Option Value} {base:Heap} {N ps:List Str} {qual:Str} {scope:Scope} {f:Addr} {cd:Value} {A:Around} {outer:List Env} {s s1:Shared} {H:Hp} {E:XK} {us:List Value} {vs:List V}
    (S:FnScope N ps scope) (hd:A.handled=none) (e0:Env0 P w K mg base A outer s H) (hl:vs.length=ps.length) (r:Vals vs us)
    (x:InCallC s s.heap.objs.size (bindL (envOfC qual scope s.heap.objs.size f cd).kindOf (ps.zip us) fun _=>none) (cellsFrom (s.heap.objs.size+1) scope.names []) (bindC (envOfC qual scope s.heap.objs.size f cd).kindOf (ps.zip us) fun _=>none) s1) :
    Inv (qD CX P w K mg base N qual scope f cd A outer s H E) [] (hZ N vs) H s1:=by
  have hpl:ps.length≤N.length:=by have:=congrArg acF S.pre;rw [aax] at this;lia
  obtain ⟨h1,tk,rfl,hk⟩:=x.done;have noA:∀ b:Addr,b∉(qD CX P w K mg base N qual scope f cd A outer s H E).ex:=fun b z=>absurd (show b∈([]:List Addr) from z) (by simp);refine ⟨⟨e0.mod,S.kind,rfl,rfl,aah _,fun y z c h1 h2=>?_,fun y hy=>?_,fun y c _ h=>?_,fun _=>hd,Around.frames_deeper e0.frames,.inr ⟨rfl,rfl⟩,fun b z=>absurd z (noA b),e0.bs,e0.bsz,fun b _ _=>noA b,fun b z=>absurd z (noA b),e0.funs,e0.frf⟩,
    rfl,e0.bare,Un.kept hk,⟨_,x.toInCall.ns,fun i y v h1 h2 h3=>?_⟩,fun y c h=>⟨_,x.cell y c h⟩,e0.hok.fresh (aah _),fun y c h=>?_,fun p hp=>absurd (show p∈([]:List (Addr × Obj)) from hp) (by simp),e0.hok.kept hk,?_⟩
  · exact name_of_addr x.apart (abp h1) (abp h2)
  · have hy:scope.names.lookup y=some .cell∨scope.names.lookup y=some .free:=hy;rcases hy with hy|hy
    · exact mM hy
    · exact absurd rfl (S.nofree _ (abp hy))
  · exact abz (x.above y c (abp h))
  · have hi:i < vs.length:=by
      unfold hZ at h2;by_cases hi:i < vs.length
      · exact hi
      · rw [List.getElem?_append_right (by simpa using hi)] at h2;rw [List.getElem?_replicate] at h2;split at h2 <;> cases h2
    have ha:vs[i]?=some v:=by
      unfold hZ at h2;rw [abM (by simpa using hi),aao] at h2;cases e:vs[i]? with
      | none=>rw [e] at h2;cases h2
      | some a=>rw [e] at h2;cases h2;rfl
    obtain ⟨u,hu,rv⟩:=r.get ha;have hp:ps[i]?=some y:=by
      rw [← S.pre,List.getElem?_take_of_lt (by lia)];exact h1
    have ndP:ps.Nodup:=by rw [← S.pre];exact S.nd.sublist (List.take_sublist _ _)
    refine ⟨u,rv,?_⟩;rcases S.par y (aas hp) with k|k
    · exact .inl ⟨k,j_ ndP hp hu k⟩
    · obtain ⟨c,e⟩:=mM (n:=s.heap.objs.size+1) k;refine .inr ⟨.inl k,c,e,?_⟩;have q:=x.cell y c e;rw [kc ndP hp hu (by show scope.names.lookup y≠_;rw [k];decide)] at q;exact q
  · exact e0.hok.fresh (abz (x.above y c (abp h)))
  · unfold hZ;show _=N.length;rw [aaj,aab,List.length_replicate];lia
theorem xl {CX:CXT} {P:Program} {w:World} {K:aaa} {mg:Str→Option Value} {base:Heap} {k:Nat} {f:Addr} {name qual:Str} {params:Arguments} {body:List Stmt} {scope:Scope} {dV kV doc pm cdv ct oc:Value} {an od:Option Addr}
    {osl:Array (Option Value)} {N ps:List Str} {sp:Sp} (lk:K.lookup f=some ⟨oc,od,.func (abw name qual params body scope dV kV doc pm an cdv ct),osl⟩) (hcd:ab1 K cdv qual=true) (S:FnScope N ps scope)
    (len:∀ vs H Q E,sp vs H Q E→vs.length=ps.length)
    (hbody:∀ (A:Around) (outer:List Env) (s:Shared) (H:Hp) (vs:List V) (Q:VK) (E:XK),Room k (A.deeper (envOfC qual scope s.heap.objs.size f cdv))→sp vs H Q E →
      ∃ t,PSs (qD CX P w K mg base N qual scope f cdv A outer s H E) body t∧t { nx:=fun _ H'=>Q .non H',rt:=Q } (hZ N vs) H) :
    FnOk P w K mg base CX (k+1) f (abw name qual params body scope dV kV doc pm an cdv ct) ps sp:=by
  refine ⟨len,fun A outer s H args us vs Q E hr e0 hb r hsp=>?_⟩;have hl:=len _ _ _ _ hsp;have KX:K.In s.heap:=e0.mod.kin.keeps fun b o e=>(e0.bs b o e).1;have lim:s.heap.NoLimit:=e0.mod.nolimit.keeps fun b o e=>(e0.bs b o e).1;have hkind:∀ y∈ps.zip us,scope.names.lookup y.1=some .local∨(scope.names.lookup y.1=some .cell∧((cellsFrom (s.heap.objs.size+1) scope.names []).lookup y.1).isSome=true):=fun ⟨n,v⟩ hy=>by
    rcases S.par n (List.of_mem_zip hy).1 with q|q
    · exact .inl q
    · exact .inr ⟨q,PySem.W.cellsFrom_some _ _ _ (.inl q)⟩
  refine codeAny_call_function hr.depth (KX _ _ lk) rfl S.co S.gen rfl (PySem.W.codeRec_of KX hcd) (hb _ _ _ _ ?_);refine wpAny_newFunctionEnv_cells S.kind hkind fun env he s1 x=>?_;subst he;refine ⟨lim.keeps x.toInCall.keep,codeAny_func ?_⟩;obtain ⟨t,ht,hq⟩:=hbody A outer s H vs Q E (hr.deeper _) hsp;have I:Inv (qD CX P w K mg base N qual scope f cdv A outer s H E) [] (hZ N vs) H s1:=qx S hr.hd e0 hl r x;refine wpAny_mono (ht [] s1 (hZ N vs) H _ I hq) (fun fl s' hs=>?_) fun e s' hs=>hs;have fin:∀ {σ':St} {H':Hp} {v:V} {u:Value},Inv (qD CX P w K mg base N qual scope f cdv A outer s H E) [] σ' H' s'→RelV v u→Q v H'→CE outer P w H s Q u s' :=
    fun {σ' H' v u} J rv q=>⟨v,H',J.os,J.bare,J.base,J.hok,rv,q⟩
  cases fl with
  | ret u =>
    obtain ⟨v,σ',H',J,rv,q⟩:=hs;exact fin J rv q
  | next =>
    obtain ⟨σ',H',J,q⟩:=hs;exact fin (v:=V.non) (u:=Value.none) J rfl q
  | brk =>
    obtain ⟨_,_,_,q⟩:=hs;exact acd q
  | cont =>
    obtain ⟨_,_,_,q⟩:=hs;exact acd q
open PySem PySem.Spec PyProof.Rows
section
variable {X:Cx} {x:Str} {p pos:Pos} {e:Expr} {es:List Expr} {t:TA} {id T:String} {r:List V→Hp→VK→Prop}
def tCB (r:List V→Hp→VK→Prop) (t:TA):TE:=fun σ H Q=>t σ H fun vs H1=>r vs H1 Q
theorem ak (hc:bQ X (.builtin id) r) (hg:Gl X x) (hm:X.mg x=none) (hv:bootBuiltins x=some (.builtin id)) (ha:PA X (e :: es) t) (hn:x ≠ "__name__":=by decide) (hdb:(x == ("__debug__":Str))=false:=by decide)
    (he:starEach (e :: es) X.env=(false,eval e X.env) :: starEach es X.env:=by rfl) (hpl:(backTo pos (starEach es X.env)).any (·.1)=false:=by rfl):PE X (.Call (.Name x p) (e :: es) [] pos) (tCB r t):=by
  intro pins s σ H Q I h;refine wpAny_Call_Name_kw (fq I hg hm hv ?_ hn hdb);exact PyProof.Rows.callWith_builtin1 (thn (ha pos pins s σ H _ I h) fun us s1 ⟨vs,H1,I1,r1,q1⟩=>hc pins s1 σ H1 vs us Q I1 r1 q1) he hpl
theorem bo (hc:bQ X (.type T) r) (hg:Gl X x) (hm:X.mg x=none) (hv:bootBuiltins x=some (.type T)) (ha:PA X (e :: es) t) (hn:x ≠ "__name__":=by decide) (hdb:(x == ("__debug__":Str))=false:=by decide)
    (he:starEach (e :: es) X.env=(false,eval e X.env) :: starEach es X.env:=by rfl) (hpl:(backTo pos (starEach es X.env)).any (·.1)=false:=by rfl):PE X (.Call (.Name x p) (e :: es) [] pos) (tCB r t):=by
  intro pins s σ H Q I h;refine wpAny_Call_Name_kw (fq I hg hm hv ?_ hn hdb);exact abb (thn (ha pos pins s σ H _ I h) fun us s1 ⟨vs,H1,I1,r1,q1⟩=>hc pins s1 σ H1 vs us Q I1 r1 q1) he hpl
end
end L2
namespace HT
open PySem PyProof.Rows
section
open PySem.SeqAt
open PySem.AutoSeq1 (wpAny_loadPart')
open PySem.MeetsSeq PySem.MeetsSeq2 PySem.MeetsSeq3
end
section
variable {prog:Program} {w:World} {A:Around} {E:Value→Shared→Prop} {s:Shared}
theorem cat_tup {t b:Addr} {vs ws:List Value} {Q:Value→Shared→Prop} (ht:IsTup s.heap t vs.toArray) (hb:IsTup s.heap b ws.toArray) (hv:vs≠[])
    (h1:ws=[]→Q (.ref t) s) (h2:ws≠[]→Q (.ref s.heap.objs.size) { s with heap:=s.heap.push { cls:=.type "tuple",data:=.seq (vs++ws).toArray } })
    (hsz:vs.length+ws.length≤sizeLine):wpAny (model prog w) A (binaryOp .Add (.ref t) (.ref b)) Q E s:=by
  obtain ⟨⟨cls,dd,data,sl⟩,ho,hc,n,hd⟩:=id ht;obtain ⟨⟨cls2,dd2,data2,sl2⟩,ho2,hc2,n2,hd2⟩:=id hb;simp only at hc hd hc2 hd2;subst hc hd hc2 hd2;have e:vs.toArray++ws.toArray=(vs++ws).toArray:=by simp
  by_cases hw:ws=[]
  · exact concat_meets ⟨_,ho,rfl⟩ ⟨_,ho2,rfl⟩ noFill_tuple_add seq_tuple_add PySem.F.slot_tuple_add PySem.F.entry_tuple_add (PySem.F.args_tuple_add_2 _ _)
      (tuple_addW1 t b vs.toArray ws.toArray n n2 dd dd2 sl sl2 (by simpa using hv) (by simp [hw])) ⟨ho,ho2,h1 hw⟩
  · refine concat_meets ⟨_,ho,rfl⟩ ⟨_,ho2,rfl⟩ noFill_tuple_add seq_tuple_add PySem.F.slot_tuple_add PySem.F.entry_tuple_add (PySem.F.args_tuple_add_2 _ _)
      (tuple_addW2 t b vs.toArray ws.toArray n n2 dd dd2 sl sl2 (by simpa using hv) (by simpa using hw) (by rw [aag,aag];exact hsz)) ⟨ho,ho2,?_⟩
    rw [e];exact h2 hw
def sIx (n d:Nat):Option Int→Nat
  | none=>d
  | some v=>if v < 0 then (v+(n:Int)).toNat else min v.toNat n
theorem uR (n d:Nat) (hd:d≤n) (o:Option Int):sIx n d o≤n:=by
  cases o with
  | none=>exact hd
  | some v =>
    show (if v < 0 then (v+(n:Int)).toNat else min v.toNat n)≤n;by_cases hv:v < 0
    · rw [if_pos hv];lia
    · rw [if_neg hv];exact Nat.min_le_right _ _
theorem pK (v:Int) (n d:Nat):(if v < 0 then max (v+(n:Int)) 0 else min v (n:Int))=((sIx n d (some v):Nat):Int):=by
  show (if v < 0 then max (v+(n:Int)) 0 else min v (n:Int))=(((if v < 0 then (v+(n:Int)).toNat else min v.toNat n):Nat):Int)
  by_cases hv:v < 0
  · simp only [if_pos hv];lia
  · simp only [if_neg hv];lia
theorem ow (lo hi:Option Int) (n:Nat):aci lo hi 1 (n:Int)=(((sIx n 0 lo:Nat):Int),((sIx n n hi:Nat):Int)):=by
  have h1:¬ ((1:Int) < 0):=by lia
  unfold aci;simp only [h1,if_false];refine Prod.ext ?_ ?_
  · cases lo with
    | none=>rfl
    | some v=>exact pK v n 0
  · cases hi with
    | none=>rfl
    | some v=>exact pK v n n
theorem nB (i j:Nat):abK (i:Int) (j:Int) 1=j - i:=by
  unfold abK;have h1:(1:Int) > 0:=by lia
  simp only [h1,if_true,Int.ediv_one];split <;> lia
theorem iM {v:Value} {o:Option Int} {Q:Option Int→Shared→Prop} (p:IsPart v o) (h:Q o s):wpAny (model prog w) A (Builtin.Slice.slicePartIndex v) Q E s:=by
  cases p with
  | none=>exact slicePart_none h
  | int i t=>exact slicePart_int h
theorem gL {sl:Addr} {vl vu:Value} {lo hi:Option Int} {n:Nat} {Q:Int × Int × Nat→Shared→Prop} (hs:s.heap.IsSliceOf sl vl vu .none) (pl:IsPart vl lo) (pu:IsPart vu hi)
    (h:Q (((sIx n 0 lo:Nat):Int),1,sIx n n hi - sIx n 0 lo) s):wpAny (model prog w) A (Builtin.Slice.sliceApplied (.ref sl) (pure (n:Int))) Q E s:=by
  obtain ⟨os,hos,hcs,hds⟩:=id hs;unfold Builtin.Slice.sliceApplied Builtin.Slice.sliceFields;refine wpAny_bind (wpAny_bind (wpAny_field hos hds (x:=vl) rfl (wpAny_bind (wpAny_field hos hds (x:=vu) rfl (wpAny_bind (wpAny_field hos hds (x:=.none) rfl (wpAny_pure ?_)))))));refine wpAny_bind (slicePart_none ?_);show wpAny _ _ (if ((1:Int) == 0)=true then _ else _) _ _ s;rw [if_neg (by decide)];refine wpAny_bind (iM pl (wpAny_bind (iM pu (wpAny_bind (wpAny_pure ?_)))));show wpAny _ _ (match aci lo hi 1 (n:Int) with|(lo,hi)=>pure (lo,(1:Int),abK lo hi 1)) _ _ s;rw [ow lo hi n];show wpAny _ _ (pure (((sIx n 0 lo:Nat):Int),(1:Int),abK ((sIx n 0 lo:Nat):Int) ((sIx n n hi:Nat):Int) 1)) _ _ s;rw [nB];exact wpAny_pure h
theorem rm (xs:Array Value) (i k:Nat):((aa0 k).filterMap fun (m:Nat)=>xs[((i:Int)+(m:Int) * 1).toNat]?).toArray=((xs.toList.drop i).take k).toArray:=by
  have e:(fun (m:Nat)=>xs[((i:Int)+(m:Int) * 1).toNat]?)=fun m=>xs[i+m]?:=by
    funext m;have : ((i:Int)+(m:Int) * 1).toNat=i+m:=by lia
    rw [this]
  rw [e];have:=pick_run xs i k;rw [List.filterMap_map] at this;have e2:((fun x=>xs[x]?) ∘ fun x=>i+x)=fun m=>xs[i+m]?:=rfl;rw [e2] at this;rw [this]
theorem getItem_tuple_cut {t sl:Addr} {items:Array Value} {vl vu:Value} {lo hi:Option Int} {Q:Value→Shared→Prop} (ht:IsTup s.heap t items) (hs:s.heap.IsSliceOf sl vl vu .none) (pl:IsPart vl lo) (pu:IsPart vu hi)
    (hw:¬ (sIx items.size 0 lo=0∧sIx items.size items.size hi=items.size))
    (h:Q (.ref s.heap.objs.size) { s with heap:=s.heap.push { cls:=.type "tuple",data:=.seq ((items.toList.drop (sIx items.size 0 lo)).take (sIx items.size items.size hi - sIx items.size 0 lo)).toArray } })
    (hsz:items.size≤sizeLine):wpAny (model prog w) A (getItem (.ref t) (.ref sl)) Q E s:=by
  have htake:sizeOk (.seq ((items.toList.drop (sIx items.size 0 lo)).take (sIx items.size items.size hi - sIx items.size 0 lo)).toArray):=by
    show ((items.toList.drop (sIx items.size 0 lo)).take (sIx items.size items.size hi - sIx items.size 0 lo)).toArray.size≤sizeLine;rw [aag,aax,abf,aa8];lia
  have hj:sIx items.size items.size hi≤items.size:=uR _ _ (aah _) hi;obtain ⟨os,hos,hcs,hds⟩:=id hs;have hTs:s.TypeIs (.ref sl) "slice":=⟨os,hos,hcs⟩
  unfold getItem
  try with_reducible refine wpAny_holding ?_
  first|refine wpAny_bind (wpAny_pure ?_)|skip
  refine wpAny_bind (wpAny_sequenceKey ht.typeIs (by decide) ?_);refine wpAny_bind (wpAny_callSpecial?_slot (name:=abi "__getitem__") ht.typeIs acG
    (wpAny_call_entry acG ht.typeIs entry_tuple_getitem ?_ (args_tuple_getitem _ _)))
  show wpAny _ _ (Builtin.Tuple.tupleItemsOf (.ref t) >>= _) _ _ s;refine wpAny_bind (tupleItemsOf_ ht ?_);refine wpAny_bind (wpAny_typeOf hTs ?_);rw [if_pos (by decide)];refine wpAny_bind (gL hs pl pu ?_);have hno:¬ ((((sIx items.size 0 lo:Nat):Int) == 0 && (1:Int) == 1 && (sIx items.size items.size hi - sIx items.size 0 lo) == items.size)=true):=by
    intro q;rw [aaS,aaS] at q;have q1:((sIx items.size 0 lo:Nat):Int)=0:=eq_of_beq q.1.1;have q2:sIx items.size items.size hi - sIx items.size 0 lo=items.size:=eq_of_beq q.2;exact hw ⟨by lia,by lia⟩
  show wpAny _ _ (if (((sIx items.size 0 lo:Nat):Int) == 0 && (1:Int) == 1 && (sIx items.size items.size hi - sIx items.size 0 lo) == items.size)=true then _ else _) _ _ s;rw [if_neg hno,rm]
  first
    | exact wpAny_bind (m:=abP _) (wpAny_newObj_type (wpAny_pure ⟨_,rfl,wpAny_pure h⟩) htake)
    | exact wpAny_bind (m:=abP _) (wpAny_newObj_type (wpAny_bind (wpAny_pure (wpAny_pure ⟨_,rfl,wpAny_pure h⟩))) htake)
    | exact wpAny_bind (wpAny_bind (m:=abP _) (wpAny_newObj_type (wpAny_pure (wpAny_pure ⟨_,rfl,wpAny_pure h⟩)) htake))
    | exact wpAny_bind (wpAny_bind (m:=abP _) (wpAny_newObj_type (wpAny_pure ⟨_,rfl,wpAny_pure h⟩) htake))
end
end HT
namespace L2
open PySem PySem.Spec PyProof.Rows
abbrev TO:=St→Hp→(Option Int→Hp→Prop)→Prop
def PO (X:Cx) (e:Option Expr) (t:TO):Prop :=
  ∀ (pins:List (Addr × Obj)) (s:Shared) (σ:St) (H:Hp) (Q:Option Int→Hp→Prop),Inv X pins σ H s→t σ H Q →
    wpAny (model X.prog X.w) X.A (evalPart e X.env) (fun u s'=>∃ o H',Inv X pins σ H' s'∧IsPart u o∧Q o H') X.xe s
def s_:TO:=fun _ H Q=>Q none H
def v6 (t:TE):TO:=fun σ H Q=>t σ H fun x H1=>∃ i,x=.int i∧Q (some i) H1
section
variable {X:Cx} {e:Expr} {te:TE} {lo hi:Option Expr} {tl th:TO} {pos p2:Pos}
theorem eI:PO X none s_:=by
  intro pins s σ H Q I h;rw [evalPart_none];exact wpAny_pure ⟨none,H,I,.none,h⟩
theorem eF (h:PE X e te):PO X (some e) (v6 te):=by
  intro pins s σ H Q I hw;rw [evalPart_some];refine thn (h pins s σ H _ I hw) fun u s1 ⟨x,H1,I1,r1,q1⟩=>?_;obtain ⟨i,rfl,q⟩:=q1;obtain ⟨t,rfl⟩:=r1;exact ⟨some i,H1,I1,.int i t,q⟩
def SlR (X:Cx) (r:V→Option Int→Option Int→Hp→VK→Prop):Prop :=
  ∀ (pins:List (Addr × Obj)) (s:Shared) (σ:St) (H:Hp) (x:V) (v vl vu:Value) (lo hi:Option Int) (sl:Addr) (Q:VK),Inv X pins σ H s→RelV x v→s.heap.IsSliceOf sl vl vu .none→IsPart vl lo→IsPart vu hi→r x lo hi H Q →
    ∃ T id,typeLookup (.type T) "__getitem__" = pure (some (.builtin id))∧s.TypeIs v T∧wpAny (model X.prog X.w) X.A (getItem v (.ref sl)) (EP X pins σ Q) X.xe s
def tSl (r:V→Option Int→Option Int→Hp→VK→Prop) (te:TE) (tl th:TO):TE:=fun σ H Q=>te σ H fun x H1=>tl σ H1 fun l H2=>th σ H2 fun u H3=>r x l u H3 Q
theorem dj {r:V→Option Int→Option Int→Hp→VK→Prop} (hr:SlR X r) (he:PE X e te) (hl:PO X lo tl) (hu:PO X hi th):PE X (.Subscript e (.Slice lo hi none p2) pos) (tSl r te tl th):=by
  intro pins s σ H Q I h;refine Subscript_ (thn (he pins s σ H _ I h) fun v s1 ⟨x,H1,I1,r1,q1⟩=>?_);refine wpAny_Slice (thn (hl pins s1 σ H1 _ I1 q1) fun vl s2 ⟨l,H2,I2,pl,q2⟩=>thn (hu pins s2 σ H2 _ I2 q2) fun vu s3 ⟨u,H3,I3,pu,q3⟩=>?_);rw [evalPart_none];refine wpAny_pure ?_;have I4:Inv X pins σ H3 { s3 with heap:=s3.heap.push { cls:=.type "slice",data:=.fields #[vl,vu,.none] } }:=I3.kept (t':=s3.toks) fun b ob q=>aaf _ q;obtain ⟨T,id,hT,ht,hg⟩:=hr pins { s3 with heap:=s3.heap.push { cls:=.type "slice",data:=.fields #[vl,vu,.none] } } σ H3 x v vl vu l u s3.heap.objs.size Q I4 r1 (Heap.IsSliceOf.new ..) pl pu q3;show wpAny (model X.prog X.w) X.A (subscriptTail e (.Slice lo hi none p2) v (.ref s3.heap.objs.size)) (EP X pins σ Q) X.xe { s3 with heap:=s3.heap.push { cls:=.type "slice",data:=.fields #[vl,vu,.none] } };exact tail_any (ops:=[.ref s3.heap.objs.size,v]) ht hT hg (by with_unfolding_all rfl)
def fw (xs:List V) (lo hi:Option Int):List V:=(xs.drop (HT.sIx xs.length 0 lo)).take (HT.sIx xs.length xs.length hi - HT.sIx xs.length 0 lo)
theorem ik (xs:List V) (lo hi:Option Int):(fw xs lo hi).length≤xs.length:=by
  unfold fw;rw [aax,abf];lia
def xO (K:aaa):V→Option Int→Option Int→Hp→VK→Prop:=fun x lo hi H Q=>∃ a xs,x=.ref a∧SqT K H a xs ∧
  ¬ (HT.sIx xs.length 0 lo=0∧HT.sIx xs.length xs.length hi=xs.length)∧∀ p,H p=none→Q (.ref p) (upd H p (.tup (fw xs lo hi)))
theorem qW:SlR X (xO X.K):=by
  intro pins s σ H x v vl vu lo hi sl Q I rx hs pl pu h;obtain ⟨a,xs,rfl,hx,hw,q⟩:=h;cases rx;obtain ⟨its,r,ht,hz⟩:=I.tuple hx;have hlen:its.toArray.size=xs.length:=by rw [aag];exact r.length.symm
  refine ⟨"tuple",_,PyProof.Rows.slot_tuple_getitem.lookup,ht.typeIs,?_⟩;refine HT.getItem_tuple_cut ht hs pl pu (by rw [hlen];exact hw) ?_ (by rw [hlen];exact hz);rw [hlen];refine ⟨.ref s.heap.objs.size,_,I.laid (t':=s.toks) (o:=.tup (fw xs lo hi)) (fun b ob q=>aaf _ q) (aah _) ?_,rfl,q _ (I.hok.fresh (aah _))⟩;exact ⟨aaE (ik xs lo hi) hz,_,(r.drop (HT.sIx xs.length 0 lo)).take (HT.sIx xs.length xs.length hi - HT.sIx xs.length 0 lo),IsTup.new _ _⟩
def wJ (K:aaa):R2:=fun x y H Q=>∃ a b xs ys,x=.ref a∧y=.ref b∧SqT K H a xs∧SqT K H b ys∧xs≠[]∧xs.length+ys.length≤sizeLine ∧
  (ys=[]→Q (.ref a) H)∧(ys≠[]→∀ p,H p=none→Q (.ref p) (upd H p (.tup (xs++ys))))
theorem Vals.nil_iff {xs:List V} {us:List Value} (r:Vals xs us):us=[]↔xs=[]:=by
  cases r with
  | nil=>simp
  | cons _ _=>simp
theorem oS:OpR X (binaryOp .Add) (wJ X.K):=by
  intro pins s σ H x y v u Q I rx ry h;obtain ⟨a,b,xs,ys,rfl,rfl,ha,hb,hx,hz,q1,q2⟩:=h;cases rx;cases ry;obtain ⟨its,r1,p1,_⟩:=I.tuple ha;obtain ⟨its2,r2,p2,_⟩:=I.tuple hb;refine HT.cat_tup p1 p2 (fun z=>hx (r1.nil_iff.mp z)) (fun z=>⟨.ref a,H,I,rfl,q1 (r2.nil_iff.mp z)⟩) (fun z=>?_) (by rw [← r1.length,← r2.length];exact hz);refine ⟨.ref s.heap.objs.size,_,I.laid (t':=s.toks) (o:=.tup (xs++ys)) (fun b ob q=>aaf _ q) (aah _) ?_,rfl,q2 (fun w=>z (r2.nil_iff.mpr w)) _ (I.hok.fresh (aah _))⟩;exact ⟨by rw [aaj];exact hz,_,r1.append r2,IsTup.new _ _⟩
end
open PySem PySem.Spec PyProof.Rows
def ixN (n:Nat) (i:Int):Option Nat:=if 0≤i then (if i < n then some i.toNat else none) else if -(n:Int)≤i then some (i+n).toNat else none
def atI {α:Type} (xs:List α) (i:Int):Option α:=(ixN xs.length i).bind fun j=>xs[j]?
theorem o0 {n:Nat} {i:Int} {j:Nat} (h:ixN n i=some j):seqIndex? i n=some j∧j < n∧-(n:Int)≤i∧i < n:=by
  unfold ixN at h;by_cases h0:0≤i
  · rw [if_pos h0] at h;by_cases h1:i < n
    · rw [if_pos h1] at h;have e:i.toNat=j:=aal h;exact ⟨by rw [seqIndex_of h0 h1,e],by lia,by lia,h1⟩
    · rw [if_neg h1] at h;cases h
  · rw [if_neg h0] at h;by_cases h1:-(n:Int)≤i
    · rw [if_pos h1] at h;have e:(i+n).toNat=j:=aal h;exact ⟨by rw [seqIndex_neg (by lia) h1,e],by lia,h1,by lia⟩
    · rw [if_neg h1] at h;cases h
theorem pQ {α:Type} {xs:List α} {i:Int} {v:α} (h:atI xs i=some v):∃ j,seqIndex? i xs.length=some j∧xs[j]?=some v∧j < xs.length∧-(xs.length:Int)≤i∧i < xs.length:=by
  unfold atI at h;cases e:ixN xs.length i with
  | none=>rw [e] at h;cases h
  | some j =>
    rw [e] at h;obtain ⟨h1,h2,h3,h4⟩:=o0 e;exact ⟨j,h1,h,h2,h3,h4⟩
theorem cG {α:Type} {xs:List α} {j:Nat} {v:α} (h:xs[j]?=some v):atI xs (j:Int)=some v:=by
  have hj:j < xs.length:=(aaT.mp h).1;have e:ixN xs.length (j:Int)=some j:=by
    unfold ixN;rw [if_pos (by lia),if_pos (by lia)];simp
  unfold atI;rw [e];exact h
def uq (b:Expr):Prop:=∀ o i,subscripted b false o i=operate [o,i] (getItem o i)
def IxR (X:Cx) (r:R2):Prop :=
  ∀ (value slice:Expr) (pins:List (Addr × Obj)) (s:Shared) (σ:St) (H:Hp) (x y:V) (v u:Value) (Q:VK),Inv X pins σ H s→RelV x v→RelV y u→r x y H Q →
    subscripted slice false v u=operate [v,u] (getItem v u)→wpAny (model X.prog X.w) X.A (subscriptTail value slice v u) (EP X pins σ Q) X.xe s
def MtR (X:Cx) (id:String) (r:V→List V→Hp→VK→Prop):Prop :=
  ∀ (pins:List (Addr × Obj)) (s:Shared) (σ:St) (H:Hp) (x:V) (xs:List V) (v:Value) (us:List Value) (Q:VK),Inv X pins σ H s→RelV x v→Vals xs us→r x xs H Q →
    wpAny (model X.prog X.w) X.A (call (.builtin id) (v :: us)) (EP X pins σ Q) X.xe s
section
variable {X:Cx} {a b:Expr} {ta tb:TE} {pos:Pos}
theorem aM {r:R2} (hr:IxR X r) (ha:PE X a ta) (hb:PE X b tb) (hs:uq b):PE X (.Subscript a b pos) (tOp r ta tb):=by
  intro pins s σ H Q I h;exact Subscript_ (vN ha hb I h fun v u s2 x y H2 I2 rx ry q=>hr a b pins s2 σ H2 x y v u Q I2 rx ry q (hs _ _))
def wH (K:aaa):R2:=fun x y H Q=>∃ p xs i v,x=.ref p∧y=.int i∧SqL K H p xs∧atI xs i=some v∧Q v H
def xS (K:aaa):R2:=fun x y H Q=>∃ p xs i v,x=.ref p∧y=.int i∧SqT K H p xs∧atI xs i=some v∧Q v H
theorem aQ:IxR X (wH X.K):=by
  intro value slice pins s σ H x y v u Q I rx ry h hs;obtain ⟨p,xs,i,z,rfl,rfl,hq,he,q⟩:=h;cases rx;obtain ⟨t,rfl⟩:=ry;obtain ⟨its,r,pl,hz⟩:=I.list hq;obtain ⟨j,h1,h2,h3,h4,h5⟩:=pQ he;obtain ⟨w,ew,rw'⟩:=r.get h2;have hl:=r.length;have hn:=g8;have fin:EP X pins σ Q w s:=⟨z,H,I,rw',q⟩
  by_cases h0:0≤i
  · have hj:i.toNat=j:=by
      rw [seqIndex_of h0 h5] at h1;exact aal h1
    exact item_listR pl.isList h0 (by lia) (by rw [hj];simpa using ew) fin hs
  · have hj:(i+(its.toArray.size:Int)).toNat=j:=by
      rw [seqIndex_neg (by lia) h4] at h1;rw [aag,← hl];exact aal h1
    exact subscriptTail_builtinR (x:=w) pl.isList.typeIs slot_list_getitem.lookup
      (wpAny_getItem_list_neg (Q:=fun r s'=>r=w∧EP X pins σ Q r s') pl.isList (by lia) (by rw [aag] <;> lia) (by lia) (by rw [hj];simpa using ew) ⟨rfl,fin⟩) hs
theorem bP:IxR X (xS X.K):=by
  intro value slice pins s σ H x y v u Q I rx ry h hs;obtain ⟨p,xs,i,z,rfl,rfl,hq,he,q⟩:=h;cases rx;obtain ⟨t,rfl⟩:=ry;obtain ⟨its,r,pl,hz⟩:=I.tuple hq;obtain ⟨j,h1,h2,h3,h4,h5⟩:=pQ he;obtain ⟨w,ew,rw'⟩:=r.get h2;have hl:=r.length;have hn:=g8;have fin:EP X pins σ Q w s:=⟨z,H,I,rw',q⟩
  exact subscriptTail_builtinR (x:=w) pl.typeIs slot_tuple_getitem.lookup
    (getItem_tuple (j:=j) (Q:=fun r s'=>r=w∧EP X pins σ Q r s') pl (by lia) (by lia) (by rw [aag,← hl];exact h1) (by simpa using ew) ⟨rfl,fin⟩) hs
theorem nT (its:List Value) (n j:Nat) (u:Value):Obj.mapSeq (·.setIfInBounds j u) { cls:=.type "list",data:=.seq its.toArray n }={ cls:=.type "list",data:=.seq (its.set j u).toArray n }:=by
  simp [Obj.mapSeq]
theorem Inv.lst {pins:List (Addr × Obj)} {σ:St} {H:Hp} {s:Shared} {p:Addr} {xs:List V} (I:Inv X pins σ H s) (h:H p=some (.lst xs)) :
    ∃ (its:List Value) (n:Nat),Vals xs its∧s.heap.get? p=some { cls:=.type "list",data:=.seq its.toArray n }∧xs.length≤sizeLine:=by
  obtain ⟨z,its,n,r,e⟩:=I.hok p _ h;exact ⟨its,n,r,e,z⟩
theorem Inv.lstUpd {pins:List (Addr × Obj)} {σ:St} {H:Hp} {s:Shared} {p:Addr} {xs ys:List V} {its its':List Value} {n n':Nat} {f:Obj→Obj} (I:Inv X pins σ H s) (h:H p=some (.lst xs))
    (ho:s.heap.get? p=some { cls:=.type "list",data:=.seq its.toArray n }) (hf:f { cls:=.type "list",data:=.seq its.toArray n }={ cls:=.type "list",data:=.seq its'.toArray n' }) (r:Vals ys its') (hz:ys.length≤sizeLine) (t:Nat) :
    Inv X pins σ (upd H p (.lst ys)) { s with heap:=s.heap.update p f,toks:=t }:=by
  have e:(s.heap.update p f).get? p=some { cls:=.type "list",data:=.seq its'.toArray n' }:=by
    rw [abh f ho (by rw [hf] <;> rfl),hf]
  refine I.write (x:=p) (e:=p) (by rw [h];trivial) (.inl rfl) (fun b u hb q=>(Heap.get?_update_other _ _ (abS hb)).trans q) ⟨_,e⟩ ?_;exact ⟨hz,its',n',r,e⟩
def wG:V→V→V→Hp→(Hp→Prop)→Prop:=fun o i v H Q=>∃ p xs k j,o=.ref p∧i=.int k∧H p=some (.lst xs)∧ixN xs.length k=some j∧Q (upd H p (.lst (xs.set j v)))
theorem lI:vP X wG:=by
  intro pins s σ H o i v ov iv u Q I ro ri rv h;obtain ⟨p,xs,k,j,rfl,rfl,hp,hj,q⟩:=h;cases ro;obtain ⟨t,rfl⟩:=ri;obtain ⟨its,n,r,ho,hz⟩:=I.lst hp;obtain ⟨h1,h2,h3,h4⟩:=o0 hj;have hl:=r.length;have hn:=g8;have I':Inv X pins σ (upd H p (.lst (xs.set j v))) { s with heap:=s.heap.update p (Obj.mapSeq (·.setIfInBounds j u)) } :=
    I.lstUpd hp ho (nT its n j u) (r.set rv j) (by rw [List.length_set];exact hz) s.toks
  by_cases h0:0≤k
  · have hk:k.toNat=j:=by
      rw [seqIndex_of h0 h4] at h1;exact aal h1
    exact PySem.W.ki_setAt ho h0 (by lia) (by rw [aag,← hl];exact h4) (by rw [hk];exact ⟨_,I',q⟩)
  · have hk:(k+(its.toArray.size:Int)).toNat=j:=by
      rw [seqIndex_neg (by lia) h3] at h1;rw [aag,← hl];exact aal h1
    exact PySem.W.ki_setBack ho (by lia) (by rw [aag,← hl];exact h3) (by lia) (by rw [hk];exact ⟨_,I',q⟩)
theorem kw (lo hi:Option Int) (n:Nat):(sliceBounds lo hi none n).1=((HT.sIx n 0 lo:Nat):Int)∧(sliceBounds lo hi none n).2.1=((HT.sIx n n hi:Nat):Int)∧(sliceBounds lo hi none n).2.2=1:=by
  refine ⟨?_,?_,rfl⟩
  · cases lo with
    | none=>simp [sliceBounds,HT.sIx]
    | some i =>
      simp only [sliceBounds,HT.sIx,Option.getD_none,show (1:Int) > 0 by decide,if_true];by_cases h:i < 0
      · simp only [h,if_true] <;> lia
      · simp only [h,if_false] <;> lia
  · cases hi with
    | none=>simp [sliceBounds,HT.sIx]
    | some i =>
      simp only [sliceBounds,HT.sIx,Option.getD_none,show (1:Int) > 0 by decide,if_true];by_cases h:i < 0
      · simp only [h,if_true] <;> lia
      · simp only [h,if_false] <;> lia
theorem jw (its:List Value) (lo hi:Option Int):slicePick its.toArray lo hi none=((its.drop (HT.sIx its.length 0 lo)).take (HT.sIx its.length its.length hi - HT.sIx its.length 0 lo)).toArray:=by
  obtain ⟨h1,h2,h3⟩:=kw lo hi its.toArray.size;unfold slicePick;rw [h1,h2,h3];simp only [sliceRange_one,pick_run,aag] <;> rfl
def xP (K:aaa):V→Option Int→Option Int→Hp→VK→Prop:=fun x lo hi H Q=>∃ a xs,x=.ref a∧SqL K H a xs∧∀ p,H p=none→Q (.ref p) (upd H p (.lst (fw xs lo hi)))
theorem ge:SlR X (xP X.K):=by
  intro pins s σ H x v vl vu lo hi sl Q I rx hs pl pu h;obtain ⟨a,xs,rfl,hx,q⟩:=h;cases rx;obtain ⟨its,r,ht,hz⟩:=I.list hx;have hlen:=r.length;refine ⟨"list",_,slot_list_getitem.lookup,ht.isList.typeIs,?_⟩;refine wpAny_getItem_list_slice ht.isList hs pl pu .none (by simp) ?_ (by rw [aag] <;> lia);rw [jw,← hlen];refine ⟨.ref s.heap.objs.size,_,I.laid (t':=s.toks) (o:=.lst (fw xs lo hi)) (fun b ob q=>aaf _ q) (aah _) ?_,rfl,q _ (I.hok.fresh (aah _))⟩;exact ⟨aaE (ik xs lo hi) hz,_,0,(r.drop (HT.sIx xs.length 0 lo)).take (HT.sIx xs.length xs.length hi - HT.sIx xs.length 0 lo),aau _ rfl⟩
def eS:V→Bool
  | .non=>true
  | .bl _=>true
  | .int _=>true
  | .str _=>true
  | _=>false
def eqV:V→V→Bool
  | .non,.non=>true
  | .bl a,.bl b=>a == b
  | .bl a,.int b=>(if a then 1 else 0) == b
  | .int a,.bl b=>a == (if b then 1 else 0)
  | .int a,.int b=>a == b
  | .str a,.str b=>a == b
  | _,_=>false
theorem sG {A:Around} {s:Shared} {y x:V} {u v:Value} (ry:RelV y u) (rx:RelV x v) (fy:eS y=true) (fx:eS x=true):SeqAt.EqAt A s u v (eqV y x):=by
  cases y with
  | non =>
    cases ry;cases x with
    | non=>cases rx;exact SeqAt.EqAt.same _
    | bl b=>cases rx;exact SeqAt.EqAt.none_bool b
    | int b=>obtain ⟨t,rfl⟩:=rx;exact SeqAt.EqAt.none_int b t
    | str b=>obtain ⟨t,rfl⟩:=rx;exact SeqAt.EqAt.none_str b t
    | _=>exact absurd (show false=true from fx) aad
  | bl a =>
    cases ry;cases x with
    | non=>cases rx;exact SeqAt.EqAt.bool_none a
    | bl b=>cases rx;exact SeqAt.EqAt.bool_bool a b
    | int b=>obtain ⟨t,rfl⟩:=rx;exact SeqAt.EqAt.bool_int a b t
    | str b=>obtain ⟨t,rfl⟩:=rx;exact SeqAt.EqAt.bool_str a b t
    | _=>exact absurd (show false=true from fx) aad
  | int a =>
    obtain ⟨t',rfl⟩:=ry;cases x with
    | non=>cases rx;exact SeqAt.EqAt.int_none a t'
    | bl b=>cases rx;exact SeqAt.EqAt.int_bool a t' b
    | int b=>obtain ⟨t,rfl⟩:=rx;exact SeqAt.EqAt.int_int a t' b t
    | str b=>obtain ⟨t,rfl⟩:=rx;exact SeqAt.EqAt.int_str a t' b t
    | _=>exact absurd (show false=true from fx) aad
  | str a =>
    obtain ⟨t',rfl⟩:=ry;cases x with
    | non=>cases rx;exact SeqAt.EqAt.str_none a t'
    | bl b=>cases rx;exact SeqAt.EqAt.str_bool a t' b
    | int b=>obtain ⟨t,rfl⟩:=rx;exact SeqAt.EqAt.str_int a t' b t
    | str b=>obtain ⟨t,rfl⟩:=rx;exact SeqAt.EqAt.str_str a t' b t
    | _=>exact absurd (show false=true from fx) aad
  | _=>exact absurd (show false=true from fy) aad
def eqU (x:V) (u:Value):Bool:=match u with
  | .none=>eqV .non x
  | .bool b=>eqV (.bl b) x
  | .int i _=>eqV (.int i) x
  | .str z _=>eqV (.str z) x
  | _=>false
theorem sF {x y:V} {u:Value} (r:RelV y u) (f:eS y=true):eqU x u=eqV y x:=by
  cases y with
  | non=>cases r;rfl
  | bl b=>cases r;rfl
  | int i=>obtain ⟨t,rfl⟩:=r;rfl
  | str z=>obtain ⟨t,rfl⟩:=r;rfl
  | _=>exact absurd (show false=true from f) aad
theorem lD {x:V}:∀ {xs:List V} {us:List Value},Vals xs us→xs.all eS=true→us.any (eqU x)=xs.any fun y=>eqV y x
  | _,_,.nil,_=>rfl
  | y :: xs,u :: us,.cons r t,f=>by
    rw [List.all_cons,aaS] at f;rw [acf,acf,sF r f.1,lD t f.2]
theorem jd {A:Around} {s:Shared} {x:V} {v:Value} (rx:RelV x v) (fx:eS x=true):∀ {xs:List V} {us:List Value},Vals xs us→xs.all eS=true→∀ u∈us,SeqAt.EqAt A s u v (eqU x u)
  | _,_,.nil,_=>fun u hu=>by cases hu
  | y :: xs,u :: us,.cons r t,f=>fun u' hu=>by
    rw [List.all_cons,aaS] at f;rcases aai.mp hu with rfl|hu
    · rw [sF r f.1];exact sG r rx f.1 fx
    · exact jd rx fx t f.2 u' hu
def inV (x:V) (xs:List V):Bool:=xs.any fun y=>eqV y x
def rIn (K:aaa) (neg:Bool):R2:=fun x y H Q=>∃ p xs,y=.ref p∧(SqL K H p xs∨SqT K H p xs)∧eS x=true∧xs.all eS=true∧Q (.bl (if neg then !inV x xs else inV x xs)) H
theorem fF:OpR X (compareOp .In) (rIn X.K false):=by
  intro pins s σ H x y v u Q I rx ry h;obtain ⟨p,xs,rfl,hq,fx,fs,q⟩:=h;cases ry;rcases hq with hq|hq
  · obtain ⟨its,r,pl,hz⟩:=I.list hq;refine SeqAt.in_listAt (eqU x) pl.isList (fun w hw=>jd rx fx r fs w (by simpa using hw)) ⟨.bl _,H,I,rfl,?_⟩;rw [show its.toArray.any (eqU x)=its.any (eqU x) by simp,lD r fs];exact q
  · obtain ⟨its,r,pl,hz⟩:=I.tuple hq;refine SeqAt.in_tupleAt (eqU x) pl (fun w hw=>jd rx fx r fs w (by simpa using hw)) ⟨.bl _,H,I,rfl,?_⟩;rw [show its.toArray.any (eqU x)=its.any (eqU x) by simp,lD r fs];exact q
theorem ay:bQ X (.builtin "len") (fun xs H Q=>∃ p ys,xs=[.ref p]∧(SqL X.K H p ys∨SqT X.K H p ys)∧Q (.int ys.length) H):=by
  intro pins s σ H xs us Q I r h;obtain ⟨p,ys,rfl,hq,q⟩:=h;obtain ⟨u,rfl,rx⟩:=dI r;cases rx;have hn:=g8;rcases hq with hq|hq
  · obtain ⟨its,r',pl,hz⟩:=I.list hq;have hlen:=r'.length;exact Calls.call_len_list pl.isList (by simp only [aag] <;> lia) ⟨.int ys.length,H,I.tok _,⟨s.toks+1,by rw [aag,hlen]⟩,q⟩
  · obtain ⟨its,r',pl,hz⟩:=I.tuple hq;have hlen:=r'.length;exact len_tuple pl (by simp only [aag] <;> lia) ⟨.int ys.length,H,I.tok _,⟨s.toks+1,by rw [aag,hlen]⟩,q⟩
theorem li:bQ X (.type "list") (fun xs H Q=>∃ p ys,xs=[.ref p]∧(SqL X.K H p ys∨SqT X.K H p ys)∧∀ l,H l=none→Q (.ref l) (upd H l (.lst ys))):=by
  intro pins s σ H xs us Q I r h;obtain ⟨p,ys,rfl,hq,q⟩:=h;obtain ⟨u,rfl,rx⟩:=dI r;cases rx;have fin:∀ (its:List Value),Vals ys its→ys.length≤sizeLine→∀ (h':Heap) (c':Nat),(∀ b o',s.heap.get? b=some o'→h'.get? b=some o') →
      h'.get? s.heap.objs.size=some { cls:=.type "list",dict:=none,data:=.seq its.toArray c',slots:=#[] }→EP X pins σ Q (.ref s.heap.objs.size) { s with heap:=h' }:=fun its r' hz h' c' kp e =>
    ⟨.ref s.heap.objs.size,_,I.laid (t':=s.toks) kp (aah _) (show ObjOk X.prog X.w _ h' _ (.lst ys) from ⟨hz,its,c',r',e⟩),rfl,q _ (I.hok.fresh (aah _))⟩
  rcases hq with hq|hq
  · obtain ⟨its,r',pl,hz⟩:=I.list hq;have hlen:=r'.length;obtain ⟨o,ho,hc,n,hd⟩:=pl.isList;exact call_list_seq p (.inl rfl) ho hc hd (fun h' c' kp e=>fin its r' hz h' c' kp e) (by simp only [aag] <;> lia)
  · obtain ⟨its,r',pl,hz⟩:=I.tuple hq;have hlen:=r'.length;obtain ⟨o,ho,hc,n,hd⟩:=pl;exact call_list_seq p (.inr rfl) ho hc hd (fun h' c' kp e=>fin its r' hz h' c' kp e) (by simp only [aag] <;> lia)
theorem jK:bQ X (.type "tuple") (fun xs H Q=>∃ p ys,xs=[.ref p]∧((SqL X.K H p ys∧∀ l,H l=none→Q (.ref l) (upd H l (.tup ys)))∨(SqT X.K H p ys∧Q (.ref p) H))):=by
  intro pins s σ H xs us Q I r h;obtain ⟨p,ys,rfl,h⟩:=h;obtain ⟨u,rfl,rx⟩:=dI r;cases rx;rcases h with ⟨hq,q⟩|⟨hq,q⟩
  · obtain ⟨its,r',pl,hz⟩:=I.list hq;have hlen:=r'.length;refine call_tuple_list pl.isList (fun h' kp=>?_) (by simp only [aag] <;> lia);have I1:Inv X pins σ H { s with heap:=h' }:=I.kept (t':=s.toks) kp;have I2:Inv X pins σ (upd H h'.objs.size (.tup ys)) { s with heap:=h'.push { cls:=.type "tuple",data:=.seq its.toArray } } :=
      I1.laid (t':=s.toks) (fun b o e=>aaf _ e) (aah _) (show ObjOk X.prog X.w _ _ _ (.tup ys) from ⟨hz,its,r',IsTup.new _ _⟩)
    exact ⟨.ref h'.objs.size,_,I2,rfl,q _ (I1.hok.fresh (aah _))⟩
  · obtain ⟨its,r',pl,hz⟩:=I.tuple hq;exact call_tuple_same pl ⟨.ref p,H,I,rfl,q⟩
def tyV (K:aaa) (T:String) (x:V) (H:Hp):Prop:=match x with
  | .str _=>T = "str"
  | .int _=>T = "int"
  | .ref p=>(T = "list"∧∃ xs,SqL K H p xs)∨(T = "tuple"∧∃ o,K.lookup p=some o∧o.cls=.type "tuple"∧o.dict=none) ∨
      (T = "dict"∧((∃ kvs,H p=some (.dK kvs))∨∃ kvs,H p=some (.dT kvs)))∨(T = "set"∧∃ S n,H p=some (.set S n))
  | _=>False
theorem qJ {pins:List (Addr × Obj)} {σ:St} {H:Hp} {s:Shared} {T:String} {x:V} {v:Value} (I:Inv X pins σ H s) (r:RelV x v) (ty:tyV X.K T x H) :
    s.TypeIs v T∧∀ a,v=.ref a→∃ ob,s.heap.get? a=some ob∧ob.dict=none:=by
  cases x with
  | str z =>
    obtain ⟨t,rfl⟩:=r;cases (show T = "str" from ty);exact ⟨typeIs_str s z t,fun _ e=>nomatch e⟩
  | int i =>
    obtain ⟨t,rfl⟩:=r;cases (show T = "int" from ty);exact ⟨typeIs_int s i t,fun _ e=>nomatch e⟩
  | ref p =>
    cases r;rcases ty with ⟨rfl,xs,hq⟩|⟨rfl,o,hk,hc,hd⟩|⟨rfl,hk⟩|⟨rfl,S,n,hk⟩
    · obtain ⟨its,_,pl,_⟩:=I.list hq;refine ⟨pl.isList.typeIs,fun a e=>?_⟩;cases e;obtain ⟨o,n,e,c,hd,_⟩:=pl;exact ⟨o,e,hd⟩
    · refine ⟨⟨o,I.kIn p o hk,hc⟩,fun a e=>?_⟩;cases e;exact ⟨o,I.kIn _ o hk,hd⟩
    · have z:∃ o,s.heap.get? p=some o∧o.ExactDict:=by
        rcases hk with ⟨kvs,hk⟩|⟨kvs,hk⟩
        · obtain ⟨_,_,_,_,o,_,_,e,ex,_⟩:=I.hok p _ hk;exact ⟨o,e,ex⟩
        · obtain ⟨_,_,_,_,o,_,_,e,ex,_⟩:=I.hok p _ hk;exact ⟨o,e,ex⟩
      obtain ⟨o,e,ex⟩:=z;refine ⟨⟨o,e,ex.1⟩,fun a e2=>?_⟩;cases e2;exact ⟨o,e,ex.2.1⟩
    · obtain ⟨o,_,_,_,e,ex,_⟩:=I.hok p _ hk;refine ⟨⟨o,e,ex.1⟩,fun a e2=>?_⟩;cases e2;exact ⟨o,e,ex.2.1⟩
  | _=>exact acd ty
def xL (K:aaa) (T:String) (r:V→List V→Hp→VK→Prop) (to:TE):TE:=fun σ H Q=>to σ H fun x H1=>tyV K T x H1∧r x [] H1 Q
def tBM (K:aaa) (T:String) (r:V→List V→Hp→VK→Prop) (to:TE) (t:TA):TE:=fun σ H Q=>to σ H fun x H1=>tyV K T x H1∧t σ H1 fun xs H2=>r x xs H2 Q
variable {o e:Expr} {es:List Expr} {to:TE} {t:TA} {name:Str} {apos cpos:Pos} {T id:String} {r:V→List V→Hp→VK→Prop}
theorem ve (pa:PlainAttrs T) (slot:Slot T name id) (hty:typeOf (.builtin id)=pure (.type "method_descriptor")) (hm:MtR X id r) (ho:PE X o to)
    (hbase:attributeBase o name X.env (eval o X.env)=eval o X.env:=by rfl) (hline:(apos.endLine == cpos.line)=true:=by rfl):PE X (.Call (.Attribute o name apos) [] [] cpos) (xL X.K T r to):=by
  intro pins s σ H Q I h;refine wpAny_Call_method0_late hbase hline (thn (ho pins s σ H _ I h) fun v s1 ⟨x,H1,I1,r1,ty,q1⟩=>?_);obtain ⟨h1,h2⟩:=qJ I1 r1 ty;exact ⟨T,id,pa,slot,hty,h1,h2,abD rfl (PySem.evalArgs_none (hm pins s1 σ H1 x [] v [] Q I1 r1 .nil q1))⟩
theorem iW (pa:PlainAttrs T) (slot:Slot T name id) (hty:typeOf (.builtin id)=pure (.type "method_descriptor")) (hm:MtR X id r) (ho:PE X o to) (ha:PA X (e :: es) t)
    (hbase:attributeBase o name X.env (eval o X.env)=eval o X.env:=by rfl)
    (hfew:((backTo cpos (starEach (e :: es) X.env)).all (fun x=>!x.1) && (backToKw cpos (keywordEach [] X.env)).all (fun x=>x.1.isSome)
      && decide ((e :: es).length+([]:List Keyword).length+(if ([]:List Keyword).isEmpty then 0 else 1) < 30))=true:=by rfl)
    (hline:(apos.endLine == cpos.line)=true:=by rfl) (hs:starEach (e :: es) X.env=(false,eval e X.env) :: starEach es X.env:=by rfl) (hplain:(backTo cpos (starEach es X.env)).any (·.1)=false:=by rfl) :
    PE X (.Call (.Attribute o name apos) (e :: es) [] cpos) (tBM X.K T r to t):=by
  intro pins s σ H Q I h;refine wpAny_Call_method_late hbase hfew hline rfl (thn (ho pins s σ H _ I h) fun v s1 ⟨x,H1,I1,r1,ty,q1⟩=>?_);obtain ⟨h1,h2⟩:=qJ I1 r1 ty;refine ⟨T,id,pa,slot,hty,h1,h2,?_⟩;have hA:=ha cpos pins s1 σ H1 _ I1 q1;rw [hs] at hA ⊢;refine abD (by show (false || (backTo cpos (starEach es X.env)).any (·.1))=false;rw [hplain] <;> rfl) (Calls.evalArgs_plain ?_);exact thn hA fun us s2 ⟨vs,H2,I2,r2,q2⟩=>hm pins s2 σ H2 x vs v us Q I2 r1 r2 q2
end
open PySem PySem.Spec PyProof.Rows
def MtM (X:Cx) (id:String) (r:V→List V→Hp→VK→Prop):Prop :=
  ∀ (pins:List (Addr × Obj)) (s:Shared) (σ:St) (H:Hp) (x:V) (xs:List V) (v:Value) (us:List Value) (Q:VK),Inv X pins σ H s→RelV x v→Vals xs us→r x xs H Q →
    wpAny (model X.prog X.w) X.A (call (.builtin id) (v :: us)) (EP X pins σ Q) X.xe s
theorem Vals.one {x:V} {us:List Value} (h:Vals [x] us):∃ u,us=[u]∧RelV x u:=by
  cases h with
  | cons r t=>cases t;exact ⟨_,rfl,r⟩
theorem Vals.zero:∀ {us:List Value},Vals [] us→us=[]
  | _,.nil=>rfl
theorem Vals.dropLast {xs:List V} {us:List Value} (h:Vals xs us):Vals xs.dropLast us.dropLast:=by
  induction h with
  | nil=>exact .nil
  | cons r t ih =>
    cases t with
    | nil=>exact .nil
    | cons q t'=>exact .cons r ih
theorem Vals.reverse {xs:List V} {us:List Value} (h:Vals xs us):Vals xs.reverse us.reverse:=by
  induction h with
  | nil=>exact .nil
  | cons r t ih=>rw [List.reverse_cons,List.reverse_cons];exact Vals.append ih (.cons r .nil)
theorem Vals.rep {xs:List V} {us:List Value} (h:Vals xs us):∀ k:Nat,Vals (aaQ k xs).flatten (aaQ k us).flatten
  | 0=>.nil
  | k+1=>by
    rw [abW,abW,acE,acE];exact Vals.append h (Vals.rep h k)
theorem n8 {α:Type} (l:List α):l.eraseIdx (l.length - 1)=l.dropLast:=by
  induction l with
  | nil=>rfl
  | cons a r ih =>
    cases r with
    | nil=>rfl
    | cons b r =>
      have e:(a :: b :: r).length - 1=((b :: r).length - 1)+1:=by
        have h1:(a :: b :: r).length=r.length+2:=rfl;have h2:(b :: r).length=r.length+1:=rfl;lia
      rw [e,List.eraseIdx_cons_succ,ih]
      all_goals rfl
theorem jY (its:List Value):∀ (k:Nat) (acc:List Value),
    List.foldl (fun x1 x2=>x1++x2) acc.toArray (aaQ k its.toArray)=(acc++(aaQ k its).flatten).toArray
  | 0,acc=>by simp
  | k+1,acc=>by
    have e:acc.toArray++its.toArray=(acc++its).toArray:=by simp
    have e2:(acc++its)++(aaQ k its).flatten=acc++(aaQ (k+1) its).flatten:=by
      rw [abW,acE,aaA]
    rw [← e2,← jY its k (acc++its),← e,abW,List.foldl_cons]
section
variable {X:Cx} {pins:List (Addr × Obj)} {σ:St} {H:Hp} {s:Shared} {l b:Addr} {xs ys zs:List V}
theorem Inv.lset {its its':List Value} {n:Nat} {f:Array Value→Array Value} {t':Nat} (I:Inv X pins σ H s) (hH:H l=some (.lst xs))
    (e:s.heap.get? l=some { cls:=.type "list",data:=.seq its.toArray n }) (hf:f its.toArray=its'.toArray) (hv:Vals ys its') (hz:ys.length≤sizeLine) :
    Inv X pins σ (upd H l (.lst ys)) { s with heap:=s.heap.update l (Obj.mapSeq f),toks:=t' }:=by
  have q:=PySem.IsL.update e f;rw [hf] at q;refine I.write (x:=l) (e:=l) (by rw [hH];exact trivial) (.inl rfl) (fun b' u hb hu=>(Heap.get?_update_other s.heap (Obj.mapSeq f) (abS hb)).trans hu) ⟨_,q⟩ ?_;exact ⟨hz,its',_,hv,q⟩
theorem Inv.lnew {its:List Value} {t':Nat} (I:Inv X pins σ H s) (hv:Vals ys its) (hz:ys.length≤sizeLine) :
    Inv X pins σ (upd H s.heap.objs.size (.lst ys)) { s with heap:=s.heap.push { cls:=.type "list",data:=.seq its.toArray },toks:=t' } :=
  I.laid (fun _ _ q=>aaf _ q) (aah _) ⟨hz,its,0,hv,aau _ rfl⟩
theorem Inv.fresh (I:Inv X pins σ H s):H s.heap.objs.size=none:=I.hok.fresh (aah _)
theorem Inv.lstM (I:Inv X pins σ H s) (hH:H l=some (.lst xs)):xs.length≤sizeLine∧∃ (its:List Value) (n:Nat),Vals xs its∧xs.length=its.length∧s.heap.get? l=some { cls:=.type "list",data:=.seq its.toArray n }:=by
  obtain ⟨z,its,n,r,e⟩:=I.hok l _ hH;exact ⟨z,its,n,r,r.length,e⟩
theorem mv {n:Nat} (h:n≤sizeLine):abO n=false:=by
  unfold abO;exact decide_eq_false (by lia)
end
section
variable {X:Cx}
def tz:V→List V→Hp→VK→Prop:=fun x vs H Q=>∃ l xs y,x=.ref l∧vs=[y]∧H l=some (.lst xs)∧xs.length < sizeLine∧Q .non (upd H l (.lst (xs++[y])))
theorem g0:MtM X "list.append" tz:=by
  intro pins s σ H x vs v us Q I rx rv h;obtain ⟨l,xs,y,rfl,rfl,hH,hz,q⟩:=h;cases rx;obtain ⟨u,rfl,ru⟩:=rv.one;obtain ⟨z,its,n,r,hl,e⟩:=I.lstM hH;refine call_meets F.slot_list_append ⟨_,e,rfl⟩ F.entry_list_append (F.args_list_append_2 _ _) (PySem.list_append l its.toArray n u (by rw [aag];lia)) ⟨e,?_⟩;refine ⟨.non,_,I.lset (its':=its++[u]) hH e (by simp) (r.append (.cons ru .nil)) ?_,rfl,q⟩;rw [aaj,ab6];lia
def tw:V→List V→Hp→VK→Prop:=fun x vs H Q=>∃ l b xs zs,x=.ref l∧vs=[.ref b]∧H l=some (.lst xs)∧H b=some (.lst zs)∧xs.length+zs.length≤sizeLine∧Q .non (upd H l (.lst (xs++zs)))
theorem fG:MtM X "list.extend" tw:=by
  intro pins s σ H x vs v us Q I rx rv h;obtain ⟨l,b,xs,zs,rfl,rfl,hH,hB,hz,q⟩:=h;cases rx;obtain ⟨u,rfl,ru⟩:=rv.one;cases ru;obtain ⟨z,its,n,r,hl,e⟩:=I.lstM hH;obtain ⟨z2,its2,n2,r2,hl2,e2⟩:=I.lstM hB;have hsz:its.toArray.size+its2.toArray.size≤sizeLine:=by rw [aag,aag];lia
  have hlong:¬ (!its.toArray.isEmpty && abO (its.toArray.size+its2.toArray.size))=true:=by
    rw [mv hsz,acH];exact aad
  refine call_meets F.slot_list_extend ⟨_,e,rfl⟩ F.entry_list_extend (F.args_list_extend_2 _ _)
    (AutoSeq1.list_extend_list_list_0 l its.toArray n b its2.toArray n2 hlong (by rw [aag];lia) (by lia)) ⟨e,e2,?_⟩
  refine ⟨.non,_,I.lset (its':=its++its2) hH e (by simp) (r.append r2) ?_,rfl,q⟩;rw [aaj];lia
def xR:V→List V→Hp→VK→Prop:=fun x vs H Q=>∃ l xs y,x=.ref l∧vs=[]∧H l=some (.lst xs)∧xs[xs.length - 1]?=some y∧Q y (upd H l (.lst xs.dropLast))
theorem vt:MtM X "list.pop" xR:=by
  intro pins s σ H x vs v us Q I rx rv h;obtain ⟨l,xs,y,rfl,rfl,hH,hy,q⟩:=h;cases rx;have hus:=rv.zero;subst hus;obtain ⟨z,its,n,r,hl,e⟩:=I.lstM hH;obtain ⟨u,hu,ru⟩:=r.get hy;have hy':its.toArray[its.toArray.size - 1]?=some u:=by
    show its.toArray[its.length - 1]?=some u;rw [← abE,← hl];exact hu
  refine call_meets F.slot_list_pop ⟨_,e,rfl⟩ F.entry_list_pop (F.args_list_pop_1 _) (MeetsSeq.list_pop_last l its.toArray n u hy' (by rw [aag];lia)) ⟨e,?_⟩;refine ⟨y,_,I.lset (its':=its.dropLast) hH e ?_ r.dropLast ?_,ru,q⟩
  · show its.toArray.eraseIdxIfInBounds (its.toArray.size - 1)=its.dropLast.toArray;rw [aag,List.eraseIdxIfInBounds_toArray,n8]
  · rw [List.length_dropLast];lia
def xW:R2:=fun x y H Q=>∃ l b xs zs,x=.ref l∧y=.ref b∧H l=some (.lst xs)∧H b=some (.lst zs)∧xs.length+zs.length≤sizeLine∧∀ p,H p=none→Q (.ref p) (upd H p (.lst (xs++zs)))
theorem fm:OpR X (binaryOp .Add) xW:=by
  intro pins s σ H x y v u Q I rx ry h;obtain ⟨l,b,xs,zs,rfl,rfl,hH,hB,hz,q⟩:=h;cases rx;cases ry;obtain ⟨z,its,n,r,hl,e⟩:=I.lstM hH;obtain ⟨z2,its2,n2,r2,hl2,e2⟩:=I.lstM hB;refine PySem.P.add_list e e2 ?_ (by rw [aag,aag];lia);have ea:its.toArray++its2.toArray=(its++its2).toArray:=by simp
  rw [ea];exact ⟨.ref _,_,I.lnew (t':=s.toks) (r.append r2) (by rw [aaj];lia),rfl,q _ I.fresh⟩
def xQ:R2:=fun x y H Q=>∃ l k xs,x=.ref l∧y=.int k∧H l=some (.lst xs)∧-(2 ^ 63)≤k∧k < 2 ^ 63∧xs.length * k.toNat≤sizeLine ∧
  ∀ p,H p=none→Q (.ref p) (upd H p (.lst (aaQ k.toNat xs).flatten))
theorem tW {α:Type} (xs:List α) (k:Nat):(aaQ k xs).flatten.length=k * xs.length:=by
  induction k with
  | zero=>simp
  | succ k ih=>rw [abW,acE,aaj,ih,Nat.succ_mul,Nat.add_comm]
theorem kJ:OpR X (binaryOp .Mult) xQ:=by
  intro pins s σ H x y v u Q I rx ry h;obtain ⟨l,k,xs,rfl,rfl,hH,h1,h2,hz,q⟩:=h;cases rx;obtain ⟨t,rfl⟩:=ry;obtain ⟨z,its,n,r,hl,e⟩:=I.lstM hH;have hlen:its.toArray.size * k.toNat≤sizeLine:=by rw [aag,← hl];exact hz
  have hcap:¬ its.toArray.size * k.toNat > (2 ^ 63 - 1) / 8:=by
    have : (sizeLine:Nat)≤(2 ^ 63 - 1) / 8:=by decide
    lia
  have hfit:¬ (!Builtin.List.listFitsIndex k)=true:=by
    rw [fitsIndex_both h1 h2];exact aad
  have hlong:¬ abO (its.toArray.size * k.toNat)=true:=by
    rw [mv hlen];exact aad
  have hnew:List.foldl (fun x1 x2=>x1++x2) #[] (aaQ (if its.toArray.isEmpty=true then 0 else k.toNat) its.toArray)=(aaQ k.toNat its).flatten.toArray:=by
    have f0:∀ m:Nat,List.foldl (fun x1 x2=>x1++x2) #[] (aaQ m its.toArray)=(aaQ m its).flatten.toArray:=fun m=>by
      have:=jY its m [];rw [List.nil_append] at this;exact this
    rw [f0];cases its with
    | nil=>simp
    | cons a r'=>rw [if_neg (by simp)]
  refine wpAny_binaryOp_repeat_ref (T:="list") (U:="int") (by decide) ⟨_,e,rfl⟩ (fun s'=>typeIs_int s' k t) noFill_list_mul F.fills_int_mul F.slot_int_rmul repeat_list F.slot_int_index.lookup
    (call_meets F.slot_int_rmul (typeIs_int s k t) F.entry_int_rmul (F.args_int_rmul_2 _ _) (int___rmul___int_list k t l its.toArray n)
      ⟨e,rfl,⟨_,e,rfl⟩,call_meets F.slot_list_mul ⟨_,e,rfl⟩ F.entry_list_mul (F.args_list_mul_2 _ _) (AutoListH.list___mul___list_int_3 l its.toArray n k t hfit hcap hlong) ⟨e,?_⟩⟩)
  rw [hnew];exact ⟨.ref _,_,I.lnew (t':=s.toks) (r.rep k.toNat) (by rw [tW,Nat.mul_comm];exact hz),rfl,q _ I.fresh⟩
end
section
variable {prog:Program} {w:World} {A:Around} {E:Value→Shared→Prop} {s:Shared}
end
section
variable {X:Cx}
end
end L2
namespace Att
open PySem PySem.W PySem.Calls PyProof.Rows
theorem iq {P:Params} {h:Heap}:∀ (ns:List Int) (vs:List Value),WellAll P h vs (ns.map WData.int)→IntsAre vs ns:=by
  intro ns
  induction ns with
  | nil =>
    intro vs w;rw [abG] at w;cases w;exact .nil
  | cons n ns ih =>
    intro vs w;rw [aae] at w;cases w with
    | cons a b =>
      cases a;exact .cons _ _ (ih _ b)
theorem qa {l:OpenLaw} {n:Nat} (hn:l.most=some n) {P:Params} {h:Heap} {args:List WData} {vals:List Value}
    (hpre:l.row.toRowW.claim.pre args=true) (hwl:WellAll P h vals args) :
    ∃ a vs ns,vals=[Value.ref a]∧args=[WData.list (ns.map WData.int)]∧h.get? a=some { cls:=.type "list",data:=.seq vs.toArray }∧IntsAre vs ns∧ns.length≤n:=by
  have hsh:WShape.hasAll [] args [.list .int]=true:=(pre_splitW hpre).1;have hc:l.pre.holds [] { args:=args }=true:=(pre_splitW hpre).2;obtain ⟨d,r,rfl,h1,h2⟩:=hasAllW_cons hsh;obtain rfl:=hasAllW_nil h2;obtain ⟨xs,rfl,h3⟩:=hasW_list h1;obtain ⟨ns,rfl⟩:=items_int h3;have hlen:ns.length≤n:=by
    unfold OpenLaw.pre at hc;have h4:(WTm.not (.lt (.lit (.int (n:Int))) (.len (.arg 0)))).holds [] { args:=[.list (ns.map .int)] }=true:=by
      have h4:=(holds_andW hc).1;rw [hn] at h4;exact h4
    have h5:=condW_of h4 (w_not (w_lt w_lit (w_len_list (w_arg rfl))));rw [aab] at h5;refine Nat.le_of_not_lt fun q=>?_;have q':(n:Int) < ((ns.length:Nat):Int):=by lia
    first
      | (rw [decide_eq_true q'] at h5;exact absurd h5 (by decide))
      | (simp at h5;lia)
  cases hwl with
  | cons w1 w2 =>
    cases w2;cases w1 with
    | list ho hall=>exact ⟨_,_,ns,rfl,rfl,ho,iq ns _ hall,hlen⟩
theorem qf (l:OpenLaw) (args:List WData):l.row.toRowW.claim.post args (.bool true) args=true :=
  postW_of (r:=l.row.toRowW) (X:=(true == true))
    (show WShape.has [] (.bool true) .bool=true by first|rfl|decide|simp [WShape.has,WShape.arms,WShape.armsAll])
    (show (WTm.eq .res (.lit (.bool true))).value [] { args:=args,res:=some (.bool true),after:=args }=some (.bool (true == true)) from w_eq_bool (w_res rfl) w_lit) rfl
theorem attach_call {l:OpenLaw} {n:Nat} {q:Program} {loose:List Str} {XP:(Str→Option Value)→Heap→Prop} {YP:World→Heap→Prop} {d:DefRec}
    (hn:l.most=some n) (hdf:d.params.defaults=[])
    (call:∀ (w:World) (s₀ s₁:Shared) (mg mb:Str→Option Value) (fa:Addr) (o:Obj) (pm cd doc:Value) (a:Addr) (vs:List Value) (ns:List Int),
      Ground q loose [] XP w s₀ mg mb s₁.heap→YP w s₁.heap →
      s₁.heap.get? fa=some o→o.data=.func (docDef d.name d.params d.body d.scope pm cd doc)→s₁.heap.CodeRec cd d.name→mg d.name=some (.ref fa) →
      s₁.heap.get? a=some { cls:=.type "list",data:=.seq vs.toArray }→IntsAre vs ns→ns.length≤n→s₁.gens=#[] →
      codeAny (model l.prog w) callerA (.call (.ref fa) ⟨[.ref a],[]⟩) (fun r s'=>r=.ok (.ret (.bool true))∧OldK s₁.heap s'.heap∧s'.os=s₁.os∧AllBare s'.gens) s₁) :
    WalkO q loose XP YP l.row.toRowW d [] (fun f vs=>PySem.call f vs):=by
  intro w s₀ s₁ mg mb G Y fa o pm cd doc dV kV ho hd hcd hD hmg hg args vals as hpre hlay hrd hwl hlo;obtain rfl:dV=.none:=Dflts.none hD hdf;obtain rfl:kV=.none:=Dflts.noKw hD;obtain ⟨a,vs,ns,rfl,rfl,hobj,hints,hlen⟩:=qa hn hpre hwl;refine enter_call (codeAny_mono (call w s₀ s₁ mg mb fa o pm cd doc a vs ns G Y ho (fd_plain hd) hcd hmg hobj hints hlen hg) fun r s' hq=>?_);obtain ⟨rfl,h2,h3,h4⟩:=hq;exact ⟨.inl ⟨.bool true,.bool true,[],rfl,fun _=>rfl,.bool true,qf l _,fun _=>⟨List.Pairwise.nil,fun _ hm=>(nomatch hm)⟩⟩,h2,h3,h4⟩
section
variable {prog:Program} {w:World} {A:Around} {E:Value→Shared→Prop} {s:Shared} {K:Frag}
end
end Att
namespace L2
open PySem PySem.Spec PyProof.Rows
theorem jL:∀ {vs:List Value} {ns:List Int},IntsAre vs ns→Vals (ns.map V.int) vs
  | _,_,.nil=>.nil
  | _,_,.cons n t h=>.cons ⟨t,rfl⟩ (jL h)
def vQ (H:Hp):Prop:=∀ b,H b=none∨∃ o xs,H b=some (.frz o (.lst xs))
theorem rN {P:Program} {w:World} {K:aaa} {mg mb:Str→Option Value} {CX:CXT} {k:Nat} {fa a:Addr} {fd:FuncData} {x:Str} {sp:Sp} {s₁:Shared} {vs:List Value} {ns:List Int}
    (KX:K.In s₁.heap) (hns:s₁.heap.Ns mainGlobals mg) (hb:s₁.heap.Ns builtinsNs mb) (hbb:∀ x:Str,x ≠ "__name__"→mb x=bootBuiltins x) (hlim:s₁.heap.NoLimit) (hsm:∃ mm,s₁.heap.Ns sysModules mm) (hg:s₁.gens=#[])
    (ha:s₁.heap.get? a=some { cls:=.type "list",data:=.seq vs.toArray }) (hi:IntsAre vs ns) (hl:ns.length≤sizeLine) (hr:Room k callerA)
    (F:∀ base:Heap,K.In base→base.Ns mainGlobals mg→FnOk P w K mg base CX k fa fd [x] sp) (hbind:∀ (s:Shared) (u:Value),BindsTo s fd ⟨[u],[]⟩ [(x,u)])
    (hsp:∀ H:Hp,vQ H→SqL K H a (ns.map V.int)→sp [.ref a] H (fun v _=>v=.bl true) fun _ _ _=>False)
    (hCX:∀ H e s',CX [] H s₁ (fun _ _ _=>False) e s'→False) :
    codeAny (model P w) callerA (.call (.ref fa) ⟨[.ref a],[]⟩) (fun r s'=>r=.ok (.ret (.bool true))∧OldK s₁.heap s'.heap∧s'.os=s₁.os∧AllBare s'.gens) s₁:=by
  have rv:=jL hi;have lenV:=hi.length;have core:∀ H:Hp,vQ H→SqL K H a (ns.map V.int)→HOk P w H s₁.heap→(∀ b,H b≠none→b=a)→(H a≠none→K.lookup a=none) →
      codeAny (model P w) callerA (.call (.ref fa) ⟨[.ref a],[]⟩) (fun r s'=>r=.ok (.ret (.bool true))∧OldK s₁.heap s'.heap∧s'.os=s₁.os∧AllBare s'.gens) s₁:=by
    intro H hO hS hok hA hK;have base_of:∀ {b:Addr} {o:Obj},s₁.heap.get? b=some o→H b=none→(kZ s₁.heap H).get? b=some o:=fun e n=>rX e n;have noA:∀ {b:Addr} {o:Obj} {es:Array DictEntry} {ep:Nat},s₁.heap.get? b=some o→o.data=.dict es ep→H b=none:=fun {b o es ep} e d=>by
      cases q:H b with
      | none=>rfl
      | some u =>
        have e':b=a:=hA b (by rw [q];simp);subst e';rw [ha] at e;cases e;have d':Data.seq vs.toArray _=Data.dict es ep:=d;cases d'
    have nsK:∀ {b:Addr} {m:Str→Option Value},s₁.heap.Ns b m→(kZ s₁.heap H).Ns b m:=fun {b m} ⟨o,es,ep,e,d,r⟩=>⟨o,es,ep,base_of e (noA e d),d,r⟩
    have hKb:K.In (kZ s₁.heap H):=fun b o e=>base_of (KX b o e) (by
      cases q:H b with
      | none=>rfl
      | some u =>
        have e':b=a:=hA b (by rw [q];simp);subst e';rw [hK (by rw [q];simp)] at e;cases e)
    have hM:Mod K mg (kZ s₁.heap H):=⟨hKb,nsK hns,⟨mb,nsK hb,hbb⟩,let ⟨mc,h1,h2⟩:=hlim;⟨mc,nsK h1,h2⟩,let ⟨mm,h1⟩:=hsm;⟨mm,nsK h1⟩⟩
    have e0:Env0 P w K mg (kZ s₁.heap H) callerA [] s₁ H:=⟨rfl,hM,fun b o e=>tS e,Nat.le_of_eq (qy _ _),trivial,fun b hb=>absurd (show b∈([]:List Addr) from hb) (by simp),hok,.of_eq hg⟩
    refine codeAny_mono ((F _ hKb (nsK hns)).run callerA [] s₁ H ⟨[.ref a],[]⟩ [.ref a] [.ref a] _ _ hr e0 (hbind s₁ (.ref a)) (.cons rfl .nil) (hsp H hO hS)) fun r s' h=>?_;cases r with
    | error e=>exact (hCX H e s' h).elim
    | ok fl =>
      cases fl with
      | next=>exact acd h
      | brk=>exact acd h
      | cont=>exact acd h
      | ret u =>
        obtain ⟨v,H',os,bare,un,hok',r',q⟩:=h;have q':v=.bl true:=q;subst q';obtain rfl:u=Value.bool true:=r';refine ⟨rfl,OldK.of_keep fun b o e=>?_,os,bare⟩;cases q:H b with
        | none=>exact un.keep b o e q (by intro z;exact absurd (show b∈([]:List Addr) from z) (by simp)) (by simp)
        | some u =>
          rcases hO b with z|⟨ob,xs,z⟩
          · rw [q] at z;cases z
          · have z2:=un.frzs b ob _ z;obtain ⟨e1,_⟩:=hok b _ z;obtain ⟨e2,_⟩:=hok' b _ z2;rw [e] at e1;cases e1;exact e2
  cases hk:K.lookup a with
  | some o =>
    have e:=KX a o hk;rw [ha] at e;cases e;refine core (fun _=>none) (fun _=>.inl rfl) (.inr ⟨_,vs.toArray,_,hk,rfl,rfl,rfl,by rw [aag,lenV];exact hl,by simpa using rv⟩) (fun b u z=>by have z':(none:Option HO)=some u:=z;cases z') (fun b z=>absurd rfl z) fun z=>absurd rfl z
  | none =>
    refine core (fun b=>if b=a then some (.frz { cls:=.type "list",data:=.seq vs.toArray } (.lst (ns.map V.int))) else none) (fun b=>?_) (.inl (.inr ⟨{ cls:=.type "list",data:=.seq vs.toArray },if_pos rfl⟩)) (fun b u z=>?_) (fun b z=>?_) fun _=>hk
    · by_cases hb:b=a
      · exact .inr ⟨_,_,if_pos hb⟩
      · exact .inl (if_neg hb)
    · by_cases hb:b=a
      · have z':=(if_pos hb).symm.trans z;cases z';subst hb;exact ⟨ha,by rw [aab];exact hl,vs,_,rv,ha⟩
      · have z':=(if_neg hb).symm.trans z;cases z'
    · by_cases hb:b=a
      · exact hb
      · exact absurd (if_neg hb) z
open PySem PySem.Spec PyProof.Rows
theorem walk_of {l:PySem.W.OpenLaw} {n k:Nat} {q:Program} {loose:List Str} {XP:(Str→Option Value)→Heap→Prop} {YP:World→Heap→Prop} {d:DefRec} {K:Params→aaa} {CX:World→CXT} {sp:World→Sp} {x:Str}
    (hn:l.most=some n) (hn2:n≤sizeLine) (hdf:d.params.defaults=[]) (hr:Room k callerA) (hi:PyProof.Rows.importsNone q=true)
    (hY:∀ (w:World) (h:Heap),YP w h→(K w.params).In h)
    (F:∀ (w:World) (mg:Str→Option Value) (fa:Addr) (h:Heap),(K w.params).In h→h.Ns mainGlobals mg→mg d.name=some (.ref fa) →
      ∃ fd:FuncData,(∀ (s:Shared) (u:Value),BindsTo s fd ⟨[u],[]⟩ [(x,u)]) ∧
        ∀ base:Heap,(K w.params).In base→base.Ns mainGlobals mg→FnOk l.prog w (K w.params) mg base (CX w) k fa fd [x] (sp w))
    (hsp:∀ (w:World) (H:Hp) (a:Addr) (ns:List Int),ns.length≤n→vQ H→SqL (K w.params) H a (ns.map V.int)→sp w [.ref a] H (fun v _=>v=.bl true) fun _ _ _=>False)
    (hCX:∀ (w:World) (H:Hp) (s:Shared) (e:Value) (s':Shared),CX w [] H s (fun _ _ _=>False) e s'→False) :
    PySem.W.WalkO q loose XP YP l.row.toRowW d [] (fun f vs=>PySem.call f vs):=by
  refine Att.attach_call hn hdf fun w s₀ s₁ mg mb fa o pm cd doc a vs ns G Y ho hd hcd hmg hobj hints hlen hg=>?_;have KX:=hY w _ Y;obtain ⟨fd,hb,hF⟩:=F w mg fa _ KX G.T.g hmg;exact rN KX G.T.g G.T.b G.T.builtins G.T.nolimit (let ⟨mm,h1,_⟩:=(G.T.seer hi).mods;⟨mm,h1⟩) hg hobj hints (aaE hlen hn2) hr hF hb (fun H hO hS=>hsp w H a ns hlen hO hS) fun H e s'=>hCX w H s₁ e s'
open PySem PySem.Spec PyProof.Rows
def cF (s:Stmt):Arguments:=match s with
  | .FunctionDef _ a _ _ _ _ _ _ _ _=>a
  | _=>{ posonlyargs:=[],args:=[],vararg:=none,kwonlyargs:=[],kw_defaults:=[],kwarg:=none,defaults:=[] }
def cg (s:Stmt):List Stmt:=match s with
  | .FunctionDef _ _ b _ _ _ _ _ _ _=>b
  | _=>[]
def am (s:Stmt):Scope:=match s with
  | .FunctionDef _ _ _ _ _ _ sc _ _ _=>sc
  | _=>{ kind:=.function,names:=[],isGenerator:=false,isCoroutine:=false }
abbrev CX0:CXT:=fun _ _ _ _ _ _=>False
abbrev E0:XK:=fun _ _ _=>False
theorem wL {X:Cx}:ox CX0 X E0:=fun _ _ _ _ _ _ _ h=>h.elim
structure Fun (K:aaa) (x qual:Str) (st:Stmt) (f:Addr) (fd:FuncData):Prop where
  ex:∃ (oc:Value) (od:Option Addr) (kV doc pm:Value) (an:Option Addr) (cdv ct:Value) (osl:Array (Option Value)),
    fd=abw x qual (cF st) (cg st) (am st) .none kV doc pm an cdv ct∧K.lookup f=some ⟨oc,od,.func fd,osl⟩∧ab1 K cdv qual=true
  kp:abq K (.ref f)=true
section
variable {P:Program} {w:World} {K:aaa} {mg:Str→Option Value} {base:Heap}
theorem Fun.ok {x qual:Str} {st:Stmt} {f:Addr} {fd:FuncData} {N ps:List Str} {k:Nat} {sp:Sp} (F:Fun K x qual st f fd) (S:FnScope N ps (am st)) (len:∀ vs H Q E,sp vs H Q E→vs.length=ps.length)
    (hbody:∀ (cdv:Value) (A:Around) (outer:List Env) (s:Shared) (H:Hp) (vs:List V) (Q:VK) (E:XK),Room k (A.deeper (envOfC qual (am st) s.heap.objs.size f cdv))→sp vs H Q E →
      ∃ t,PSs (qD CX0 P w K mg base N qual (am st) f cdv A outer s H E).nox (cg st) t∧t { nx:=fun _ H'=>Q .non H',rt:=Q } (hZ N vs) H):FnOk P w K mg base CX0 (k+1) f fd ps sp:=by
  obtain ⟨oc,od,kV,doc,pm,an,cdv,ct,osl,rfl,lk,hcd⟩:=F.ex;refine xl lk hcd S len fun A outer s H vs Q E hr hsp=>?_;obtain ⟨t,h,q⟩:=hbody cdv A outer s H vs Q E hr hsp;exact ⟨t,h.nox,q⟩
theorem Fun.binds {x qual:Str} {st:Stmt} {f:Addr} {fd:FuncData} {ps:List Str} (F:Fun K x qual st f fd)
    (h:∀ (kV doc pm:Value) (an:Option Addr) (cdv ct:Value) (us:List Value),us.length=ps.length→bindArgs (abw x qual (cF st) (cg st) (am st) .none kV doc pm an cdv ct) ⟨us,[]⟩=pure (ps.zip us)):Binds K fd ps []:=by
  obtain ⟨oc,od,kV,doc,pm,an,cdv,ct,osl,rfl,lk,hcd⟩:=F.ex;exact .all (h kV doc pm an cdv ct)
theorem sw {x qual:Str} {st:Stmt} {f:Addr} {oc:Value} {od an:Option Addr} {osl:Array (Option Value)} {kV doc pm cdv ct:Value} (l:K.lookup f=some ⟨oc,od,.func (abw x qual (cF st) (cg st) (am st) .none kV doc pm an cdv ct),osl⟩)
    (c:ab1 K cdv qual=true) (k:abq K (.ref f)=true):Fun K x qual st f (abw x qual (cF st) (cg st) (am st) .none kV doc pm an cdv ct):=⟨⟨oc,od,kV,doc,pm,an,cdv,ct,osl,rfl,l,c⟩,k⟩
end
theorem aA {n:Nat} (h:n≤1000):n < sizeLine:=aa2 h (by decide)
section
variable {X:Cx}
theorem pv (i:Nat) {x:Str} {pos:Pos} (hN:X.N[i]?=some x:=by rfl) (hv:Vis X.env.scope x:=by first|exact Or.inl rfl|exact Or.inr (Or.inl rfl)|exact Or.inr (Or.inr rfl)) (hd:(x == ("__debug__":Str))=false:=by decide)
    (hcd:(x == ("__classdict__":Str))=false:=by decide):PE X (.Name x pos) (v4 i):=uZ hN hv hd hcd
end
theorem aB {A B:Prop} (h:B):if false=true then A else B:=by
  rw [if_neg aad];exact h
theorem aI {A B:Prop} (h:A):if true=true then A else B:=by
  rw [if_pos rfl];exact h
theorem g_ {c A B:Prop} [Decidable c] (h1:c→A) (h2:¬ c→B):if c then A else B:=by
  by_cases h:c
  · rw [if_pos h];exact h1 h
  · rw [if_neg h];exact h2 h
theorem rS {c A B:Prop} [Decidable c] (hc:c) (h:B):if (!decide c)=true then A else B:=by
  rw [decide_eq_true hc];exact aB h
def Same (H H':Hp):Prop:=∀ b o,H b=some o→H' b=some o
theorem Same.refl (H:Hp):Same H H:=fun _ _ h=>h
theorem Same.trans {H H1 H2:Hp} (a:Same H H1) (b:Same H1 H2):Same H H2:=fun c o h=>b c o (a c o h)
theorem Same.free {H H':Hp} (e:Same H H') {l:Addr} (h:H' l=Option.none):H l=Option.none:=by
  cases q:H l with
  | none=>rfl
  | some o =>
    rw [e l o q] at h;cases h
theorem Same.seq {K:aaa} {H H':Hp} {a:Addr} {xs:List V} (e:Same H H') (h:SqL K H a xs):SqL K H' a xs:=by
  rcases h with (h|⟨o,h⟩)|h
  · exact .inl (.inl (e _ _ h))
  · exact .inl (.inr ⟨o,e _ _ h⟩)
  · exact .inr h
open PySem PySem.Spec PyProof.Rows
section
variable {κ:Type} [DecidableEq κ]
def bB (kvs:List (κ × V)) (k:κ):Option V:=(kvs.find? fun kv=>decide (kv.1=k)).map (·.2)
def dQ (kvs:List (κ × V)) (k:κ) (v:V):List (κ × V) :=
  if (kvs.any fun kv=>decide (kv.1=k))=true then kvs.map (fun kv=>if kv.1=k then (kv.1,v) else kv) else kvs++[(k,v)]
theorem db {p:κ × V} {r:List (κ × V)} {k:κ} (e:p.1=k):bB (p :: r) k=some p.2:=by simp [bB,aa9,e]
theorem dc {p:κ × V} {r:List (κ × V)} {k:κ} (e:¬ p.1=k):bB (p :: r) k=bB r k:=by simp [bB,aa9,e]
theorem dJ (k:κ):∀ kvs:List (κ × V),(kvs.any fun kv=>decide (kv.1=k))=(bB kvs k).isSome
  | []=>rfl
  | p :: r=>by
    rw [acf];by_cases e:p.1=k
    · simp only [db e,decide_eq_true e,Bool.true_or,Option.isSome_some]
    · rw [dc e,decide_eq_false e,Bool.false_or];exact dJ k r
theorem ii (kvs:List (κ × V)) (k:κ) (v:V):(dQ kvs k v).length≤kvs.length+1:=by
  unfold dQ;split
  · rw [aab];lia
  · rw [aaj,aaY,List.length_nil];lia
theorem qZ {kvs:List (κ × V)} {k:κ} (v:V) (h:bB kvs k=none):dQ kvs k v=kvs++[(k,v)]:=by
  unfold dQ;rw [dJ,h];exact if_neg (by decide)
theorem RelO.isSome_eq {o:Option V} {u:Option Value} (r:RelO o u):o.isSome=u.isSome:=by
  cases o with
  | none=>cases u with
    | none=>rfl
    | some _=>exact (show False from r).elim
  | some _=>cases u with
    | none=>exact (show False from r).elim
    | some _=>rfl
theorem RelO.getD {o:Option V} {u:Option Value} {d:V} {d':Value} (r:RelO o u) (rd:RelV d d'):RelV (o.getD d) (u.getD d'):=by
  cases o with
  | none=>cases u with
    | none=>exact rd
    | some _=>exact (show False from r).elim
  | some _=>cases u with
    | none=>exact (show False from r).elim
    | some _=>exact r
theorem KV.val {kvs:List (κ × V)} {vs:List (κ × Value)} (r:KV kvs vs) (k:κ):RelO (bB kvs k) (valueAt vs k):=by
  unfold KV at r
  induction r with
  | nil=>exact True.intro
  | @cons p q ps qs h t ih =>
    obtain ⟨h1,h2⟩:=h;by_cases e:p.1=k
    · have e':q.1=k:=h1.symm.trans e;have b:valueAt (q :: qs) k=some q.2:=by simp [valueAt,aa9,e']
      rw [db e,b];exact h2
    · have e':¬ q.1=k:=fun z=>e (h1.trans z);have b:valueAt (q :: qs) k=valueAt qs k:=by simp [valueAt,aa9,e']
      rw [dc e,b];exact ih
theorem KV.any {kvs:List (κ × V)} {vs:List (κ × Value)} (r:KV kvs vs) (k:κ):(kvs.any fun kv=>decide (kv.1=k))=vs.any fun kv=>decide (kv.1=k):=by
  unfold KV at r
  induction r with
  | nil=>rfl
  | cons h t ih=>rw [acf,acf,ih,h.1]
theorem KV.repl {kvs:List (κ × V)} {vs:List (κ × Value)} (r:KV kvs vs) (k:κ) {y:V} {u:Value} (ry:RelV y u) :
    KV (kvs.map fun kv=>if kv.1=k then (kv.1,y) else kv) (vs.map fun kv=>if kv.1=k then (kv.1,u) else kv):=by
  unfold KV at r ⊢
  induction r with
  | nil=>exact .nil
  | @cons p q ps qs h t ih =>
    rw [aae,aae];refine .cons ?_ ih;obtain ⟨h1,h2⟩:=h;by_cases e:p.1=k
    · rw [if_pos e,if_pos (h1.symm.trans e)];exact ⟨h1,ry⟩
    · rw [if_neg e,if_neg (fun z=>e (h1.trans z))];exact ⟨h1,h2⟩
theorem KV.put {kvs:List (κ × V)} {vs:List (κ × Value)} (r:KV kvs vs) (k:κ) {y:V} {u:Value} (ry:RelV y u):KV (dQ kvs k y) (stored vs k u):=by
  unfold dQ stored;rw [r.any k];by_cases e:(vs.any fun kv=>decide (kv.1=k))=true
  · rw [if_pos e,if_pos e];exact r.repl k ry
  · rw [if_neg e,if_neg e];exact Paired.snoc r ⟨rfl,ry⟩
theorem KV.length {kvs:List (κ × V)} {vs:List (κ × Value)} (r:KV kvs vs):kvs.length=vs.length:=aaC r
end
theorem oZ {P:Program} {w:World} {k:Key} {u:Value} (r:RelV (kV k) u):(aX P w).is k u=true:=by
  cases k with
  | inl i=>obtain ⟨t,e⟩:=(show ∃ t,u=Value.int i t from r);subst e;exact mz P w i t
  | inr x=>obtain ⟨t,e⟩:=(show ∃ t,u=Value.str x t from r);subst e;exact my P w x t
theorem jU {P:Program} {w:World}:∀ {ks:List Key} {us:List Value},Vals (ks.map kV) us→ItemsAre (aX P w) ks us
  | [],_,r=>by rw [abG] at r;cases r;exact .nil
  | k :: ks,_,r=>by
    rw [aae] at r;cases r with
    | cons h t=>exact .cons (oZ h) (jU t)
abbrev KT (H:Hp):List (List Key × V)→List (List Key × Addr × Value)→Prop:=Paired fun p q=>p.1=q.1∧H q.2.1=some (.tup (p.1.map kV))∧RelV p.2 q.2.2
theorem KT.val {H:Hp} {kvs:List (List Key × V)} {xs:List (List Key × Addr × Value)} (r:KT H kvs xs) (k:List Key):RelO (bB kvs k) ((atKey xs k).map (·.2)):=by
  induction r with
  | nil=>exact True.intro
  | @cons p q ps qs h t ih =>
    obtain ⟨h1,_,h2⟩:=h;by_cases e:p.1=k
    · have e':q.1=k:=h1.symm.trans e;have b:atKey (q :: qs) k=some q.2:=by simp [atKey,aa9,e']
      rw [db e,b];exact h2
    · have e':¬ q.1=k:=fun z=>e (h1.trans z);have b:atKey (q :: qs) k=atKey qs k:=by simp [atKey,aa9,e']
      rw [dc e,b];exact ih
theorem KT.repl {H:Hp} {kvs:List (List Key × V)} {xs:List (List Key × Addr × Value)} (r:KT H kvs xs) (k:List Key) {y:V} {u:Value} (ry:RelV y u) :
    KT H (kvs.map fun kv=>if kv.1=k then (kv.1,y) else kv) (xs.map (putAt k u)):=by
  induction r with
  | nil=>exact .nil
  | @cons p q ps qs h t ih =>
    rw [aae,aae];refine .cons ?_ ih;obtain ⟨h1,h2,h3⟩:=h;unfold putAt;by_cases e:p.1=k
    · rw [if_pos e,if_pos (h1.symm.trans e)];exact ⟨h1,h2,ry⟩
    · rw [if_neg e,if_neg (fun z=>e (h1.trans z))];exact ⟨h1,h2,h3⟩
theorem KT.put {H:Hp} {kvs:List (List Key × V)} {xs:List (List Key × Addr × Value)} (r:KT H kvs xs) (k:List Key) {b:Addr} {y:V} {u:Value} (hb:H b=some (.tup (k.map kV))) (ry:RelV y u) :
    KT H (dQ kvs k y) (storedH xs k b u):=by
  have e:(kvs.any fun kv=>decide (kv.1=k))=(atKey xs k).isSome:=by
    rw [dJ,(r.val k).isSome_eq,Option.isSome_map]
  unfold dQ storedH;rw [e];by_cases q:(atKey xs k).isSome=true
  · rw [if_pos q,if_pos q];exact r.repl k ry
  · rw [if_neg q,if_neg q];exact Paired.snoc r ⟨rfl,hb,ry⟩
theorem KT.keeps {H H':Hp} {kvs:List (List Key × V)} {xs:List (List Key × Addr × Value)} (r:KT H kvs xs) (ht:∀ b ys,H b=some (.tup ys)→H' b=some (.tup ys)):KT H' kvs xs :=
  Paired.mapP r fun _ _ z=>⟨z.1,ht _ _ z.2.1,z.2.2⟩
section
variable {P:Program} {w:World} {H:Hp} {h:Heap} {a:Addr}
theorem uy {u:HO} (ok:HOk P w H h) (e:Rd H a u):ObjOk P w H h a u:=e.ok ok
theorem sO {kvs:List (Key × V)} (ok:HOk P w H h) (e:Rd H a (.dK kvs)):kvs.length≤sizeLine∧(a == sysModules)=false∧∃ vs,KV kvs vs∧h.DictOf (aX P w) a vs :=
  show ObjOk P w H h a (.dK kvs) from uy ok e
theorem pE {kvs:List (Key × V)} (ok:HOk P w H h) (e:H a=some (.dK kvs)):kvs.length≤sizeLine∧(a == sysModules)=false∧∃ vs,KV kvs vs∧h.DictOf (aX P w) a vs:=sO ok (.inl e)
theorem nV {ks:List Key} (ok:HOk P w H h) (e:H a=some (.tup (ks.map kV))):(tupleKind (aX P w)).is h ks a:=by
  obtain ⟨_,its,r,o,h1,h2,n,h3⟩:=(show ObjOk P w H h a (.tup (ks.map kV)) from ok a _ e)
  exact ⟨o,its.toArray,n,h1,h2,h3,by simpa using jU r⟩
theorem sI {kvs:List (List Key × V)} (ok:HOk P w H h) (e:Rd H a (.dT kvs)):kvs.length≤sizeLine∧(a == sysModules)=false ∧
    ∃ xs,KT H kvs xs∧h.DictOfH (tupleKind (aX P w)) a xs:=by
  obtain ⟨z,y,xs,r,o,es,ep,h1,h2,h3,h4,h5⟩:=(show ObjOk P w H h a (.dT kvs) from uy ok e)
  refine ⟨z,y,xs,r,o,es,ep,h1,h2,h3,h4,fun x hx=>?_,h5⟩;have all:∀ {l:List (List Key × V)} {m:List (List Key × Addr × Value)},KT H l m→∀ x∈m,(tupleKind (aX P w)).is h x.1 x.2.1:=by
    intro l m q
    induction q with
    | nil=>intro x hx;exact nomatch hx
    | @cons p q ps qs hq t ih =>
      intro x hx;rcases aai.mp hx with e|hx
      · subst e;exact nV ok (by rw [← hq.1];exact hq.2.1)
      · exact ih x hx
  exact all r x hx
theorem pC {kvs:List (List Key × V)} (ok:HOk P w H h) (e:H a=some (.dT kvs)):kvs.length≤sizeLine∧(a == sysModules)=false ∧
    ∃ xs,KT H kvs xs∧h.DictOfH (tupleKind (aX P w)) a xs:=sI ok (.inl e)
end
def DGet (H:Hp) (a:Addr) (y:V) (r:Option V):Prop :=
  (∃ kvs k,Rd H a (.dK kvs)∧y=kV k∧r=bB kvs k)∨∃ kvs k b,Rd H a (.dT kvs)∧y=.ref b∧H b=some (.tup (k.map kV))∧r=bB kvs k
def DPut (H:Hp) (a:Addr) (y v:V) (H':Hp):Prop :=
  (∃ kvs k,H a=some (.dK kvs)∧y=kV k∧kvs.length < sizeLine∧H'=upd H a (.dK (dQ kvs k v))) ∨
  ∃ kvs k b,H a=some (.dT kvs)∧y=.ref b∧H b=some (.tup (k.map kV))∧kvs.length < sizeLine∧H'=upd H a (.dT (dQ kvs k v))
theorem DGet.t {H:Hp} {a b:Addr} {kvs:List (List Key × V)} {k:List Key} (e:H a=some (.dT kvs)) (eb:H b=some (.tup (k.map kV))):DGet H a (.ref b) (bB kvs k):=.inr ⟨kvs,k,b,.inl e,rfl,eb,rfl⟩
theorem DPut.t {H:Hp} {a b:Addr} {kvs:List (List Key × V)} {k:List Key} {v:V} (e:H a=some (.dT kvs)) (eb:H b=some (.tup (k.map kV))) (hl:kvs.length < sizeLine) :
    DPut H a (.ref b) v (upd H a (.dT (dQ kvs k v))):=.inr ⟨kvs,k,b,e,rfl,eb,hl,rfl⟩
section
variable {X:Cx} {pins:List (Addr × Obj)} {σ:St} {H:Hp} {s:Shared} {a:Addr} {y v:V} {u r:Value} {o:Option V} {A:Around} {E:Value→Shared→Prop}
theorem Inv.big (I:Inv X pins σ H s):sysModules < s.heap.objs.size:=by
  have h:mainGlobals < s.heap.objs.size:=(I.mod.glob.keeps I.bk).lt;exact Nat.lt_trans (by decide) h
theorem qC {Q:Value→Shared→Prop} (hu:A.units+1 < cLine) (I:Inv X pins σ H s) (g:DGet H a y (some v)) (ry:RelV y u) (h:∀ w' s',Inv X pins σ H s'→RelV v w'→Q w' s') :
    wpAny (model X.prog X.w) A (getItem (.ref a) u) Q E s:=by
  rcases g with ⟨kvs,k,e,ey,l⟩|⟨kvs,k,b,e,ey,eb,l⟩
  · subst ey;obtain ⟨z,hd,vs,rel,dd⟩:=sO I.hok e;obtain ⟨w',hw,rw'⟩:=RelO.some_of (v:=v) (o:=valueAt vs k) (by rw [l];exact rel.val k);exact wpAny_getItem_of (oZ ry) dd.mapOf hw (h w' _ (I.tok _) rw')
  · subst ey;cases (show u=Value.ref b from ry);obtain ⟨z,hd,xs,rel,dd⟩:=sI I.hok e;obtain ⟨w',hw,rw'⟩:=RelO.some_of (v:=v) (o:=(atKey xs k).map (·.2)) (by rw [l];exact rel.val k);obtain ⟨p,hp,hp2⟩:=aa7.mp hw;refine wpAny_getItem_heap (tupleKind_room_in1 hu) (nV I.hok eb) dd hp ?_;rw [hp2];exact h w' _ (I.tok _) rw'
theorem iA {h':Heap} {t':Nat} {ob:HO} (I:Inv X pins σ H s) (mu:Mut (H a)) (hs:abg a s.heap h') (he:∃ q,h'.get? a=some q) (new:ObjOk X.prog X.w (upd H a ob) h' a ob) :
    Inv X pins σ (upd H a ob) { s with heap:=h',toks:=t' } :=
  I.write (x:=a) (e:=a) mu (.inl rfl) (fun b q hb z=>(hs.2 b hb).trans z) he new
theorem vL {P:Program} {w:World} {H':Hp} {h':Heap} {kvs:List (Key × V)} {vs:List (Key × Value)} (z:kvs.length≤sizeLine) (hd:(a == sysModules)=false) (rel:KV kvs vs) (dd:h'.DictOf (aX P w) a vs) :
    ObjOk P w H' h' a (.dK kvs):=⟨z,hd,vs,rel,dd⟩
theorem qB {H':Hp} {Q:Unit→Shared→Prop} (hu:A.units+1 < cLine) (I:Inv X pins σ H s) (g:DPut H a y v H') (ry:RelV y u) (rv:RelV v r) (h:∀ s',Inv X pins σ H' s'→Q () s') :
    wpAny (model X.prog X.w) A (setItem (.ref a) u r) Q E s:=by
  rcases g with ⟨kvs,k,e,ey,l,eH⟩|⟨kvs,k,b,e,ey,eb,l,eH⟩
  · subst ey eH;obtain ⟨z,hd,vs,rel,dd⟩:=pE I.hok e;have hz:vs.length≤sizeLine:=by rw [← rel.length];exact z
    have hl:(dQ kvs k v).length≤sizeLine:=by have:=ii kvs k v;lia
    refine wpAny_setItem_pairs (hsz:=hz) (oZ ry) dd fun h' dd' hs=>h _ ?_;have he:∃ q,h'.get? a=some q:=let ⟨q,_,_,hq,_⟩:=dd';⟨q,hq⟩;exact iA I (by rw [e];exact True.intro) hs he (vL hl hd (rel.put k rv) dd')
  · subst ey eH;cases (show u=Value.ref b from ry);obtain ⟨z,hd,xs,rel,dd⟩:=pC I.hok e;have hz:xs.length≤sizeLine:=by rw [← aaC rel];exact z
    have hl:(dQ kvs k v).length≤sizeLine:=by have:=ii kvs k v;lia
    refine wpAny_setItem_heap (hsz:=hz) (tupleKind_room_in1 hu) (nV I.hok eb) dd fun h' dd' hs=>h _ ?_;obtain ⟨q,es,ep,hq,h2,h3,h4,_,h5⟩:=dd';refine iA I (by rw [e];exact True.intro) hs ⟨q,hq⟩ ⟨hl,hd,_,(rel.put k eb rv).keeps fun c ys ec=>?_,q,es,ep,hq,h2,h3,h4,h5⟩;rw [aq (uA ec e (fun z=>nomatch z))];exact ec
end
section
variable {X:Cx} {pins:List (Addr × Obj)} {σ:St} {H:Hp} {s:Shared} {a:Addr} {kvs:List (Key × V)} {k:Key} {u:Value} {A:Around} {E:Value→Shared→Prop}
end
def vR (i:Expr):Prop:=∀ ov iv,subscripted i false ov iv=operate [ov,iv] (getItem ov iv)
theorem oE {prog:Program} {w:World} {A:Around} {E:Value→Shared→Prop} {s:Shared} {env:Env} {value slice:Expr} {pos:Pos} {T id:String} {Q:Value→Shared→Prop}
    (hl:typeLookup (.type T) "__getitem__" = pure (some (.builtin id))) (hs:vR slice)
    (h:wpAny (model prog w) A (eval value env) (fun o s₁=>wpAny (model prog w) A (eval slice env) (fun i s₂=>s₂.TypeIs o T∧wpAny (model prog w) A (getItem o i) Q E s₂) E s₁) E s) :
    wpAny (model prog w) A (eval (.Subscript value slice pos) env) Q E s:=by
  refine Subscript_ (wpAny_mono h (fun o s₁ h₁=>wpAny_mono h₁ (fun i s₂ h₂=>?_) fun _ _ x=>x) fun _ _ x=>x);obtain ⟨hT,h₂⟩:=h₂;unfold subscriptTail;refine wpAny_bind ?_;rw [getitemInPython_of_ne hT.not_modules];refine wpAny_bind (wpAny_specialOf hT hl ?_);have fin:wpAny (model prog w) A (subscripted slice false o i) (fun r s₃=>wpAny (model prog w) A (letTemporaryGo value o r >>= fun _=>pure r) Q E s₃) E s₂:=by
    rw [hs o i];exact wpAny_operating (wpAny_mono h₂ (fun r s₃ h₃=>wpAny_bind (wpAny_letTemporaryGo (wpAny_pure h₃))) fun _ _ x=>x)
  first
    | exact wpAny_pure (wpAny_bind fin)
    | exact wpAny_bind (wpAny_pure (wpAny_bind fin))
    | exact wpAny_bind fin
theorem mI {X:Cx} {pins:List (Addr × Obj)} {σ:St} {H:Hp} {s:Shared} {a:Addr} {y:V} {o:Option V} (I:Inv X pins σ H s) (g:DGet H a y o):s.TypeIs (.ref a) "dict":=by
  rcases g with ⟨kvs,k,e,_,_⟩|⟨kvs,k,b,e,_,_,_⟩
  · obtain ⟨_,_,vs,_,dd⟩:=sO I.hok e;exact dd.typeIs
  · obtain ⟨_,_,xs,_,dd⟩:=sI I.hok e;exact dd.typeIs
def wf (td ty:TE):TE:=fun σ H Q=>td σ H fun x H1=>ty σ H1 fun y H2=>∃ a v,x=.ref a∧DGet H2 a y (some v)∧Q v H2
def wx (td ty tv:TE):TS:=fun D σ H=>tv σ H fun v H1=>td σ H1 fun x H2=>ty σ H2 fun y H3=>∃ a H4,x=.ref a∧DPut H3 a y v H4∧D.nx σ H4
section
variable {X:Cx} {o i e value:Expr} {pos pos' tpos:Pos} {td ty tv:TE}
theorem iy (hu:X.A.units+1 < cLine) (ho:PE X o td) (hi:PE X i ty) (hs:vR i):PE X (.Subscript o i pos) (wf td ty):=by
  intro pins s σ H Q I h;refine oE acN.lookup hs (thn (ho pins s σ H _ I h) fun u s1 ⟨x,H1,I1,rx,q1⟩=>thn (hi pins s1 σ H1 _ I1 q1) fun iv s2 ⟨y,H2,I2,ry,a,v,ex,g,q2⟩=>?_);subst ex;obtain rfl:u=Value.ref a:=rx;exact ⟨mI I2 g,qC hu I2 g ry fun w' s3 I3 rw'=>⟨v,H2,I3,rw',q2⟩⟩
theorem oO (hu:X.A.units+1 < cLine) (ho:PE X o td) (hi:PE X i ty) (hv:PE X value tv) (hs:swapsWith value (some (.Subscript o i pos')) pos.line X.env=pure false) :
    PS X (.Assign [.Subscript o i pos'] value pos) (wx td ty tv):=by
  intro pins s σ H D I h;refine wpAny_Assign_Subscript (thn (hv pins s σ H _ I h) fun r s1 ⟨v,H1,I1,rv,q1⟩=>thn (ho pins s1 σ H1 _ I1 q1) fun u s2 ⟨x,H2,I2,rx,q2⟩=>thn (hi pins s2 σ H2 _ I2 q2) fun iv s3 ⟨y,H3,I3,ry,a,H4,ex,g,q3⟩=>?_) hs;subst ex;obtain rfl:u=Value.ref a:=rx;exact qB hu I3 g ry rv fun s4 I4=>⟨σ,H4,I4,q3⟩
end
theorem sP {P:Program} {w:World} {H:Hp} (h:Heap) (hb:sysModules < h.objs.size):ObjOk P w H (h.push { cls:=.type "dict",data:=.dict #[] }) h.objs.size (.dK []) :=
  ⟨aaU _,beq_eq_false_iff_ne.mpr (abS (aaF hb)),[],.nil,Heap.DictOf.new h⟩
theorem sL {P:Program} {w:World} {H:Hp} (h:Heap) (hb:sysModules < h.objs.size):ObjOk P w H (h.push { cls:=.type "dict",data:=.dict #[] }) h.objs.size (.dT []) :=
  ⟨aaU _,beq_eq_false_iff_ne.mpr (abS (aaF hb)),[],.nil,_,#[],0,aau _ rfl,⟨rfl,rfl,rfl⟩,rfl,rfl,acI⟩
def uM:TE:=fun _ H Q=>∀ p,H p=none→Q (.ref p) (upd H p (.dK []))
def uL:TE:=fun _ H Q=>∀ p,H p=none→Q (.ref p) (upd H p (.dT []))
section
variable {X:Cx} {pos:Pos}
theorem gq:PE X (.Dict [] [] pos) uM:=fun pins s σ H Q I h =>
  wpAny_Dict_empty ⟨.ref s.heap.objs.size,_,I.laid (a:=s.heap.objs.size) (o:=.dK []) (t':=s.toks) (fun _ _ q=>aaf _ q) (aah _) (sP s.heap I.big),rfl,h _ (I.hok.fresh (aah _))⟩
theorem l5:PE X (.Dict [] [] pos) uL:=fun pins s σ H Q I h =>
  wpAny_Dict_empty ⟨.ref s.heap.objs.size,_,I.laid (a:=s.heap.objs.size) (o:=.dT []) (t':=s.toks) (fun _ _ q=>aaf _ q) (aah _) (sL s.heap I.big),rfl,h _ (I.hok.fresh (aah _))⟩
end
structure M1 (X:Cx) (o:Expr) (m:Str) (apos:Pos) (e:Expr) (cpos:Pos):Prop where
  base:attributeBase o m X.env (eval o X.env)=eval o X.env
  few:((backTo cpos (starEach [e] X.env)).all (fun x=>!x.1) && (backToKw cpos (keywordEach [] X.env)).all (fun x=>x.1.isSome)
    && decide (([e]:List Expr).length+([]:List Keyword).length+(if ([]:List Keyword).isEmpty then 0 else 1) < 30))=true
  line:(apos.endLine == cpos.line)=true
  trees:backTo cpos (starEach [e] X.env)=[(false,eval e X.env)]
structure M2 (X:Cx) (o:Expr) (m:Str) (apos:Pos) (e f:Expr) (cpos:Pos):Prop where
  base:attributeBase o m X.env (eval o X.env)=eval o X.env
  few:((backTo cpos (starEach [e,f] X.env)).all (fun x=>!x.1) && (backToKw cpos (keywordEach [] X.env)).all (fun x=>x.1.isSome)
    && decide (([e,f]:List Expr).length+([]:List Keyword).length+(if ([]:List Keyword).isEmpty then 0 else 1) < 30))=true
  line:(apos.endLine == cpos.line)=true
  trees:backTo cpos (starEach [e,f] X.env)=[(false,eval e X.env),(false,eval f X.env)]
section
variable {X:Cx} {pins:List (Addr × Obj)} {σ:St} {H:Hp} {s:Shared} {a:Addr} {y d:V} {u r:Value} {o:Option V} {A:Around} {E:Value→Shared→Prop}
end
section
variable {X:Cx} {o e f:Expr} {apos cpos:Pos} {td ty tx:TE}
end
section
variable {X:Cx} {pins:List (Addr × Obj)} {σ:St} {H:Hp} {s:Shared} {a:Addr} {kvs:List (Key × V)} {A:Around} {E:Value→Shared→Prop}
end
section
variable {X:Cx} {pins:List (Addr × Obj)} {σ:St} {H:Hp} {s:Shared} {a:Addr} {y:V} {u:Value} {A:Around} {E:Value→Shared→Prop}
end
open PySem PySem.Spec PyProof.Rows
section
variable {X:Cx}
end
section
variable {κ:Type} [DecidableEq κ]
theorem qI {kvs:List (κ × V)} {k:κ} (h:bB kvs k=none):¬ k∈kvs.map (·.1):=by
  intro m;obtain ⟨p,hp,e⟩:=aan.mp m;have q:(kvs.any fun kv=>decide (kv.1=k))=true:=List.any_eq_true.mpr ⟨p,hp,decide_eq_true e⟩;rw [dJ,h] at q;exact absurd q (by simp)
theorem oV:∀ {l:List κ} {k:κ},l.Nodup→¬ k∈l→(l++[k]).Nodup
  | [],k,_,_=>by simp
  | a :: r,k,h,hk=>by
    obtain ⟨h1,h2⟩:=aba.mp h;show (a :: (r++[k])).Nodup;refine List.nodup_cons.mpr ⟨fun m=>?_,oV h2 fun m=>hk (List.mem_cons.mpr (Or.inr m))⟩;rcases aav.mp m with q|q
    · exact h1 q
    · exact hk (List.mem_cons.mpr (Or.inl (aaM.mp q).symm))
theorem tT {kvs:List (κ × V)} {k:κ} (v:V) (hn:(kvs.map (·.1)).Nodup) (h:bB kvs k=none):((dQ kvs k v).map (·.1)).Nodup:=by
  rw [qZ v h,aaH];exact oV hn (qI h)
end
end L2
set_option maxHeartbeats 4000000
namespace L2
open PySem PySem.Spec PyProof.Rows
theorem Inv.adopt {X:Cx} {pins:List (Addr × Obj)} {σ:St} {H:Hp} {s:Shared} {a:Addr} {o:HO} (I:Inv X pins σ H s) (hn:H a=none) (hs:X.s₀.heap.objs.size≤a) (hL:a≠X.env.locals) (hC:∀ x c,X.env.cells.lookup x=some c→c≠a) (hp:∀ p∈X.pn++pins,p.1≠a)
    (new:ObjOk X.prog X.w (upd H a o) s.heap a o):Inv X pins σ (upd H a o) s:=by
  have ne:∀ b u,X.s₀.heap.get? b=some u→b≠a:=fun b u e=>aaF (aam (aaq e) hs);refine ⟨I.ok,I.os,I.bare,⟨I.base.keep,I.base.slot,fun b u e n hx=>?_,I.base.there,fun b xs e=>?_,fun b u xs e=>?_,fun b ps e=>?_⟩,I.loc,I.cell,?_,fun x c e=>?_,fun p hq=>?_,fun b u e=>?_,I.len⟩
  · rw [aq (ne b u e)];exact I.base.free b u e n hx
  · have q:=I.base.tups b xs e;rw [aq (ao q hn)];exact q
  · have q:=I.base.frzs b u xs e;rw [aq (ao q hn)];exact q
  · obtain ⟨m,q⟩:=I.base.tbls b ps e;exact ⟨m,by rw [aq (ao q hn)];exact q⟩
  · rw [aq (abS hL)];exact I.free
  · rw [aq (hC x c e)];exact I.freeC x c e
  · obtain ⟨h1,h2,h3⟩:=I.pin p hq;exact ⟨h1,by rw [aq (hp p hq)];exact h2,h3⟩
  · by_cases hb:b=a
    · subst hb;rw [ad] at e;cases e;exact new
    · rw [aq hb] at e;exact (I.hok b u e).stay (fun c v _ q=>q) (fun c q=>by rw [aq (ao q hn)];exact q) fun c xs q=>by rw [aq (ao q hn)];exact q
def CellsIn (E:Env):List (Str × Addr)→Prop
  | []=>True
  | p :: r=>E.cells.lookup p.1=some p.2∧CellsIn E r
theorem CellsIn.get {E:Env}:∀ {cl:List (Str × Addr)} {x:Str} {c:Addr},CellsIn E cl→cl.lookup x=some c→E.cells.lookup x=some c:=by
  intro cl x c h e;have hm:=abp e;clear e
  induction cl with
  | nil=>exact nomatch hm
  | cons p r ih =>
    rcases aai.mp hm with q|q
    · have:=h.1;rw [← q] at this;exact this
    · exact ih h.2 q
def CapOk (XE:Env) (sc:Scope) (XN:List Str):List Str→List (Option Nat)→Prop
  | [],[]=>True
  | _ :: n,none :: c=>CapOk XE sc XN n c
  | x :: n,some i :: c=>(XN[i]?=some x∧(XE.kindOf x=some .cell∨XE.kindOf x=some .free)∧(sc.names.lookup x=some .cell∨sc.names.lookup x=some .free))∧CapOk XE sc XN n c
  | _,_=>False
def xp (σ:St) (o:Option Nat):Option V:=match o with
  | none=>none
  | some i=>(σ[i]?).join
def bV (cap:List (Option Nat)) (σ:St):St:=cap.map (xp σ)
theorem CapOk.len {XE:Env} {sc:Scope} {XN:List Str}:∀ {n:List Str} {c:List (Option Nat)},CapOk XE sc XN n c→c.length=n.length
  | [],[],_=>rfl
  | _ :: _,none :: _,h=>congrArg (·+1) (CapOk.len (n:=_) (c:=_) h)
  | _ :: _,some _ :: _,h=>congrArg (·+1) (CapOk.len h.2)
  | [],_ :: _,h=>(show False from h).elim
  | _ :: _,[],h=>(show False from h).elim
theorem CapOk.get {XE:Env} {sc:Scope} {XN:List Str} {σ:St} {n:List Str} {c:List (Option Nat)} {j:Nat} {x:Str} {v:V} (h:CapOk XE sc XN n c) (h1:n[j]?=some x) (e:(bV c σ)[j]?=some (some v)) :
    ∃ i:Nat,XN[i]?=some x∧σ[i]?=some (some v)∧(XE.kindOf x=some .cell∨XE.kindOf x=some .free)∧(sc.names.lookup x=some .cell∨sc.names.lookup x=some .free):=by
  induction n generalizing c j with
  | nil=>cases h1
  | cons y n ih =>
    cases c with
    | nil=>exact h.elim
    | cons o c =>
      cases j with
      | zero =>
        cases h1;cases o with
        | none=>cases e
        | some i =>
          refine ⟨i,h.1.1,?_,h.1.2⟩;have e:some ((σ[i]?).join)=some (some v):=e;cases q:σ[i]? with
          | none=>rw [q] at e;cases e
          | some w=>rw [q] at e;injection e with e;exact congrArg some e
      | succ j =>
        cases o with
        | none=>exact ih (c:=c) (j:=j) h h1 e
        | some i=>exact ih (c:=c) (j:=j) h.2 h1 e
def dR (X:Cx) (E:Env) (fn:Str→Bool) (NY:List Str) (fp:List Addr) (s:Shared) (H:Hp):Cx where
  prog:=X.prog
  w:=X.w
  K:=X.K
  mg:=X.mg
  base:=X.base
  A:=X.A
  N:=NY
  s₀:=s
  H₀:=H
  env:=E
  outer:=X.stack
  stack:=X.stack
  ex:=fp
  fn:=fn
  calm:=X.calm
  pn:=[]
  xe:=fun _ _=>False
abbrev aV (X:Cx) (scope:Scope) (cl:List (Str × Addr)) (NY:List Str) (fp:List Addr) (s:Shared) (H:Hp) (C:Addr):Cx:=dR X (compEnvC scope cl C X.env) (fun _=>false) NY fp s H
def gD (X:Cx) (ifs:List Expr) (t:TT):Prop :=
  ∀ (pins:List (Addr × Obj)) (s:Shared) (σ:St) (H:Hp) (Q:Bool→Hp→Prop),Inv X pins σ H s→t σ H Q →
    wpAny (model X.prog X.w) X.A (forIn ifs true fun c r=>if r=true then do let ok ← isTrue c X.env (eval c X.env);pure (ForInStep.yield ok) else pure (ForInStep.yield r)) (TP X pins σ Q) X.xe s
theorem aH {X:Cx}:gD X [] (fun _ H Q=>Q true H):=fun _ _ _ H _ I h=>wpAny_tests_nil ⟨H,I,h⟩
theorem iV {X:Cx} {c:Expr} {t:TT} (h:PT X c t):gD X [c] t:=fun pins s σ H Q I q=>wpAny_tests_one (h pins s σ H Q I q)
theorem jJ {elt tg2 iter2:Expr} {ifs2:List Expr} {G:List Comprehension} {k:Nat} (hk:G[k]?=some ⟨tg2,iter2,ifs2,0⟩) (hk2:G[k+1]?=none) {scope:Scope} {pos:Pos} {it acc:Value} {env:Env} :
    compTurn (.ListComp elt G scope pos) k it acc env=(do
      standAt iter2.pos
      match ← pyNext it with
      | none=>pure (.done .next)
      | some v =>
        letOwnedTupleGo tg2 it v
        assign tg2 env v
        let mut ok:=true
        for c in ifs2 do
          if ok then ok ← isTrue c env (eval c env)
        if ok then
          (do let _ ← call (.builtin "list.append") [acc,← eval elt env])
        again (.compLoop (.ListComp elt G scope pos) k it acc env)):=by
  unfold compTurn;simp only [hk,hk2];rfl
theorem og {prog:Program} {w:World} {A:Around} {R:Result→Shared→Prop} {s:Shared} {elt tg2 iter2:Expr} {ifs2:List Expr} {G:List Comprehension} {k:Nat} (hk:G[k]?=some ⟨tg2,iter2,ifs2,0⟩) (hk2:G[k+1]?=none) {scope:Scope} {pos:Pos} {it acc:Value} {env:Env} (J:Nat→Shared→Prop)
    (turn:∀ n s,J n s→wpAny (model prog w) A (pyNext it) (fun r s₁=>match r with
      | none=>R (.ok .next) s₁
      | some v=>wpAny (model prog w) A (letOwnedTupleGo tg2 it v) (fun _ s₁'=>wpAny (model prog w) A (assign tg2 env v) (fun _ s₂ =>
          wpAny (model prog w) A (forIn ifs2 true fun c r=>if r=true then do let ok ← isTrue c env (eval c env);pure (ForInStep.yield ok) else pure (ForInStep.yield r)) (fun ok s₃ =>
            if ok=true then wpAny (model prog w) A (eval elt env) (fun x s₄ =>
              wpAny (model prog w) A (call (.builtin "list.append") [acc,x]) (fun _ s₅=>∃ m,m < n∧J m s₅) (fun _ _=>False) s₄) (fun _ _=>False) s₃
            else ∃ m,m < n∧J m s₃) (fun _ _=>False) s₂) (fun _ _=>False) s₁') (fun _ _=>False) s₁) (fun _ _=>False) s)
    (n:Nat) (h:J n s) :
    codeAny (model prog w) A (.compLoop (.ListComp elt G scope pos) k it acc env) R s:=by
  refine codeAny_loop rfl J (fun n s hI=>?_) n h;show wpAny _ A ((compTurn (.ListComp elt G scope pos) k it acc env).onRaise (fun x=>do noteFrame x env;theTreesLotGoes x)) _ _ s;refine wpAny_noted ?_;rw [jJ hk hk2];refine wpAny_bind (wpAny_standAt (wpAny_bind (wpAny_mono (turn n s hI) (fun r s₁ h₁=>?_) fun _ _ h'=>h'.elim)));cases r with
  | none=>exact wpAny_pure h₁
  | some v =>
    refine wpAny_bind (wpAny_mono h₁ (fun _ s₁' h₁'=>?_) fun _ _ h'=>h'.elim);refine wpAny_bind (wpAny_mono h₁' (fun _ s₂ h₂=>wpAny_bind (wpAny_mono h₂ (fun ok s₃ h₃=>?_) fun _ _ h'=>h'.elim)) fun _ _ h'=>h'.elim);cases ok with
    | false=>exact wpAny_pure ⟨rfl,h₃⟩
    | true =>
      exact wpAny_bind (wpAny_bind (wpAny_mono h₃ (fun x s₄ h₄=>wpAny_bind (wpAny_mono h₄ (fun _ s₅ h₅=>wpAny_pure (wpAny_pure ⟨rfl,h₅⟩)) fun _ _ h'=>h'.elim)) fun _ _ h'=>h'.elim))
abbrev Lp (D:Addr) (its:List Value) (k:Nat):Addr × Obj:=(D,{ cls:=.type "list",data:=.seq its.toArray k })
section
variable {X:Cx} {pins:List (Addr × Obj)} {σ:St} {H2:Hp} {s2:Shared}
theorem Inv.cellLt (I2:Inv X pins σ H2 s2):∀ x c,X.env.cells.lookup x=some c→c < s2.heap.objs.size:=fun x c e=>by
  obtain ⟨v,q⟩:=I2.cell x c e;exact q.lt
theorem Inv.notStk (I2:Inv X pins σ H2 s2) {b:Addr} (hb:s2.heap.objs.size≤b):b∉frs X.stack:=fun hz=>by
  rcases aai.mp (I2.stkSub b hz) with z|z
  · have:=I2.lt;rw [← z] at this;exact absurd (aam this hb) (abH _)
  · exact I2.nofs hb z
theorem Inv.offC (I2:Inv X pins σ H2 s2) {C:Addr} (hC:s2.heap.objs.size≤C) {σ':St} {H:Hp} {s:Shared} {h':Heap} (I:Inv X pins σ' H s) (hn:H C=none) (he:∀ b o,b≠C→s.heap.get? b=some o→h'.get? b=some o):Inv X pins σ' H { s with heap:=h' } :=
  I.turned (t':=s.toks) (it:=C) he hn (abA (aam I2.lt hC)) (.inr (aaE I2.sz hC)) (fun x c e z=>absurd (I2.cellLt x c e) (by rw [z];exact acO.mpr hC)) (fun p hp z=>absurd (aaq (I2.pin p hp).1) (by rw [z];exact acO.mpr hC))
theorem Inv.takeD (I2:Inv X pins σ H2 s2) {D:Addr} (hD:s2.heap.objs.size≤D) {σ':St} {H:Hp} {s:Shared} {o:HO} (I:Inv X pins σ' H s) (hn:H D=none) (ok:ObjOk X.prog X.w (upd H D o) s.heap D o):Inv X pins σ' (upd H D o) s :=
  I.adopt hn (aaE I2.sz hD) (abA (aam I2.lt hD)) (fun x c e=>aaF (aam (I2.cellLt x c e) hD)) (fun p hp=>aaF (aam (aaq (I2.pin p hp).1) hD)) ok
variable {E:Env} {fn:Str→Bool} {NY:List Str} {fp:List Addr}
theorem Inv.outB (I2:Inv X pins σ H2 s2) (f2:∀ b∈fp,eR X pins H2 b) {P:List (Addr × Obj)} {σ':St} {H3:Hp} {s4:Shared} (I4:Inv (dR X E fn NY fp s2 H2) P σ' H3 s4):Inv X pins σ H3 s4 :=
  I2.call' (ch:=fp) I4.os (show Un (frs X.stack) fp H2 H3 s2.heap s4.heap from I4.base) I4.hok I4.bare fun b hb=>⟨(f2 b hb).2.2.2.1,(f2 b hb).2.1,(f2 b hb).2.2.2.2.1,(f2 b hb).2.2.2.2.2⟩
structure BlkC (X:Cx) (s2:Shared) (h₁:Heap) (E:Env) (fn:Str→Bool):Prop where
  kind:E.scope.kind=.function
  glob:E.globals=X.env.globals
  blt:E.builtins=X.env.builtins
  loc:s2.heap.objs.size≤E.locals
  old:∀ b o,s2.heap.get? b=some o→h₁.get? b=some o
  ns:∃ m,h₁.Ns E.locals m
  cell:∀ x c,E.cells.lookup x=some c→(fn x=false∧X.env.cells.lookup x=some c)∨(fn x=true∧s2.heap.objs.size≤c∧c≠E.locals∧h₁.get? c=some { cls:=.type "cell",data:=.cell none }∧∀ y,E.cells.lookup y=some c→y=x)
  has:∀ x,E.kindOf x=some .cell∨E.kindOf x=some .free→∃ c,E.cells.lookup x=some c
theorem CapOk.noFn {fn:Str→Bool} {n:List Str} {c:List (Option Nat)} {j:Nat} {x:Str} {v:V} {σ:St} (h:((n.zip c).all fun p=>!fn p.1 || p.2 == none)=true) (h1:n[j]?=some x) (e:(bV c σ)[j]?=some (some v)):fn x=false:=by
  rw [bV,aao] at e;cases q:c[j]? with
  | none=>rw [q] at e;cases e
  | some o =>
    rw [q] at e;cases o with
    | none=>simp [xp] at e
    | some i =>
      have m:(x,some i)∈n.zip c:=aas (i:=j) (by rw [List.getElem?_zip_eq_some];exact ⟨h1,q⟩);have:=aaV.mp h _ m;simpa using this
variable {h₁:Heap}
theorem Inv.fps (I2:Inv X pins σ H2 s2) (f2:∀ b∈fp,eR X pins H2 b) (fpl:∀ b∈fp,b < s2.heap.objs.size) (B:BlkC X s2 h₁ E fn) {P:List (Addr × Obj)} (hP:∀ p∈P,s2.heap.objs.size≤p.1) {H':Hp} (hn:∀ b∈fp,H' b=none):∀ b∈fp,eR (dR X E fn NY fp s2 H2) P H' b:=fun b hb=>by
  refine ⟨hn b hb,aaF (aam (fpl b hb) B.loc),fun hz=>?_,.inl hb,fun x c e=>?_,fun p hp=>?_⟩
  · rcases aai.mp (I2.stkSub b hz) with z|z
    · exact (f2 b hb).2.1 z
    · exact (f2 b hb).2.2.1 z
  · rcases B.cell x c e with z|z
    · exact (f2 b hb).2.2.2.2.1 x c z.2
    · exact abA (aam (fpl b hb) z.2.1)
  · exact abA (aam (fpl b hb) (hP p hp))
theorem Inv.blkLoc (I2:Inv X pins σ H2 s2) (B:BlkC X s2 h₁ E fn) {cap:List (Option Nat)} (hcap:CapOk X.env E.scope X.N NY cap) (hx:((NY.zip cap).all fun p=>!fn p.1 || p.2 == none)=true) {h:Heap} (hk:∀ x c o,X.env.cells.lookup x=some c→s2.heap.get? c=some o→∃ o',h.get? c=some o'∧o'.data=o.data) {m:Str→Option Value} :
    ∀ (i:Nat) (x:Str) (v:V),NY[i]?=some x→(bV cap σ)[i]?=some (some v)→∃ u,RelV v u∧xt E h m x u:=fun j x v e1 e2=>by
  obtain ⟨i,h1,h2,h3,h4⟩:=CapOk.get (σ:=σ) hcap e1 e2;have nf:=CapOk.noFn hx e1 e2;obtain ⟨m',hn,hl⟩:=I2.loc;have vis:Vis X.env.scope x:=by rcases h3 with z|z;exact .inr (.inl z);exact .inr (.inr z)
  obtain ⟨u,r,l⟩:=hl i x v h1 h2 vis;refine ⟨u,r,.inr ⟨h4,?_⟩⟩;rcases l with ⟨k,_⟩|⟨_,c,e,z⟩
  · rcases h3 with z|z <;> (rw [k] at z;cases z)
  · obtain ⟨c',e'⟩:=B.has x h4;rcases B.cell x c' e' with q|q
    · have e'':=q.2;rw [e] at e'';cases e'';obtain ⟨o,ho,hd⟩:=z;obtain ⟨o',h',d'⟩:=hk x c o e ho;exact ⟨c,e',o',h',d'.trans hd⟩
    · rw [nf] at q;exact absurd q.1 aad
theorem Inv.blk (I2:Inv X pins σ H2 s2) (f2:∀ b∈fp,eR X pins H2 b) (fpl:∀ b∈fp,b < s2.heap.objs.size) (B:BlkC X s2 h₁ E fn) {cap:List (Option Nat)} (hcap:CapOk X.env E.scope X.N NY cap) (hx:((NY.zip cap).all fun p=>!fn p.1 || p.2 == none)=true)
    {P:List (Addr × Obj)} (hP:∀ p∈P,h₁.get? p.1=some p.2∧s2.heap.objs.size≤p.1∧p.1≠E.locals∧∀ v,p.2.data≠.cell v) {t':Nat}:Inv (dR X E fn NY fp s2 H2) P (bV cap σ) H2 { s2 with heap:=h₁,toks:=t' }:=by
  refine ⟨⟨I2.ok.mod,B.kind,B.glob.trans I2.ok.glob,B.blt.trans I2.ok.blt,B.loc,fun x y c e1 e2=>?_,B.has,fun x c hf e=>?_,I2.ok.hd,I2.ok.frames,.inl rfl,fun b hb=>⟨aaF (aam (fpl b hb) B.loc),fun x c e z=>?_⟩,I2.bs,aaE I2.ok.bsz I2.sz,fun b o e hb=>?_,fun b hb hz=>?_,I2.stack,I2.stkFree⟩,
    rfl,I2.bare,Un.kept B.old,⟨B.ns.choose,B.ns.choose_spec,fun j x v e1 e2 _=>I2.blkLoc B hcap hx (fun x c o _ ho=>⟨o,B.old _ _ ho,rfl⟩) j x v e1 e2⟩,fun x c e=>?_,I2.hok.fresh B.loc,fun x c e=>?_,fun p hp=>?_,I2.hok.kept B.old,?_⟩
  · rcases B.cell x c e1 with z|z
    · rcases B.cell y c e2 with q|q
      · exact I2.ok.inj x y c z.2 q.2
      · exact absurd (I2.cellLt x c z.2) (acO.mpr q.2.1)
    · exact (z.2.2.2.2 y e2).symm
  · rcases B.cell x c e with z|z
    · have hf:fn x=true:=hf;rw [z.1] at hf;cases hf
    · exact z.2.1
  · rcases B.cell x c e with q|q
    · exact (f2 b hb).2.2.2.2.1 x c q.2 z
    · exact absurd (fpl b hb) (by rw [← z];exact acO.mpr q.2.1)
  · rcases (f2 b hb).2.2.2.1 with z|z
    · exact I2.ok.noex b o e z
    · exact absurd (aam (aaq (I2.ok.bs b o e).1) z) (abH _)
  · rcases aai.mp (I2.stkSub b hz) with z|z
    · exact (f2 b hb).2.1 z
    · exact (f2 b hb).2.2.1 z
  · rcases B.cell x c e with q|q
    · obtain ⟨v,o,ho,hd⟩:=I2.cell x c q.2;exact ⟨v,o,B.old _ _ ho,hd⟩
    · exact ⟨none,_,q.2.2.2.1,rfl⟩
  · rcases B.cell x c e with q|q
    · exact I2.freeC x c q.2
    · exact I2.hok.fresh q.2.1
  · obtain ⟨h1,h2,h3,h4⟩:=hP p hp;exact ⟨h1,I2.hok.fresh h2,h3,I2.notStk h2,h4⟩
  · show (bV cap σ).length=NY.length;unfold bV;rw [aab];exact hcap.len
theorem Inv.recap (I2:Inv X pins σ H2 s2) (f2:∀ b∈fp,eR X pins H2 b) (B:BlkC X s2 h₁ E fn) {cap:List (Option Nat)} (hcap:CapOk X.env E.scope X.N NY cap) (hx:((NY.zip cap).all fun p=>!fn p.1 || p.2 == none)=true) {pn:List (Addr × Obj)} {σ':St} {H':Hp} {s':Shared} (Z:Inv (dR X E fn NY fp s2 H2) pn σ' H' s'):Inv (dR X E fn NY fp s2 H2) pn (bV cap σ) H' s':=by
  refine ⟨Z.ok,Z.os,Z.bare,Z.base,?_,Z.cell,Z.free,Z.freeC,Z.pin,Z.hok,?_⟩
  · obtain ⟨m,hn,_⟩:=Z.loc;refine ⟨m,hn,fun j x v e1 e2 _=>I2.blkLoc B hcap hx (fun x c o e ho=>?_) j x v e1 e2⟩;have nfp:c∉fp:=fun hz=>(f2 c hz).2.2.2.2.1 x c e rfl;obtain ⟨sl,q⟩:=Z.base.any (show s2.heap.get? c=some o from ho) (I2.freeC x c e) nfp;exact ⟨_,q,rfl⟩
  · show (bV cap σ).length=NY.length;unfold bV;rw [aab];exact hcap.len
theorem Inv.blkC (I2:Inv X pins σ H2 s2) {scope:Scope} {cl:List (Str × Addr)} (hci:CellsIn X.env cl) (hkind:scope.kind=.function) (hhas:((relabel scope X.env).names.all fun p=>(p.2 != .cell && p.2 != .free) || (cl.lookup p.1).isSome)=true) {C:Addr} (hC:s2.heap.objs.size≤C)
    (old:∀ b o,s2.heap.get? b=some o→h₁.get? b=some o) (hns:∃ m,h₁.Ns C m):BlkC X s2 h₁ (compEnvC scope cl C X.env) (fun _=>false):=by
  refine ⟨hkind,rfl,rfl,hC,old,hns,fun x c e=>.inl ⟨rfl,hci.get e⟩,fun x hx=>?_⟩;have hx':(relabel scope X.env).names.lookup x=some .cell∨(relabel scope X.env).names.lookup x=some .free:=hx;have key:∀ k,(relabel scope X.env).names.lookup x=some k→(k=.cell∨k=.free)→∃ c,cl.lookup x=some c:=fun k e hk=>by
    have q:=aaV.mp hhas (x,k) (abp e);have q':(cl.lookup x).isSome=true:=by
      rcases hk with rfl|rfl <;> simpa using q
    exact acp.mp q'
  rcases hx' with e|e
  · exact key _ e (.inl rfl)
  · exact key _ e (.inr rfl)
theorem fZ {NY:List Str} {cap:List (Option Nat)}:((NY.zip cap).all fun p=>!(fun _:Str=>false) p.1 || p.2 == none)=true:=List.all_eq_true.mpr fun _ _=>rfl
theorem sT {scope:Scope} (h:(scope.names.all fun y=>y.2 != .cell)=true):∀ y∈scope.names,y.2≠.cell:=fun y hy=>by
  have q:=aaV.mp h y hy;simpa using q
theorem pR {scope:Scope} (h:(scope.names.all fun y=>y.2 != .local || scope.names.lookup y.1 == some .local)=true):∀ y∈scope.names,y.2=.local→scope.names.lookup y.1=some .local:=fun y hy e=>by
  have q:=aaV.mp h y hy;rw [e] at q;simpa using q
theorem Inv.lstDone (I2:Inv X pins σ H2 s2) (f2:∀ b∈fp,eR X pins H2 b) {D C:Addr} (hD:s2.heap.objs.size≤D) (hC:s2.heap.objs.size≤C) (eC:E.locals=C) {P:List (Addr × Obj)} {σ':St} {H3:Hp} {s4:Shared} {ys:List V} {its:List Value} {k:Nat} (I4:Inv (dR X E fn NY fp s2 H2) (Lp D its k :: P) σ' H3 s4) (rv:Vals ys its) (hz:ys.length≤sizeLine) :
    Inv X pins σ (upd H3 D (.lst ys)) s4∧H3 D=none∧upd H3 D (.lst ys) C=none∧∃ m,s4.heap.Ns C m:=by
  subst eC;have pD:=I4.pin (Lp D its k) (aar _ aat);obtain ⟨m,hnC,_⟩:=id I4.loc;refine ⟨I2.takeD hD (I2.outB f2 I4) pD.2.1 ⟨hz,its,k,rv,pD.1⟩,pD.2.1,?_,m,hnC⟩;have z:D≠E.locals:=pD.2.2.1;rw [aq (abS z)];exact I4.free
theorem Inv.lstEnd (I2:Inv X pins σ H2 s2) (f2:∀ b∈fp,eR X pins H2 b) {D C:Addr} (hD:s2.heap.objs.size≤D) (hC:s2.heap.objs.size≤C) (eC:E.locals=C) {P:List (Addr × Obj)} {σ':St} {H3:Hp} {s4:Shared} {ys:List V} {its:List Value} {k:Nat} (I4:Inv (dR X E fn NY fp s2 H2) (Lp D its k :: P) σ' H3 s4) (rv:Vals ys its) (hz:ys.length≤sizeLine)
    {Q:VK} (qn:∀ p,H3 p=none→Q (.ref p) (upd H3 p (.lst ys))):compPost (model X.prog X.w) X.A X.xe none (EP X pins σ Q) (.ref D) C (.ok .next) s4:=by
  obtain ⟨I5,hD3,hC3,m,hn⟩:=I2.lstDone f2 hD hC eC I4 rv hz;exact ⟨m,hn,fun h' hsb=>⟨.ref D,_,I2.offC hC I5 hC3 fun b o hb e=>hsb.extBut b o hb e,rfl,qn D hD3⟩⟩
end
theorem o_ {Y:Cx} {τ:Type} {val:τ→St} {nx:St→τ} (hc:Y.calm=true) (hxe:Y.xe=fun _ _=>False) (hrs:∀ {pn:List (Addr × Obj)} {σ':St} {H':Hp} {s':Shared},Inv Y pn σ' H' s'→Inv Y pn (val (nx σ')) H' s')
    {D:Addr} (hDx:D∈Y.ex∨Y.s₀.heap.objs.size≤D) (hDc:∀ x c,Y.env.cells.lookup x=some c→c≠D) (hDp:∀ p∈Y.pn,p.1≠D)
    {elt tg iter:Expr} {ifs:List Expr} {te:TE} {g:TG} {tt:TT} {G:List Comprehension} {scope:Scope} {pos:Pos} {k:Nat} (hbe:PE Y elt te) (hk:G[k]?=some ⟨tg,iter,ifs,0⟩) (hk2:G[k+1]?=none) (htg:PG Y tg g) (hfs:gD Y ifs tt)
    {P:List (Addr × Obj)} (hP:∀ p∈P,p.1≠D) {it:Addr} {fp:List Addr} {tn:Nat→Heap→Prop} {J:It} (T:Turn Y.prog Y.w Y.K tg J fp it tn) (neD:∀ b∈fp,D≠b) (fpY:∀ {H':Hp} {n:Nat} {its:List Value},(∀ b∈fp,H' b=none)→∀ b∈fp,eR Y (Lp D its n :: P) H' b)
    {R:Result→Shared→Prop} {Fin:List V→τ→Hp→Prop} (hR:∀ ys its k t H s,Inv Y (Lp D its k :: P) (val t) H s→Vals ys its→ys.length≤sizeLine→Fin ys t H→R (.ok .next) s)
    {W:Nat→Nat→List V→τ→Hp→Prop} (turn:∀ i m ys t H,W i m ys t H→(J.stop i H∧Fin ys t H) ∨
      (J.go i H∧ys.length < sizeLine∧∀ x H',J.yld i H x H'→g x (val t) H' fun σ3 H5=>tt σ3 H5 fun b H6=>if b=true then te σ3 H6 fun v H7=>∃ m',m' < m∧W (i+1) m' (ys++[v]) (nx σ3) H7 else ∃ m',m' < m∧W (i+1) m' ys (nx σ3) H6))
    {m0 kk:Nat} {ys:List V} {its:List Value} {t:τ} {H:Hp} {s:Shared} (I:Inv Y (Lp D its kk :: P) (val t) H s) (rv:Vals ys its) (hz:ys.length≤sizeLine) (st:tn 0 s.heap) (fr:∀ b∈fp,H b=none) (w0:W 0 m0 ys t H) :
    codeAny (model Y.prog Y.w) Y.A (.compLoop (.ListComp elt G scope pos) k (.ref it) (.ref D) Y.env) R s:=by
  have xe:∀ e s,Y.xe e s→False:=fun e s z=>by rw [hxe] at z;exact z
  refine og hk hk2 (fun n s'=>∃ i ys its k t H',Inv Y (Lp D its k :: P) (val t) H' s'∧Vals ys its∧ys.length≤sizeLine∧tn i s'.heap∧(∀ b∈fp,H' b=none)∧W i n ys t H') ?_ m0 ⟨0,ys,its,kk,t,H,I,rv,hz,st,fr,w0⟩;rintro n s3 ⟨i,ys3,its3,k3,t3,H3,I3,rv3,hz3,st3,fr3,w3⟩;rcases turn i n ys3 t3 H3 w3 with ⟨stop,qn⟩|⟨go,hlt,step⟩
  · refine wpAny_mono (T.done Y rfl rfl rfl hc i _ s3 _ H3 (fun _ _=>False) I3 (fpY fr3) st3 stop) (fun r s4 ⟨hr,I4⟩=>?_) fun _ _ z=>z;subst hr;exact hR ys3 its3 k3 t3 H3 s4 I4 rv3 hz3 qn
  · refine wpAny_mono (T.item Y rfl rfl rfl hc i _ s3 _ H3 (fun _ _=>False) I3 (fpY fr3) st3 go) (fun r s4 ⟨u,hr,h4⟩=>?_) fun _ _ z=>z;subst hr;refine wpAny_mono h4 (fun _ s5 ⟨x,H5,I5,r5,y5,st5,fr5⟩=>?_) fun _ _ z=>z;have I5':=I5.pinned (fpY fr5) (T.obj _ _ st5);refine wpAny_mono (htg _ s5 _ H5 x u _ I5' r5 (step x H5 y5)) (fun _ s6 ⟨σ6,H6,I6,q6⟩=>?_) fun e s z=>(xe e s z).elim;refine wpAny_mono (hfs _ s6 σ6 H6 _ I6 q6) (fun ok s7 ⟨H7,I7,q7⟩=>?_) fun e s z=>(xe e s z).elim;have again:∀ {ys':List V} {its':List Value} {k':Nat} {σ':St} {H':Hp} {s':Shared},Inv Y (Lp D its' k' :: (P++cO fp s5.heap)) σ' H' s'→Vals ys' its'→ys'.length≤sizeLine→(∃ m',m' < n∧W (i+1) m' ys' (nx σ') H') →
        ∃ m,m < n∧∃ i ys its k t H',Inv Y (Lp D its k :: P) (val t) H' s'∧Vals ys its∧ys.length≤sizeLine∧tn i s'.heap∧(∀ b∈fp,H' b=none)∧W i m ys t H':=fun {ys' its' k' σ' H' s'} Z rv' hz' hw=>by
      obtain ⟨m',hm,w'⟩:=hw;have pn:∀ {b:Addr} {o:Obj},b∈fp→s5.heap.get? b=some o→_:=fun {b o} hb e=>Z.pin (b,o) (aar _ (aak _ (aar _ (eL hb e))));refine ⟨m',hm,i+1,ys',its',k',nx σ',H',hrs (Inv.unpinned (pl:=cO fp s5.heap) Z),rv',hz',T.keep _ _ _ st5 fun b hb o e=>(pn hb e).1,fun b hb=>?_,w'⟩;obtain ⟨o,e,d⟩:=T.obj _ _ st5 b hb;exact (pn hb e).2.1
    cases ok with
    | false =>
      rw [if_neg aad] at q7 ⊢;exact again I7 rv3 hz3 q7
    | true =>
      rw [if_pos rfl] at q7 ⊢;refine wpAny_mono (hbe _ s7 σ6 H7 _ I7 q7) (fun xv s15 ⟨v,H15,I15,r15,q15⟩=>?_) fun e s z=>(xe e s z).elim;have pD:=I15.pin (Lp D its3 k3) (aar _ aat);have hlen:=rv3.length;refine append_at pD.1 (fun h16 hs16 hD16=>?_) (by rw [aag];lia);have I16:Inv Y (P++cO fp s5.heap) σ6 H15 s15:=I15.pins_of fun p hp=>I15.pin p (aar _ (aak _ hp));have I17:Inv Y (P++cO fp s5.heap) σ6 H15 { s15 with heap:=h16 }:=I16.turned (t':=s15.toks) (it:=D) (fun b o hb e=>hs16.extBut b o hb e) pD.2.1 pD.2.2.1 hDx hDc fun p hp=>by
        rcases aav.mp hp with z|z
        · exact hDp p z
        · rcases aav.mp z with z|z
          · exact hP p z
          · exact abS (neD _ (gZ z).1)
      have I18:Inv Y (Lp D (its3++[xv]) (k3+1) :: (P++cO fp s5.heap)) σ6 H15 { s15 with heap:=h16 }:=I17.pins_of fun p hp=>by
        rcases aai.mp hp with z|z
        · rw [z];refine ⟨?_,pD.2.1,pD.2.2.1,pD.2.2.2.1,fun v z=>by cases z⟩;rw [List.push_toArray] at hD16;exact hD16
        · exact I17.pin p (aar _ z)
      exact again I18 (rv3.append (.cons r15 .nil)) (by rw [aaj,ab6];exact hlt) q15
theorem Turn.lt {P:Program} {w:World} {K:aaa} {tg:Expr} {J:It} {fp:List Addr} {it:Addr} {tn:Nat→Heap→Prop} (T:Turn P w K tg J fp it tn) {h:Heap} {i:Nat} (st:tn i h):∀ b∈fp,b < h.objs.size:=fun b hb=>by
  obtain ⟨o,e,_⟩:=T.obj _ _ st b hb;exact aaq e
theorem BlkC.neD {X:Cx} {s2:Shared} {h₁:Heap} {E:Env} {fn:Str→Bool} (B:BlkC X s2 h₁ E fn) (hc:∀ x c,X.env.cells.lookup x=some c→c < s2.heap.objs.size) {D:Addr} (hD:s2.heap.objs.size≤D) {o:Obj} (h:h₁.get? D=some o) (ho:∀ v,o.data≠.cell v):∀ x c,E.cells.lookup x=some c→c≠D:=fun x c e z=>by
  rcases B.cell x c e with q|q
  · exact absurd (hc x c q.2) (by rw [z];exact acO.mpr hD)
  · have:=q.2.2.2.1;rw [z,h] at this;cases this;exact ho _ rfl
theorem Inv.newC {X:Cx} {pins:List (Addr × Obj)} {σ:St} {H2:Hp} {s2:Shared} {h₁:Heap} (I2:Inv X pins σ H2 s2) {scope:Scope} {cl:List (Str × Addr)} (hci:CellsIn X.env cl) (hkind:scope.kind=.function) (hhas:((relabel scope X.env).names.all fun p=>(p.2 != .cell && p.2 != .free) || (cl.lookup p.1).isSome)=true) {o:Obj}
    {m:Str→Option Value} (hns:h₁.Ns (s2.heap.push o).objs.size m) (ext:∀ b u,b≠(s2.heap.push o).objs.size→(s2.heap.push o).get? b=some u→h₁.get? b=some u) (hof:o.isFreed=false:=by rfl) :
    s2.heap.objs.size < (s2.heap.push o).objs.size∧BlkC X s2 h₁ (compEnvC scope cl (s2.heap.push o).objs.size X.env) (fun _=>false)∧h₁.get? s2.heap.objs.size=some o:=by
  have hC:s2.heap.objs.size < (s2.heap.push o).objs.size:=by rw [Heap.size_push];exact ack _
  exact ⟨hC,I2.blkC hci hkind hhas (abz hC) (fun b u e=>ext b u (aaF (Nat.lt_trans (aaq e) hC)) (aaf _ e)) ⟨m,hns⟩,ext _ _ (aaF hC) (aau _ hof)⟩
theorem Inv.goLast {X:Cx} {pins:List (Addr × Obj)} {σ:St} {H2:Hp} {s2:Shared} {h₁:Heap} {E:Env} {fn:Str→Bool} {NY:List Str} {fp:List Addr} (I2:Inv X pins σ H2 s2) (f2:∀ b∈fp,eR X pins H2 b) (fpl:∀ b∈fp,b < s2.heap.objs.size) (B:BlkC X s2 h₁ E fn) {cap:List (Option Nat)} (hcap:CapOk X.env E.scope X.N NY cap)
    (hx:((NY.zip cap).all fun p=>!fn p.1 || p.2 == none)=true) (hc:X.calm=true) {C:Addr} (hC:s2.heap.objs.size < C) (eC:E.locals=C) (hD:h₁.get? s2.heap.objs.size=some { cls:=.type "list",dict:=none,data:=.seq ([]:List Value).toArray })
    {tg elt iter:Expr} {ifs:List Expr} {g:TG} {tt:TT} {te:TE} {J:It} {it:Addr} {tn:Nat→Heap→Prop} (T:Turn X.prog X.w X.K tg J fp it tn) (st:tn 0 h₁) (hbe:PE (dR X E fn NY fp s2 H2) elt te) (hbg:PG (dR X E fn NY fp s2 H2) tg g) (hbt:gD (dR X E fn NY fp s2 H2) ifs tt)
    {G:List Comprehension} (hk:G[0]?=some ⟨tg,iter,ifs,0⟩) (hk2:G[1]?=none) {scope:Scope} {pos:Pos} {t':Nat} {W:Nat→Nat→List V→Hp→Prop} {Fin:List V→Hp→Prop}
    (turn:∀ i m ys H,W i m ys H→(J.stop i H∧Fin ys H)∨(J.go i H∧ys.length < sizeLine∧∀ x H',J.yld i H x H'→g x (bV cap σ) H' fun σ2 H2=>tt σ2 H2 fun b H3=>if b=true then te σ2 H3 fun v H4=>∃ m',m' < m∧W (i+1) m' (ys++[v]) H4 else ∃ m',m' < m∧W (i+1) m' ys H3))
    {m0:Nat} (w0:W 0 m0 [] H2) {R:Result→Shared→Prop} (hR:∀ ys its k H s,Inv (dR X E fn NY fp s2 H2) [Lp s2.heap.objs.size its k] (bV cap σ) H s→Vals ys its→ys.length≤sizeLine→Fin ys H→R (.ok .next) s) :
    codeAny (model X.prog X.w) X.A (.compLoop (.ListComp elt G scope pos) 0 (.ref it) (.ref s2.heap.objs.size) E) R { s2 with heap:=h₁,toks:=t' }:=by
  subst eC;exact o_ (τ:=Unit) (val:=fun _=>bV cap σ) (nx:=fun _=>()) (Y:=dR X E fn NY fp s2 H2) hc rfl (fun Z=>I2.recap f2 B hcap hx Z) (.inr (aah _)) (B.neD I2.cellLt (aah _) hD fun v z=>by cases z) (fun p hp=>by cases hp) hbe hk hk2 hbg hbt (P:=[]) (fun p hp=>by cases hp) T
    (fun b hb=>abA (fpl b hb)) (fun hn=>I2.fps f2 fpl B (fun p hp=>by rw [aaM.mp hp];exact aah _) hn) (Fin:=fun ys _ H=>Fin ys H) (fun ys its k _ H s=>hR ys its k H s)
    (W:=fun i m ys _ H=>W i m ys H) (fun i m ys _ H=>turn i m ys H) (t:=()) (I2.blk f2 fpl B hcap hx (fun p hp=>by rw [aaM.mp hp];exact ⟨hD,aah _,aaF hC,fun v z=>by cases z⟩)) .nil (aaU _) st (fun b hb=>(f2 b hb).1) w0
abbrev vS (cap:List (Option Nat)) (g:TG) (tt:TT) (te:TE) (σ:St) (Q:VK) (J:It) (H1:Hp):Prop:=∃ W:Nat→Nat→List V→Hp→Prop,(∃ m,W 0 m [] H1)∧∀ i m ys H,W i m ys H →
  (J.stop i H∧∀ p,H p=none→Q (.ref p) (upd H p (.lst ys))) ∨
  (J.go i H∧ys.length < sizeLine∧∀ x H',J.yld i H x H'→g x (bV cap σ) H' fun σ2 H2=>tt σ2 H2 fun b H3=>if b=true then te σ2 H3 fun v H4=>∃ m',m' < m∧W (i+1) m' (ys++[v]) H4 else ∃ m',m' < m∧W (i+1) m' ys H3)
def tLc (cap:List (Option Nat)) (wi:TI) (g:TG) (tt:TT) (te:TE):TE:=fun σ H Q=>wi σ H (vS cap g tt te σ Q)
section
variable {X:Cx}
theorem bZ {elt tg iter:Expr} {ifs:List Expr} {scope:Scope} {pos:Pos} {cl:List (Str × Addr)} {NY:List Str} {cap:List (Option Nat)} {wi:TI} {g:TG} {tt:TT} {te:TE} (hc:X.calm=true) (hi:PI X tg iter wi)
    (hclos:closureFor scope X.env=pure cl) (hci:CellsIn X.env cl) (hcap:CapOk X.env (relabel scope X.env) X.N NY cap)
    (hb:∀ fp s H C,PG (aV X scope cl NY fp s H C) tg g∧gD (aV X scope cl NY fp s H C) ifs tt∧PE (aV X scope cl NY fp s H C) elt te)
    (hkind:scope.kind=.function:=by rfl) (hnc:(scope.names.all fun y=>y.2 != .cell)=true:=by rfl)
    (hnames:(scope.names.all fun y=>y.2 != .local || scope.names.lookup y.1 == some .local)=true:=by rfl)
    (hhas:((relabel scope X.env).names.all fun p=>(p.2 != .cell && p.2 != .free) || (cl.lookup p.1).isSome)=true:=by rfl)
    (hs:∀ x,foldedSetIterable iter X.env x=pure x:=by intro _;rfl) :
    PE X (.ListComp elt [⟨tg,iter,ifs,0⟩] scope pos) (tLc cap wi g tt te):=by
  intro pins s σ H Q I h;rw [eval_ListComp];refine wpAny_comprehension_free (use:=none) rfl hs hclos hkind (pR hnames) (wpAny_mono (hi pins s σ H _ I h) (fun v s1 h1=>wpAny_mono h1 (fun itv s2 h2=>?_) fun _ _ e=>e) fun _ _ e=>e);obtain ⟨it,fp,tn,J,H2,e,I2,T,st2,f2,W,⟨m0,w0⟩,turn⟩:=h2;subst e;refine wpAny_newObj_type (wpAny_newFunctionEnv (sT hnc) (by intro y hy;simp at hy) (fun h₁ hns₁ hsb₁=>?_) hkind);dsimp only at hns₁ hsb₁ ⊢;obtain ⟨hC,B,hD⟩:=I2.newC hci hkind hhas hns₁ fun b o hb e=>hsb₁.extBut b o hb (aaf _ e);generalize (s2.heap.push { cls:=.type "list",dict:=none,data:=.seq ([]:List Value).toArray }).objs.size=C at hC B ⊢;obtain ⟨hbg,hbt,hbe⟩:=hb fp s2 H2 C;have stW:=T.keep _ _ h₁ st2 fun b _ o e=>B.old b o e;have loop:=I2.goLast f2 (T.lt st2) B hcap fZ hc hC rfl hD T stW hbe hbg hbt (G:=[⟨tg,iter,ifs,0⟩]) rfl rfl (scope:=scope) (pos:=pos) (iter:=iter) (t':=s2.toks+([]:List (Str × Value)).length) turn w0 (R:=compPost (model X.prog X.w) X.A X.xe none (EP X pins σ Q) (.ref s2.heap.objs.size) C) fun ys its k H s I4 rv hz fin=>I2.lstEnd f2 (aah _) (abz hC) rfl I4 rv hz fin;exact codeAny_compStart_list loop (T.self _ 0 _ _ _ stW loop)
end
open PySem PySem.Spec PyProof.Rows
section
variable {X:Cx}
theorem aN {n:String}:bQ X (.builtin "isinstance") (fun xs H Q=>∃ x t b,xs=[x,.ty n]∧TyOf X.K H x t∧abN X.K t (.type n)=some b∧Q (.bl b) H):=by
  intro pins s σ H xs us Q I r h;obtain ⟨x,t,b,rfl,ty,e,q⟩:=h;obtain ⟨u,w',rfl,rx,rt⟩:=oA r;cases rt;exact jV I rx ty e fun tk=>⟨.bl b,H,I.tok _,rfl,q⟩
theorem iY:OpR X (binaryOp .FloorDiv) (rI (fun _ j=>0 < j∧j < 2 ^ 64) fun i j=>.int (i / j)):=opI fun i j _ _ _ _ _ hc q=>by
  have h1:(0:Int) < j:=hc.1;have h2:j < 2 ^ 64:=hc.2;refine floordiv_int (by lia) (by rw [Int.fdiv_eq_ediv_of_nonneg i (by lia)];exact q) (.inl (PyProof.noPylong_of_log2 ?_));have h3:j.natAbs < 2 ^ 64:=by lia
  have h4:j.natAbs≠0:=by lia
  have h5:j.natAbs.log2 < 64:=(Nat.log2_lt h4).mpr h3;lia
def Cal (P:Program) (w:World) (K:aaa) (mg:Str→Option Value) (base:Heap) (x:Str) (k:Nat) (ps:List Str) (sp:Sp):Prop :=
  ∃ f fd,FnOk P w K mg base CX0 k f fd ps sp∧Binds K fd ps []∧abq K (.ref f)=true∧mg x=some (.ref f)
theorem ah {x:Str} {k k':Nat} {ps:List Str} {sp:Sp} {e:Expr} {es:List Expr} {t:TA} {p pos:Pos} (C:Cal X.prog X.w X.K X.mg X.base x k ps sp) (hr:Room k' X.A) (hk:k≤k') (hg:Gl X x) (ha:PA X (e :: es) t)
    (hdb:(x == ("__debug__":Str))=false:=by decide) (he:starEach (e :: es) X.env=(false,eval e X.env) :: starEach es X.env:=by rfl) (hpl:(backTo pos (starEach es X.env)).any (·.1)=false:=by rfl) :
    PE X (.Call (.Name x p) (e :: es) [] pos) (uv sp [] E0 t):=by
  obtain ⟨f,fd,F,b,kp,m⟩:=C;exact tL F (hr.mono hk) hg m kp b .nil wL ha hdb he hpl
end
theorem Same.new {H:Hp} {p:Addr} (h:H p=none) (o:HO):Same H (upd H p o):=fun b u q=>by rw [aq (ao q h)];exact q
def But (w:Addr) (H H':Hp):Prop:=∀ b o,b≠w→H b=some o→H' b=some o
theorem But.refl {w:Addr} {H:Hp}:But w H H:=fun _ _ _ h=>h
theorem But.trans {w:Addr} {H H1 H2:Hp} (a:But w H H1) (b:But w H1 H2):But w H H2:=fun c o n h=>b c o n (a c o n h)
theorem But.of {w:Addr} {H H':Hp} (a:Same H H'):But w H H':=fun c o _ h=>a c o h
theorem But.new {w:Addr} {H:Hp} {p:Addr} (h:H p=none) (o:HO):But w H (upd H p o):=But.of (Same.new h o)
theorem But.put {w:Addr} {H:Hp} {o:HO}:But w H (upd H w o):=fun b u n q=>by rw [aq n];exact q
end L2
namespace Srt
open PySem PySem.W PyProof.Rows
def run {α:Type} (lt:Nat→Nat→Bool):KasT α→α
  | .ret a=>a
  | .ask i j k=>run lt (k (lt i j))
section
variable (key:Nat→Int)
abbrev lt:Nat→Nat→Bool:=fun i j=>decide (key i < key j)
def kp (p:Array Nat) (x:Nat):Int:=key (p.getD x 0)
def Up (p:Array Nat) (m:Nat):Prop:=∀ i j,i < j→j < m→kp key p i < kp key p j
variable {key}
end
end Srt
namespace Srt
open PySem PySem.W PyProof.Rows
def Ent (n:Nat) (p:Array Nat):Prop:=∀ x,p.getD x 0 < n
section
variable {prog:Program} {w:World} {A:Around} {E:Value→Shared→Prop} {s:Shared}
end
end Srt
set_option maxHeartbeats 2000000
namespace L2
open PySem PySem.Spec PyProof.Rows
inductive EqR (K:aaa) (H:Hp):Nat→V→V→Bool→Prop
  | flat {n:Nat} {x y:V} (fx:eS x=true) (fy:eS y=true):EqR K H n x y (eqV x y)
  | lens {n:Nat} {a b:Addr} {xs ys:List V} (ha:SqL K H a xs) (hb:SqL K H b ys) (hl:xs.length≠ys.length):EqR K H (n+1) (.ref a) (.ref b) false
  | lst {n:Nat} {a b:Addr} {xs ys:List V} {e:Nat→Bool} (ha:SqL K H a xs) (hb:SqL K H b ys) (hl:xs.length=ys.length) (h:∀ (j:Nat) x y,xs[j]?=some x→ys[j]?=some y→EqR K H n x y (e j)):EqR K H (n+1) (.ref a) (.ref b) ((aa0 xs.length).all e)
  | tup {n:Nat} {a b:Addr} {xs ys:List V} {e:Nat→Bool} (ha:SqT K H a xs) (hb:SqT K H b ys) (h:∀ (j:Nat) x y,xs[j]?=some x→ys[j]?=some y→EqR K H n x y (e j)) :
      EqR K H (n+1) (.ref a) (.ref b) ((aa0 (min xs.length ys.length)).all e && xs.length == ys.length)
theorem jk {x:V} (f:eS x=true):eqV x x=true:=by
  cases x <;> first|rfl|(simp [eqV];done)|exact absurd (show false=true from f) aad
section
variable {X:Cx} {pins:List (Addr × Obj)} {σ:St} {H:Hp} {s:Shared}
theorem EqR.self (I:Inv X pins σ H s) {n:Nat} {x y:V} {b:Bool} (h:EqR X.K H n x y b):x=y→b=true:=by
  induction h with
  | flat fx fy=>intro e;subst e;exact jk fx
  | lens ha hb hl =>
    intro e;injection e with e;subst e
    exact absurd (by rw [I.list_inj ha hb]) hl
  | @lst n a b xs ys e ha hb hl h ih =>
    intro q;injection q with q;subst q
    obtain rfl:=I.list_inj ha hb;rw [aaV];intro j hj;have hj':j < xs.length:=aaN.mp hj;exact ih j _ _ (aac hj') (aac hj') rfl
  | @tup n a b xs ys e ha hb h ih =>
    intro q;injection q with q;subst q
    obtain rfl:=I.tuple_inj ha hb;rw [aaS,aaV];refine ⟨fun j hj=>?_,beq_self_eq_true _⟩;have hj':j < xs.length:=by have:=aaN.mp hj;lia
    exact ih j _ _ (aac hj') (aac hj') rfl
theorem bU {xs:List V} {its:List Value} (r:Vals xs its) {j:Nat} (h:j < its.toArray.size):∃ x,xs[j]?=some x∧RelV x its.toArray[j]:=by
  have hl:=r.length;have h':j < xs.length:=by rw [hl];simpa using h
  obtain ⟨u,hu,ru⟩:=r.get (aac h');refine ⟨_,aac h',?_⟩;have e:its.toArray[j]=u:=by
    have : its[j]?=some u:=hu;rw [aac (by simpa using h)] at this;simpa using aal this
  rw [e];exact ru
theorem EqR.at (I:Inv X pins σ H s) {n:Nat} {x y:V} {b:Bool} (h:EqR X.K H n x y b):∀ {A:Around} {u v:Value},RelV x u→RelV y v→A.units+n < cLine→SeqAt.EqAt A s u v b:=by
  induction h with
  | flat fx fy=>intro A u v rx ry hu;exact sG rx ry fx fy
  | @lens n a b xs ys ha hb hl =>
    intro A u v rx ry hu;cases rx;cases ry;obtain ⟨its,r,pl,_⟩:=I.list ha;obtain ⟨its2,r2,pl2,_⟩:=I.list hb;have ne:a≠b:=fun e=>by subst e;exact hl (by rw [I.list_inj ha hb])
    refine .of_refs ne (.lists_lengths pl.isList pl2.isList ?_ (by lia));rw [aag,aag,← r.length,← r2.length];exact bne_iff_ne.mpr hl
  | @lst n a b xs ys e ha hb hl h ih =>
    intro A u v rx ry hu;by_cases q:a=b
    · have:=(EqR.lst ha hb hl h).self I (by rw [q]);cases rx;cases ry;rw [this];subst q;exact SeqAt.EqAt.same _
    · cases rx;cases ry;obtain ⟨its,r,pl,_⟩:=I.list ha;obtain ⟨its2,r2,pl2,_⟩:=I.list hb;have e1:its.toArray.size=xs.length:=by rw [aag,r.length]
      rw [← e1];refine .of_refs q (.lists pl.isList pl2.isList (by rw [aag,aag,← r.length,← r2.length];exact hl) (by lia) fun j h1 h2=>?_);obtain ⟨x,hx,rx⟩:=bU r h1;obtain ⟨y,hy,ry⟩:=bU r2 h2;exact ih j x y hx hy rx ry (by show A.units+1+n < cLine;lia)
  | @tup n a b xs ys e ha hb h ih =>
    intro A u v rx ry hu;by_cases q:a=b
    · have:=(EqR.tup ha hb h).self I (by rw [q]);cases rx;cases ry;rw [this];subst q;exact SeqAt.EqAt.same _
    · cases rx;cases ry;obtain ⟨its,r,pl,_⟩:=I.tuple ha;obtain ⟨its2,r2,pl2,_⟩:=I.tuple hb;have e1:its.toArray.size=xs.length:=by rw [aag,r.length]
      have e2:its2.toArray.size=ys.length:=by rw [aag,r2.length]
      rw [← e1,← e2];refine .of_refs q (.tuples pl pl2 (by lia) fun j h1 h2=>?_);obtain ⟨x,hx,rx⟩:=bU r h1;obtain ⟨y,hy,ry⟩:=bU r2 h2;exact ih j x y hx hy rx ry (by show A.units+1+n < cLine;lia)
def uT (K:aaa) (neg:Bool):R2:=fun x y H Q=>∃ n a b xs ys,n≤60∧x=.ref a∧y=.ref b∧SqL K H a xs∧SqL K H b ys ∧
  ((xs.length≠ys.length∧Q (.bl neg) H)∨∃ e:Nat→Bool,xs.length=ys.length∧(∀ (j:Nat) x y,xs[j]?=some x→ys[j]?=some y→EqR K H n x y (e j))∧Q (.bl (if neg then !(aa0 xs.length).all e else (aa0 xs.length).all e)) H)
theorem nF (hu:X.A.units+64 < cLine):OpR X (compareOp .Eq) (uT X.K false):=by
  intro pins s σ H x y v u Q I rx ry h;obtain ⟨n,a,b,xs,ys,hn,rfl,rfl,ha,hb,h⟩:=h;cases rx;cases ry;obtain ⟨its,r,pl,_⟩:=I.list ha;obtain ⟨its2,r2,pl2,_⟩:=I.list hb;have e1:its.toArray.size=xs.length:=by rw [aag,r.length]
  have e2:its2.toArray.size=ys.length:=by rw [aag,r2.length]
  rcases h with ⟨hl,q⟩|⟨e,hl,he,q⟩
  · exact SeqAt.eq_list_lengthsAt pl.isList pl2.isList (by rw [e1,e2];exact bne_iff_ne.mpr hl) (by lia) ⟨.bl false,H,I,rfl,q⟩
  · refine SeqAt.eq_listAt (e:=e) pl.isList pl2.isList (by rw [e1,e2];exact hl) (by lia) (fun j h1 h2=>?_) ?_
    · obtain ⟨x,hx,rx⟩:=bU r h1;obtain ⟨y,hy,ry⟩:=bU r2 h2;exact (he j x y hx hy).at I rx ry (by show X.A.units+1+n < cLine;lia)
    · rw [e1];exact ⟨.bl _,H,I,rfl,q⟩
theorem vf (hu:X.A.units+64 < cLine):OpR X (compareOp .NotEq) (uT X.K true):=by
  intro pins s σ H x y v u Q I rx ry h;obtain ⟨n,a,b,xs,ys,hn,rfl,rfl,ha,hb,h⟩:=h;cases rx;cases ry;obtain ⟨its,r,pl,_⟩:=I.list ha;obtain ⟨its2,r2,pl2,_⟩:=I.list hb;have e1:its.toArray.size=xs.length:=by rw [aag,r.length]
  have e2:its2.toArray.size=ys.length:=by rw [aag,r2.length]
  rcases h with ⟨hl,q⟩|⟨e,hl,he,q⟩
  · exact SeqAt.RcNeAt.lists_lengths pl.isList pl2.isList (by rw [e1,e2];exact bne_iff_ne.mpr hl) (by lia) _ _ _ _ ⟨.bl true,H,I,rfl,q⟩
  · refine SeqAt.RcNeAt.lists (e:=e) pl.isList pl2.isList (by rw [e1,e2];exact hl) (by lia) (fun j h1 h2=>?_) _ _ _ _ ?_
    · obtain ⟨x,hx,rx⟩:=bU r h1;obtain ⟨y,hy,ry⟩:=bU r2 h2;exact (he j x y hx hy).at I rx ry (by show X.A.units+1+n < cLine;lia)
    · rw [e1];exact ⟨.bl _,H,I,rfl,q⟩
end
abbrev PairIn (H:Hp) (p:Int × Int) (v:V):Prop:=∃ a,v=.ref a∧H a=some (.tup [.int p.1,.int p.2])
abbrev PairsIn (H:Hp):List (Int × Int)→List V→Prop:=Paired (PairIn H)
open PySem PySem.Spec PyProof.Rows
section
variable {X:Cx}
end
open PySem PySem.Spec PyProof.Rows
theorem ij {c A B:Prop} [Decidable c] (hc:c) (h:A):if decide c=true then A else B:=by
  rw [if_pos (decide_eq_true hc)];exact h
theorem fJ {c A B:Prop} [Decidable c] (hc:¬ c) (h:B):if decide c=true then A else B:=by
  rw [if_neg (fun e=>hc (of_decide_eq_true e))];exact h
section
variable {X:Cx} {K:aaa}
theorem eQ {n:String} (hK:X.K=K):bQ X (.builtin "isinstance") (fun xs H Q=>∃ x t b,xs=[x,.ty n]∧TyOf K H x t∧abN K t (.type n)=some b∧Q (.bl b) H):=by subst hK;exact aN
theorem dH (hK:X.K=K):bQ X (.builtin "len") (fun xs H Q=>∃ p ys,xs=[.ref p]∧(SqL K H p ys∨SqT K H p ys)∧Q (.int ys.length) H):=by subst hK;exact ay
theorem jg (hK:X.K=K):IxR X (wH K):=by subst hK;exact aQ
theorem nE (hK:X.K=K):OpR X (compareOp .In) (rIn K false):=by subst hK;exact fF
theorem oP {es:List Expr} {k:Nat} {pos:Pos} {t:TGs} {n:Nat} (hK:X.K=K) (hc:X.calm=true) (h:PGs X es t)
    (hn:(assignEach es X.env).length=n:=by rfl) (hst:(assignEach es X.env).findIdx? (·.1)=none:=by rfl):PG X (.Tuple es k pos) (xh K n t):=by subst hK;exact dF hc h hn hst
theorem ix {tg l:Expr} {tl:TE} (hK:X.K=K) (hl:PE X l tl):PI X tg l (wX K tl):=by subst hK;exact eJ hl
end
def Nxt (n i:Nat) (P:Prop):Prop:=∃ m',m' < n - i∧m'=n - (i+1)∧i+1≤n∧P
theorem l_ {H:Hp} {ps:List (Int × Int)} {vs:List V} (p:PairsIn H ps vs):∀ {j:Nat} {x:V},vs[j]?=some x→∃ p,ps[j]?=some p∧PairIn H p x:=by
  induction p with
  | nil=>intro j x h;cases h
  | cons a b ih =>
    intro j x h;cases j with
    | zero=>cases h;exact ⟨_,rfl,a⟩
    | succ j=>exact ih (j:=j) h
open PySem PySem.Spec PyProof.Rows
def mC:Key→PyData
  | .inl i=>.int i
  | .inr x=>.str x
mutual
def Dat (H:Hp):PyData→V→Prop
  | .none,v=>v=.non
  | .bool b,v=>v=.bl b
  | .int i,v=>v=.int i
  | .str x,v=>v=.str x
  | .list ds,v=>∃ a xs,v=.ref a∧H a=some (.lst xs)∧DatAll H ds xs
  | .tuple ds,v=>∃ a xs,v=.ref a∧H a=some (.tup xs)∧DatAll H ds xs
  | .dict kvs,v=>∃ a ks,v=.ref a∧H a=some (.dK ks)∧DatKv H kvs ks
def DatAll (H:Hp):List PyData→List V→Prop
  | [],vs=>vs=[]
  | d :: ds,vs=>∃ v r,vs=v :: r∧Dat H d v∧DatAll H ds r
def DatKv (H:Hp):List (PyData × PyData)→List (Key × V)→Prop
  | [],ks=>ks=[]
  | (k,d) :: r,ks=>∃ q v t,ks=(q,v) :: t∧k=mC q∧Dat H d v∧DatKv H r t
end
mutual
theorem Dat.mono {H H':Hp} (g:Same H H'):∀ (d:PyData) (v:V),Dat H d v→Dat H' d v
  | .none,v,h=>h
  | .bool b,v,h=>h
  | .int i,v,h=>h
  | .str x,v,h=>h
  | .list ds,v,h=>by
    simp only [Dat] at h ⊢;obtain ⟨a,xs,e,h1,h2⟩:=h;exact ⟨a,xs,e,g _ _ h1,DatAll.mono g ds xs h2⟩
  | .tuple ds,v,h=>by
    simp only [Dat] at h ⊢;obtain ⟨a,xs,e,h1,h2⟩:=h;exact ⟨a,xs,e,g _ _ h1,DatAll.mono g ds xs h2⟩
  | .dict kvs,v,h=>by
    simp only [Dat] at h ⊢;obtain ⟨a,xs,e,h1,h2⟩:=h;exact ⟨a,xs,e,g _ _ h1,DatKv.mono g kvs xs h2⟩
theorem DatAll.mono {H H':Hp} (g:Same H H'):∀ (ds:List PyData) (vs:List V),DatAll H ds vs→DatAll H' ds vs
  | [],vs,h=>h
  | d :: ds,vs,h=>by
    simp only [DatAll] at h ⊢;obtain ⟨v,r,e,h1,h2⟩:=h;exact ⟨v,r,e,Dat.mono g d v h1,DatAll.mono g ds r h2⟩
theorem DatKv.mono {H H':Hp} (g:Same H H'):∀ (kvs:List (PyData × PyData)) (ks:List (Key × V)),DatKv H kvs ks→DatKv H' kvs ks
  | [],ks,h=>h
  | (k,d) :: r,ks,h=>by
    simp only [DatKv] at h ⊢;obtain ⟨q,v,t,e1,e2,h1,h2⟩:=h;exact ⟨q,v,t,e1,e2,Dat.mono g d v h1,DatKv.mono g r t h2⟩
end
theorem DatAll.len {H:Hp}:∀ {ds:List PyData} {vs:List V},DatAll H ds vs→ds.length=vs.length
  | [],vs,h=>by simp only [DatAll] at h;rw [h];rfl
  | d :: ds,vs,h=>by
    simp only [DatAll] at h;obtain ⟨v,r,rfl,_,h2⟩:=h;rw [aaY,aaY,DatAll.len h2]
theorem DatAll.app {H:Hp}:∀ {as:List PyData} {vs:List V} {bs:List PyData} {us:List V},DatAll H as vs→DatAll H bs us→DatAll H (as++bs) (vs++us)
  | [],vs,bs,us,h,k=>by simp only [DatAll] at h;subst h;exact k
  | d :: as,vs,bs,us,h,k=>by
    simp only [DatAll] at h;obtain ⟨v,r,rfl,h1,h2⟩:=h;show DatAll H (d :: (as++bs)) (v :: (r++us));simp only [DatAll];exact ⟨v,_,rfl,h1,DatAll.app h2 k⟩
theorem DatAll.one {H:Hp} {d:PyData} {v:V} (h:Dat H d v):DatAll H [d] [v]:=by simp only [DatAll];exact ⟨v,[],rfl,h,rfl⟩
theorem DatAll.last {H:Hp}:∀ {ds:List PyData} {vs:List V},DatAll H ds vs→vs≠[]→∃ ds' d vs' v,ds=ds'++[d]∧vs=vs'++[v]∧DatAll H ds' vs'∧Dat H d v
  | [],vs,h,ne=>by simp only [DatAll] at h;exact absurd h ne
  | [d],vs,h,ne=>by
    simp only [DatAll] at h;obtain ⟨v,r,rfl,h1,rfl⟩:=h;exact ⟨[],d,[],v,rfl,rfl,by simp only [DatAll],h1⟩
  | d :: e :: ds,vs,h,ne=>by
    have h':=h;simp only [DatAll] at h;obtain ⟨v,r,rfl,h1,v2,r2,rfl,h2,h3⟩:=h;have h23:DatAll H (e :: ds) (v2 :: r2):=by simp only [DatAll];exact ⟨v2,r2,rfl,h2,h3⟩
    obtain ⟨ds',d',vs',v',e1,e2,h4,h5⟩:=DatAll.last h23 (by simp);refine ⟨d :: ds',d',v :: vs',v',by rw [e1];rfl,by rw [e2];rfl,?_,h5⟩;simp only [DatAll];exact ⟨v,vs',rfl,h1,h4⟩
theorem wR {α:Type} {xs:List α} (h:xs.length=3):∃ x y z,xs=[x,y,z]:=match xs,h with|[x,y,z],_=>⟨x,y,z,rfl⟩
def off (w:Addr) (H:Hp):Hp:=fun b=>if b=w then none else H b
theorem gY {w b:Addr} {H:Hp} (h:b≠w):off w H b=H b:=if_neg h
theorem off_le {w:Addr} {H:Hp}:Same (off w H) H:=fun b o h=>by
  unfold off at h;by_cases c:b=w
  · rw [if_pos c] at h;cases h
  · rw [if_neg c] at h;exact h
theorem oU {w:Addr} {H H':Hp} (g:But w H H'):Same (off w H) (off w H'):=fun b o h=>by
  by_cases c:b=w
  · unfold off at h;rw [if_pos c] at h;cases h
  · rw [gY c] at h ⊢;exact g b o c h
def qK:PyData→String
  | .none=>"NoneType"
  | .bool _=>"bool"
  | .int _=>"int"
  | .str _=>"str"
  | .list _=>"list"
  | .tuple _=>"tuple"
  | .dict _=>"dict"
theorem Dat.ty {K:aaa} {H:Hp} {d:PyData} {v:V} (h:Dat H d v):TyOf K H v (.type (qK d)):=by
  cases d with
  | none=>simp only [Dat] at h;subst h;exact .non
  | bool b=>simp only [Dat] at h;subst h;exact .bl b
  | int i=>simp only [Dat] at h;subst h;exact .int i
  | str x=>simp only [Dat] at h;subst h;exact .str x
  | list ds=>simp only [Dat] at h;obtain ⟨a,xs,rfl,e,_⟩:=h;exact .lst e
  | tuple ds=>simp only [Dat] at h;obtain ⟨a,xs,rfl,e,_⟩:=h;exact .tup e
  | dict kvs=>simp only [Dat] at h;obtain ⟨a,xs,rfl,e,_⟩:=h;exact .dK e
section
variable {X:Cx} {pins:List (Addr × Obj)} {σ:St} {H:Hp} {s:Shared}
theorem Inv.nosys (I:Inv X pins σ H s) {a:Addr} {o:HO} (h:H a=some o):a≠sysModules:=fun e=>by
  obtain ⟨mm,ob,es,ep,g,_⟩:=I.mod.sysm;have:=(I.bs _ _ g).2;rw [← e,h] at this;cases this
theorem jT {P:Program} {w:World} {h:Heap} {q:Key} {v:Value} (e:(aX P w).is q v=true):Reads h v (mC q) []:=by
  rw [jc] at e;rcases a_ e with ⟨i,t,rfl,rfl⟩|⟨x,t,rfl,rfl⟩
  · exact .int i t
  · exact .str x t
mutual
theorem Dat.reads (I:Inv X pins σ H s):∀ (d:PyData) (v:V) (u:Value),Dat H d v→RelV v u→∃ as,Reads s.heap u d as∧sysModules∉as
  | .none,v,u,h,r=>by
    simp only [Dat] at h;subst h;cases r;exact ⟨_,.none,by simp⟩
  | .bool b,v,u,h,r=>by
    simp only [Dat] at h;subst h;cases r;exact ⟨_,.bool b,by simp⟩
  | .int i,v,u,h,r=>by
    simp only [Dat] at h;subst h;obtain ⟨t,rfl⟩:=r;exact ⟨_,.int i t,by simp⟩
  | .str x,v,u,h,r=>by
    simp only [Dat] at h;subst h;obtain ⟨t,rfl⟩:=r;exact ⟨_,.str x t,by simp⟩
  | .list ds,v,u,h,r=>by
    simp only [Dat] at h;obtain ⟨a,xs,rfl,hr,hd⟩:=h;cases r;obtain ⟨its,rv,⟨o,n,e1,e2,_,e3⟩,_⟩:=I.list (SqL.of hr);obtain ⟨as,ra,na⟩:=DatAll.reads I ds xs its hd rv;have ho:=hr;refine ⟨_,.list e1 e2 e3 (by simpa using ra),fun z=>?_⟩;rcases aai.mp z with z|z
    · exact I.nosys ho z.symm
    · exact na z
  | .tuple ds,v,u,h,r=>by
    simp only [Dat] at h;obtain ⟨a,xs,rfl,hr,hd⟩:=h;cases r;obtain ⟨its,rv,⟨o,e1,e2,n,e3⟩,_⟩:=I.tuple (SqT.of hr);obtain ⟨as,ra,na⟩:=DatAll.reads I ds xs its hd rv;exact ⟨_,.tuple e1 e2 e3 (by simpa using ra),na⟩
  | .dict kvs,v,u,h,r=>by
    simp only [Dat] at h;obtain ⟨a,ks,rfl,hr,hd⟩:=h;cases r;obtain ⟨_,_,vs,rel,o,es,ep,e1,ex,e3,_,pr,_⟩:=pE I.hok hr;obtain ⟨as,bs,ra,rb,na,nb⟩:=DatKv.reads I kvs ks vs es.toList hd rel pr;have ho:=hr;refine ⟨_,.dict e1 ex.1 e3 ra rb,fun z=>?_⟩;rcases aav.mp z with z|z
    · rcases aai.mp z with z|z
      · exact I.nosys ho z.symm
      · exact na z
    · exact nb z
theorem DatAll.reads (I:Inv X pins σ H s):∀ (ds:List PyData) (vs:List V) (us:List Value),DatAll H ds vs→Vals vs us→∃ as,ReadsAll s.heap us ds as∧sysModules∉as
  | [],vs,us,h,r=>by
    simp only [DatAll] at h;subst h;cases r;exact ⟨_,.nil,by simp⟩
  | d :: ds,vs,us,h,r=>by
    simp only [DatAll] at h;obtain ⟨v,t,rfl,h1,h2⟩:=h;cases r with
    | cons r1 r2 =>
      obtain ⟨as,ra,na⟩:=Dat.reads I d v _ h1 r1;obtain ⟨bs,rb,nb⟩:=DatAll.reads I ds t _ h2 r2;exact ⟨_,.cons ra rb,fun z=>(aav.mp z).elim na nb⟩
theorem DatKv.reads (I:Inv X pins σ H s):∀ (kvs:List (PyData × PyData)) (ks:List (Key × V)) (vs:List (Key × Value)) (es:List DictEntry),DatKv H kvs ks→KV ks vs→Pairs (aX X.prog X.w) es vs →
    ∃ as bs,ReadsAll s.heap (es.map (·.key)) (kvs.map (·.1)) as∧ReadsAll s.heap (es.map (·.val)) (kvs.map (·.2)) bs∧sysModules∉as∧sysModules∉bs
  | [],ks,vs,es,h,r,p=>by
    simp only [DatKv] at h;subst h;cases r;cases p;exact ⟨_,_,.nil,.nil,by simp,by simp⟩
  | (k,d) :: kr,ks,vs,es,h,r,p=>by
    simp only [DatKv] at h;obtain ⟨q,v,t,rfl,rfl,h1,h2⟩:=h;cases r with
    | cons r1 r2 =>
      cases p with
      | cons p1 p2 p3 =>
        obtain ⟨rk,rv⟩:=r1;obtain ⟨as,bs,ra,rb,na,nb⟩:=DatKv.reads I kr t _ _ h2 r2 p3;obtain ⟨cs,rc,nc⟩:=Dat.reads I d v _ h1 rv;have rk':q=_:=rk;subst rk';have kd:=jT (h:=s.heap) p1;refine ⟨[]++as,cs++bs,.cons kd ra,.cons (by dsimp only;rw [p2];exact rc) rb,by simpa using na,fun z=>(aav.mp z).elim nc nb⟩
end
end
open PySem PySem.Spec PyProof.Rows
section
variable {X:Cx}
def xV (neg:Bool):R2:=fun x y H Q=>∃ d e,Dat H d x∧Dat H e y∧d.canLay0=true∧e.canLay0=true∧d.depth≤60∧Q (.bl (if neg then !PyData.eqv d e else aaI d e)) H
theorem vg (hu:X.A.units+64 < cLine):OpR X (compareOp .NotEq) (xV true):=by
  intro pins s σ H x y v u Q I rx ry h;obtain ⟨d,e,hd,he,cd,ce,dp,q⟩:=h;obtain ⟨as,ra,_⟩:=Dat.reads I d x _ hd rx;obtain ⟨bs,rb,_⟩:=Dat.reads I e y _ he ry;exact PySem.SeqAt.compareNe_reads ra rb cd ce (by lia) ⟨.bl _,H,I,rfl,q⟩
theorem pN {i:Int} (h:i.natAbs < 2 ^ 4000):Builtin.Int.intBits i≤2 ^ 20:=by
  have : Builtin.Int.intBits i≤4000:=by
    unfold Builtin.Int.intBits;by_cases c:i=0
    · simp [c]
    · rw [if_neg (by simpa using c)];have h4:i.natAbs≠0:=fun z=>c (Int.natAbs_eq_zero.mp z);exact (Nat.log2_lt h4).mpr h
  have e:(4000:Nat)≤2 ^ 20:=by decide
  lia
theorem gt:OpR X (binaryOp .Mult) (rI (fun i j=>i.natAbs < 2 ^ 4000∧j.natAbs < 2 ^ 4000) fun i j=>.int (i * j)):=opI fun _ _ _ _ _ _ _ hc q=>mul_int q (IntMulOk.of_bits (pN hc.1) (pN hc.2))
theorem u0 {e k:Expr} {te tk:TE} {p2 pos:Pos} (he:PE X e te) (hk:PE X k tk):PE X (.Subscript e (.Slice none none (some k) p2) pos)
    (fun σ H Q=>te σ H fun x H1=>tk σ H1 fun y H2=>y=.int (-1)∧∃ a xs,x=.ref a∧SqL X.K H2 a xs∧∀ p,H2 p=none→Q (.ref p) (upd H2 p (.lst xs.reverse))):=by
  intro pins s σ H Q I h;refine Subscript_ (thn (he pins s σ H _ I h) fun v s1 ⟨x,H1,I1,r1,q1⟩=>?_);refine wpAny_Slice ?_;rw [evalPart_none];refine wpAny_pure (wpAny_pure ?_);rw [evalPart_some];refine thn (hk pins s1 σ H1 _ I1 q1) fun vk s3 ⟨y,H3,I3,r3,q3⟩=>?_;obtain ⟨rfl,a,xs,rfl,hx,q⟩:=q3;obtain ⟨t,rfl⟩:=r3;cases r1;have I4:Inv X pins σ H3 { s3 with heap:=s3.heap.push { cls:=.type "slice",data:=.fields #[.none,.none,.int (-1) t] } }:=I3.kept (t':=s3.toks) fun b ob q=>aaf _ q;obtain ⟨its,r,ht,hz⟩:=I4.list hx;have hlen:=r.length;refine tail_any (ops:=[.ref a,.ref s3.heap.objs.size]) (s:={ s3 with heap:=s3.heap.push { cls:=.type "slice",data:=.fields #[.none,.none,.int (-1) t] } }) ht.isList.typeIs slot_list_getitem.lookup ?_ (by with_unfolding_all rfl);refine wpAny_getItem_list_slice ht.isList (Heap.IsSliceOf.new ..) .none .none (.int (-1) t) (by decide) ?_ (by rw [aag];lia);rw [PySem.W.krv_pick];refine ⟨.ref _,_,I4.laid (t':=s3.toks) (o:=.lst xs.reverse) (fun b ob q=>aaf _ q) (aah _) ?_,rfl,q _ (I4.hok.fresh (aah _))⟩;exact ⟨by rw [List.length_reverse];exact hz,_,0,r.reverse,aau _ rfl⟩
end
open PySem PySem.Spec PyProof.Rows
theorem Inv.turnedL {X:Cx} {pins:List (Addr × Obj)} {σ:St} {H:Hp} {s:Shared} {h':Heap} {t':Nat} {fp:List Addr} (I:Inv X pins σ H s) (k:∀ b o,b∉fp→s.heap.get? b=some o→h'.get? b=some o) (hf:∀ b∈fp,eR X pins H b):Inv X pins σ H { s with heap:=h',toks:=t' }:=by
  have nit:∀ b u,H b=some u→b∉fp:=fun b u e z=>by rw [(hf b z).1] at e;cases e
  refine I.step (g':=s.gens) (d':=s.drawn) (ch:=fp) (fun b hb=>⟨(hf b hb).2.2.2.1,(hf b hb).2.1,(hf b hb).2.2.2.2.1,(hf b hb).2.2.2.2.2⟩) (fun b o _ _ hc e _=>k b o hc e) (fun b o _ _ hc e _=>⟨o.slots,k b o hc e⟩) (fun _ _ _ _ n=>n)
    (fun b o hc e=>⟨o,k b o hc e⟩) (fun _ _ e=>e) (fun _ _ _ e=>e) (fun b ps e=>⟨#[],by rw [e];simp⟩) (fun m hm=>?_) (fun b u e=>?_) I.bare
  · obtain ⟨o,es,ep,ho,r⟩:=hm;exact ⟨o,es,ep,k _ o (fun z=>(hf _ z).2.1 rfl) ho,r⟩
  · refine (I.hok b u e).stay (fun c v hc q=>k c v ?_ q) (fun _ q=>q) fun _ _ q=>q;rcases hc with z|z
    · rw [z];exact nit b u e
    · exact nit c _ z
def sW (K:aaa) (a:Addr):It :=
  ⟨fun i H=>∃ xs x,SqL K H a xs∧xs[i]?=some x,fun i H x H'=>∃ p y,H p=none∧x=.ref p∧H'=upd H p (.tup [.int i,y])∧∀ xs,SqL K H a xs→xs[i]?=some y,fun i H=>∃ xs,SqL K H a xs∧xs.length≤i⟩
theorem pV {P:Program} {w:World} {K:aaa} {elts:List Expr} {k:Nat} {pos:Pos} (a e it:Addr) (hei:e≠it):Turn P w K (.Tuple elts k pos) (sW K a) [e,it] e (fun i h=>(∃ old,IsEnum h e it i old)∧h.IsListIter it a i) where
  mem:=by simp
  obj:=fun i h st b hb=>by
    obtain ⟨⟨old,he⟩,o,e1,c,d⟩:=st;rcases aai.mp hb with z|z
    · subst z;exact ⟨_,he,fun v z=>by cases z⟩
    · have z:b=it:=by simpa using z
      subst z;exact ⟨o,e1,fun v z=>by rw [d] at z;cases z⟩
  keep:=fun i h h' st kp=>⟨let ⟨old,he⟩:=st.1;⟨old,kp e (by simp) _ he⟩,st.2.at fun o x=>kp it (by simp) o x⟩
  item:=by
    intro X hP hw hK hc i pins s σ H E I hf st hg;subst hP hw hK;obtain ⟨xs,x,hq,hx⟩:=hg;obtain ⟨its,rv,p,hz⟩:=I.list hq;obtain ⟨u,hu,ru⟩:=rv.get hx;obtain ⟨⟨old,he⟩,hit⟩:=st;have helt:e < s.heap.objs.size:=aaq he;have hilt:it < s.heap.objs.size:=by obtain ⟨_,x,_⟩:=hit;exact aaq x
    refine wpAny_pyNext_enum_item he hit p.isList (x:=u) (by simpa using hu) hei fun h' ho hit' hT hsz hk=>?_;refine ⟨_,rfl,wpAny_letOwnedTupleGo_enum ho fun h'' he' hs'=>?_⟩;have hs2:abg e h' h'':=hs';have keep:∀ b o,b∉[e,it]→s.heap.get? b=some o→h''.get? b=some o:=fun b o hb q=>by
      have b1:b≠e:=fun z=>hb (by simp [z]);have b2:b≠it:=fun z=>hb (by simp [z]);exact (hs2.2 b b1).trans (hk b o b1 b2 q)
    have I1:Inv X pins σ H { s with heap:=h'',toks:=s.toks+1 }:=I.turnedL keep hf;have gT:h''.get? s.heap.objs.size=some { cls:=.type "tuple",data:=.seq #[.int i s.toks,u] }:=(hs2.2 _ (abA helt)).trans hT;have fresh:H s.heap.objs.size=none:=I.hok.fresh (aah _);have I2:=I1.adopt (a:=s.heap.objs.size) (o:=.tup [.int i,x]) fresh I.sz (abA I.lt) (fun y c e1=>by
        obtain ⟨v,q⟩:=I.cell y c e1;exact aaF q.lt) (fun q hq=>aaF (aaq (I.pin q hq).1)) ⟨by show 2≤sizeLine;decide,[.int i s.toks,u],.cons ⟨_,rfl⟩ (.cons ru .nil),⟨_,gT,rfl,_,rfl⟩⟩
    refine ⟨.ref s.heap.objs.size,_,I2,rfl,⟨_,x,fresh,rfl,rfl,fun ys hy=>by rw [I.list_inj hy hq];exact hx⟩,⟨⟨u,by simpa using he'⟩,hit'.at fun o y=>(hs2.2 it hei.symm).trans y⟩,fun b hb=>?_⟩;rw [aq]
    · exact (hf b hb).1
    · rcases aai.mp hb with z|z
      · rw [z];exact aaF helt
      · have z:b=it:=by simpa using z
        rw [z];exact aaF hilt
  done:=by
    intro X hP hw hK hc i pins s σ H E I hf st hg;subst hP hw hK;obtain ⟨xs,hq,hx⟩:=hg;obtain ⟨its,rv,p,hz⟩:=I.list hq;obtain ⟨⟨old,he⟩,hit⟩:=st;have hl:=rv.length;refine wpAny_pyNext_enum_end (I.ok.hd hc) he hit p.isList (by simp;lia) fun h' eb=>⟨rfl,I.turnedL (t':=s.toks) (fp:=[e,it]) (fun b o hb q=>eb b o (fun z=>hb (by simp [z])) q) hf⟩
  self:=fun _ _ _ _ _ st h=>by
    obtain ⟨⟨old,he⟩,_⟩:=st;exact wpAny_pyIter_enum he h
def xf (K:aaa) (ta:TA):TI:=fun σ H R=>ta σ H fun vs H1=>∃ a,vs=[.ref a]∧(∃ xs,SqL K H1 a xs)∧R (sW K a) H1
theorem tI {X:Cx} {elts:List Expr} {k:Nat} {tpos:Pos} {a:Expr} {ta:TA} {p pos:Pos} (hg:Gl X "enumerate") (hm:X.mg "enumerate" = none) (ha:PA X [a] ta) (hs:starEach [a] X.env=[(false,eval a X.env)]:=by rfl):PI X (.Tuple elts k tpos) (.Call (.Name "enumerate" p) [a] [] pos) (xf X.K ta):=by
  intro pins s σ H R I h;refine Call_ (fq I hg hm boot_enumerate (abb (thn (ha pos pins s σ H _ I h) fun us s1 ⟨vs,H1,I1,r1,q1⟩=>?_) hs rfl));obtain ⟨l,e,⟨xs,hq⟩,q⟩:=q1;subst e;cases r1 with
  | cons r rr =>
    cases rr;cases r;obtain ⟨its,rv,pl,hz⟩:=I1.list hq;refine call_enumerate_list pl.isList fun h' he hit hsz hk=>?_;refine wpAny_pyIter_enum (s:={ s1 with heap:=h' }) he ?_;have I2:Inv X pins σ H1 { s1 with heap:=h' }:=I1.kept (t':=s1.toks) hk;refine ⟨s1.heap.objs.size+1,[s1.heap.objs.size+1,s1.heap.objs.size],_,_,H1,rfl,I2,pV l _ _ (Nat.succ_ne_self _),⟨⟨_,he⟩,hit⟩,fun b hb=>?_,q⟩;have hb2:s1.heap.objs.size≤b:=by
      rcases aai.mp hb with z|z
      · rw [z];exact Nat.le_succ _
      · have z:b=s1.heap.objs.size:=by simpa using z
        rw [z];exact aah _
    exact I1.fpOk hb2 (I1.hok.fresh hb2)
theorem sy {K:aaa} {a:Addr} {xs:List V} {g:TG} {tb:TS} {D:Ends} {σ:St} {H:Hp} (Pv:Nat→St→Hp→Prop) (h0:Pv 0 σ H) (hl:∀ i σ H,i≤xs.length→Pv i σ H→SqL K H a xs)
    (hs:∀ i x p σ H,xs[i]?=some x→Pv i σ H→H p=none→g (.ref p) σ (upd H p (.tup [.int i,x])) fun σ2 H2=>tb { D with nx:=Pv (i+1),ct:=Pv (i+1),bk:=D.nx } σ2 H2) (hd:∀ σ H,Pv xs.length σ H→D.nx σ H) :
    ∃ W:Nat→Nat→St→Hp→Prop,(∃ m,W 0 m σ H)∧∀ i m σ H,W i m σ H →
      ((sW K a).stop i H∧D.nx σ H)∨((sW K a).go i H∧∃ N:St→Hp→Prop,(∀ σ' H',N σ' H'→∃ m',m' < m∧W (i+1) m' σ' H')∧∀ x H',(sW K a).yld i H x H'→g x σ H' fun σ2 H2=>tb { D with nx:=N,ct:=N,bk:=D.nx } σ2 H2):=by
  refine ⟨fun i m σ H=>m=xs.length - i∧i≤xs.length∧Pv i σ H,⟨xs.length,by simp,aaU _,h0⟩,?_⟩;rintro i m σ H ⟨rfl,hi,p⟩;have q:=hl i σ H hi p;by_cases hlt:i < xs.length
  · refine .inr ⟨⟨xs,xs[i],q,by simp [hlt]⟩,Pv (i+1),fun σ' H' p'=>⟨xs.length - (i+1),by lia,rfl,hlt,p'⟩,fun x H' y=>?_⟩;obtain ⟨pa,z,n,e1,e2,y⟩:=y;subst e1 e2;exact hs i z pa σ _ (y xs q) p n
  · have e:i=xs.length:=by lia
    subst e;exact .inl ⟨⟨xs,q,aah _⟩,hd σ H p⟩
open PySem PySem.Spec PyProof.Rows
section
variable {prog:Program} {w:World} {κ:Type} [DecidableEq κ] {knd:HeapKind prog w κ} {A:Around} {E:Value→Shared→Prop} {s:Shared}
end
open PySem PySem.Spec PyProof.Rows
section
variable {prog:Program} {w:World} {κ:Type} [DecidableEq κ] {knd:HeapKind prog w κ} {A:Around} {E:Value→Shared→Prop} {s:Shared}
inductive HitsH (A:Around) (s:Shared) (kb:List (κ × Addr × Value)):List (κ × Addr × Value)→Bool→Prop
  | nil:HitsH A s kb [] true
  | miss {k:κ} {a:Addr} {v:Value} {r:List (κ × Addr × Value)}:atKey kb k=none→HitsH A s kb ((k,a,v) :: r) false
  | hit {k:κ} {a c:Addr} {v y:Value} {r:List (κ × Addr × Value)} {e b:Bool}:atKey kb k=some (c,y)→SeqAt.EqAt A s v y e→HitsH A s kb r b→HitsH A s kb ((k,a,v) :: r) (e && b)
end
open PySem PySem.Spec PyProof.Rows
inductive HitsV (K:aaa) (H:Hp) (n:Nat) (kb:List (List Key × V)):List (List Key × V)→Bool→Prop
  | nil:HitsV K H n kb [] true
  | miss {k:List Key} {v:V} {r:List (List Key × V)}:bB kb k=none→HitsV K H n kb ((k,v) :: r) false
  | hit {k:List Key} {v y:V} {r:List (List Key × V)} {e b:Bool}:bB kb k=some y→EqR K H n v y e→HitsV K H n kb r b→HitsV K H n kb ((k,v) :: r) (e && b)
open PySem PySem.Spec PyProof.Rows
section
variable {prog:Program} {w:World} {κ:Type} [DecidableEq κ] {knd:HeapKind prog w κ} {A:Around} {E:Value→Shared→Prop}
variable {s:Shared}
end
open PySem PySem.Spec PyProof.Rows
theorem Inv.retype {X:Cx} {pins:List (Addr × Obj)} {σ:St} {H:Hp} {s:Shared} {a:Addr} {u u':HO} (I:Inv X pins σ H s) (e:H a=some u) (n1:∀ xs,u≠.tup xs) (n2:∀ ps,u≠.tbl ps) (n3:∀ y,u≠.own y) (hf:∀ o v,X.H₀ a≠some (.frz o v))
    (new:ObjOk X.prog X.w H s.heap a u'):Inv X pins σ (upd H a u') s:=by
  have nt:∀ c xs,H c=some (.tup xs)→c≠a:=fun c xs q z=>by rw [z,e] at q;injection q with q;exact n1 _ q
  have no:∀ c y,H c=some (.own y)→c≠a:=fun c y q z=>by rw [z,e] at q;injection q with q;exact n3 _ q
  have nn:∀ c,H c=none→c≠a:=fun c q z=>by rw [z,e] at q;cases q
  refine ⟨I.ok,I.os,I.bare,⟨I.base.keep,I.base.slot,fun b ob q n hx=>?_,I.base.there,fun b xs q=>?_,fun b ob xs q=>?_,fun b ps q=>?_⟩,I.loc,I.cell,?_,fun x c q=>?_,fun p hp=>?_,fun b v q=>?_,I.len⟩
  · have z:=I.base.free b ob q n hx;rw [aq (nn b z)];exact z
  · have z:=I.base.tups b xs q;rw [aq (nt b xs z)];exact z
  · have z:=I.base.frzs b ob xs q;have nb:b≠a:=fun y=>hf ob xs (by rw [← y];exact q);rw [aq nb];exact z
  · obtain ⟨m,z⟩:=I.base.tbls b ps q;have nb:b≠a:=fun y=>by rw [y,e] at z;injection z with z;exact n2 _ z
    exact ⟨m,by rw [aq nb];exact z⟩
  · rw [aq (nn _ I.free)];exact I.free
  · rw [aq (nn _ (I.freeC x c q))];exact I.freeC x c q
  · obtain ⟨h1,h2,h3⟩:=I.pin p hp;exact ⟨h1,by rw [aq (nn _ h2)];exact h2,h3⟩
  · by_cases hb:b=a
    · subst hb;rw [ad] at q;cases q;exact new.stay (fun c v _ q=>q) (fun c q=>by rw [aq (no c _ q)];exact q) fun c xs q=>by rw [aq (nt c xs q)];exact q
    · rw [aq hb] at q;exact (I.hok b v q).stay (fun c v _ q=>q) (fun c q=>by rw [aq (no c _ q)];exact q) fun c xs q=>by rw [aq (nt c xs q)];exact q
section
variable {prog:Program} {w:World} {A:Around} {E:Value→Shared→Prop} {s:Shared}
theorem rR {d:Addr} {o:Obj} {es:Array DictEntry} {ep:Nat} {Q:Value→Shared→Prop} (hd:(d == sysModules)=false) (ho:s.heap.get? d=some o) (hc:o.ExactDict) (hdat:o.data=.dict es ep)
    (hQ:Q (.ref s.heap.objs.size) { s with heap:=s.heap.push { cls:=.type "dict_keyiterator",data:=.fields #[.ref d,.int 0 0,.int es.size 0,.int ep 0] } }) :
    wpAny (model prog w) A (pyIter (.ref d)) Q E s:=by
  have hT:s.TypeIs (.ref d) "dict":=⟨o,ho,hc.1⟩
  refine wpAny_pyIter_slot hT F.slot_dict_iter (wpAny_call_entry F.slot_dict_iter hT F.entry_dict_iter ?_ (F.args_dict_iter_1 _));unfold Builtin.«dict.__iter__»;refine wpAny_bind ?_;unfold Builtin.Dict.dictSlotNone;refine wpAny_bind (wpAny_notOrdered_dict hT ?_);show wpAny _ _ (pure (Value.ref d)) _ _ s;refine wpAny_pure ?_;show wpAny _ _ (abr d >>= _) _ _ s;unfold abr;rw [if_neg (by rw [hd];exact aad)];refine wpAny_bind (wpAny_pure ?_);refine wpAny_bind (wpAny_dictEntries ho hdat ?_);refine wpAny_bind (wpAny_dictEpoch ho hdat ?_);refine wpAny_bind (wpAny_newObj_type (wpAny_pure ⟨_,rfl,"dict_keyiterator",_,⟨_,aau _ rfl,rfl⟩,F.slot_dict_keyiterator_next.lookup,?_⟩));simpa [rawInt] using hQ
theorem rJ {it d:Addr} {i n ep:Nat} {o:Obj} {es:Array DictEntry} {e:DictEntry} {Q:Option Value→Shared→Prop} (hit:s.heap.IsKeyIter it d i n ep) (hod:s.heap.get? d=some o) (hdd:o.data=.dict es ep) (hsz:es.size=n) (hx:es[i]?=some e)
    (hQ:∀ h',h'.IsKeyIter it d (i+1) n ep→abg it s.heap h'→Q (some e.key) { s with heap:=h' }) :
    wpAny (model prog w) A (pyNext (.ref it)) Q E s:=by
  obtain ⟨oi,ho,hc,hd⟩:=id hit;unfold pyNext;refine wpAny_bind (wpAny_attempt (wpAny_callSpecial?_slot (name:=abi "__next__") hit.typeIs aby
    (wpAny_call_entry aby hit.typeIs F.entry_dict_keyiterator_next ?_ (F.args_dict_keyiterator_next_1 _))))
  refine wpAny_bind (wpAny_pure ?_);refine wpAny_bind ?_;refine wpAny_bind ?_
  first|refine wpAny_bind (wpAny_typeNameOfWhole_keyiter hit.typeIs (wpAny_pure ?_))|refine wpAny_bind (wpAny_typeNameOf_keyiter hit.typeIs (wpAny_pure ?_))
  refine wpAny_bind (wpAny_fieldsOf ho hd ?_);have hown:abj "dict_keyiterator" = false:=by decide
  simp only [hown,aaL,if_false];show wpAny _ _ (if (Value.ref d == Value.none)=true then _ else _) _ _ s;rw [if_neg (show ¬ ((Value.ref d == Value.none)=true) from aad)];refine wpAny_bind (wpAny_pure ?_);refine wpAny_bind (wpAny_dictEntries hod hdd ?_);rw [if_neg (by rw [hsz];simp)];refine wpAny_bind (wpAny_pure ?_);refine wpAny_bind (wpAny_dictEpoch hod hdd ?_);rw [if_neg (by simp)];refine wpAny_pure ?_;simp only [show ¬ ((i:Int) < 0) from by lia,if_false,abQ,hx];refine wpAny_bind ?_
  first|refine wpAny_bind (wpAny_typeNameOfWhole_keyiter hit.typeIs (wpAny_pure ?_))|refine wpAny_bind (wpAny_typeNameOf_keyiter hit.typeIs (wpAny_pure ?_))
  refine wpAny_bind (wpAny_isOneOf_keyiter hit.typeIs ?_);show wpAny _ _ (setField (.ref it) 1 (rawInt ((i:Int)+1)) >>= _) _ _ s;refine wpAny_bind (wpAny_setField ho hd (by simp) ?_);have hit':(s.heap.update it (acK (·.setIfInBounds 1 (rawInt ((i:Int)+1))))).IsKeyIter it d (i+1) n ep :=
    ⟨_,abh _ ho (Obj.isFreed_of_fields (acv hd _)),(Obj.cls_mapFields ..).trans hc,by rw [acv hd];simp [rawInt]⟩
  refine wpAny_bind (wpAny_holding ?_);refine wpAny_bind (wpAny_isOneOf_keyiter (s:={ s with heap:=s.heap.update it (acK (·.setIfInBounds 1 (rawInt ((i:Int)+1)))) }) hit'.typeIs ?_);show wpAny _ _ (pure e.key) _ _ _;exact wpAny_pure (wpAny_pure ⟨_,rfl,wpAny_pure (hQ _ hit' (aaW ..))⟩)
theorem rK {it d:Addr} {i n ep:Nat} {o:Obj} {es:Array DictEntry} {Q:Option Value→Shared→Prop} (hh:A.handled=none) (hit:s.heap.IsKeyIter it d i n ep) (hod:s.heap.get? d=some o) (hdd:o.data=.dict es ep) (hsz:es.size=n) (hge:es.size≤i)
    (hQ:∀ h',Heap.ExtBut it s.heap h'→Q none { s with heap:=h' }):wpAny (model prog w) A (pyNext (.ref it)) Q E s:=by
  obtain ⟨oi,ho,hc,hd⟩:=id hit;unfold pyNext;refine wpAny_bind (wpAny_attempt (wpAny_callSpecial?_slot (name:=abi "__next__") hit.typeIs aby
    (wpAny_call_entry aby hit.typeIs F.entry_dict_keyiterator_next ?_ (F.args_dict_keyiterator_next_1 _))))
  refine wpAny_bind (wpAny_pure ?_);refine wpAny_bind ?_;refine wpAny_bind ?_
  first|refine wpAny_bind (wpAny_typeNameOfWhole_keyiter hit.typeIs (wpAny_pure ?_))|refine wpAny_bind (wpAny_typeNameOf_keyiter hit.typeIs (wpAny_pure ?_))
  refine wpAny_bind (wpAny_fieldsOf ho hd ?_);have hown:abj "dict_keyiterator" = false:=by decide
  simp only [hown,aaL,if_false];show wpAny _ _ (if (Value.ref d == Value.none)=true then _ else _) _ _ s;rw [if_neg (show ¬ ((Value.ref d == Value.none)=true) from aad)];refine wpAny_bind (wpAny_pure ?_);refine wpAny_bind (wpAny_dictEntries hod hdd ?_);rw [if_neg (by rw [hsz];simp)];refine wpAny_bind (wpAny_pure ?_);refine wpAny_bind (wpAny_dictEpoch hod hdd ?_);rw [if_neg (by simp)];refine wpAny_pure ?_;simp only [show ¬ ((i:Int) < 0) from by lia,if_false,abQ,Array.getElem?_eq_none hge];refine wpAny_bind ?_
  first|refine wpAny_bind (wpAny_typeNameOfWhole_keyiter hit.typeIs (wpAny_pure ?_))|refine wpAny_bind (wpAny_typeNameOf_keyiter hit.typeIs (wpAny_pure ?_))
  show wpAny _ _ (setField (.ref it) 0 .none >>= _) _ _ s;refine wpAny_bind (wpAny_setField ho hd (by simp) ?_);show wpAny _ _ (newExc (.type "StopIteration") [] >>= _) _ _ _;refine wpAny_bind ?_;simp only [newExc,newTuple];refine wpAny_bind (wpAny_newObj_type ?_ (by size_fits));refine wpAny_bind (m:=firstArgMember _ _) (wpAny_of_eq (a:=Value.none) (by first|rfl|(simp only [firstArgMember];rfl)) ?_);refine wpAny_newObj_type ?_ (by size_fits);simp only [raiseNew];refine wpAny_bind (wpAny_handled ?_);rw [show A.in1.handled=none from hh];refine wpAny_bind (wpAny_pure (wpAny_throw ?_));refine wpAny_bind (wpAny_isInstance (T:="StopIteration") (b:=true) ⟨_,aau _ rfl,rfl⟩ isSubtype_stop ?_);exact wpAny_pure (hQ _ (((aaW ..).extBut.push _).push _))
end
end L2
namespace L2
open PySem PySem.Spec PyProof.Rows PySem.W
section
variable {prog:Program} {w:World} {A:Around} {E:Value→Shared→Prop} {s:Shared}
theorem jG (d:Addr) (hd:(d == sysModules)=false) :
    MeetsIn prog w (Builtin.«dict.values» ⟨[.ref d],[]⟩) (fun _ R s=>s.TypeIs (.ref d) "dict" ∧
      R (.ok (.ret (.ref s.heap.objs.size))) { s with heap:=s.heap.push { cls:=.type "dict_values",data:=.fields #[.ref d] } }) :=
  .of_wp fun A R s ⟨hm,h⟩=>by
    refine wpAny_bind ?_;unfold Builtin.Dict.noArgs;refine wpAny_bind (wpAny_notOrdered_dict hm ?_);show wpAny _ _ (pure d) _ _ s;refine wpAny_pure ?_;show wpAny _ _ (abr d >>= _) _ _ s;unfold abr;rw [if_neg (by rw [hd];exact aad)];refine wpAny_bind (wpAny_pure ?_);exact wpAny_bind (wpAny_newObj_type (wpAny_pure ⟨_,rfl,h⟩))
theorem qv {v d:Addr} {o:Obj} {es:Array DictEntry} {ep:Nat} {Q:Value→Shared→Prop} (hv:s.heap.IsValuesView v d) (ho:s.heap.get? d=some o) (hdat:o.data=.dict es ep)
    (hQ:Q (.ref s.heap.objs.size) { s with heap:=s.heap.push { cls:=.type "dict_valueiterator",data:=.fields #[.ref d,.int 0 0,.int es.size 0,.int ep 0] } }) :
    wpAny (model prog w) A (pyIter (.ref v)) Q E s:=by
  obtain ⟨ov,hov,hcv,hdv⟩:=id hv;refine wpAny_pyIter_slot hv.typeIs F.slot_dict_values_iter (wpAny_call_entry F.slot_dict_values_iter hv.typeIs F.entry_dict_values_iter ?_ (F.args_dict_values_iter_1 _));unfold Builtin.«dict_values.__iter__»;refine wpAny_bind (wpAny_pure ?_);refine wpAny_bind ?_;unfold Builtin.Dict_items.dictOf;refine wpAny_bind (wpAny_field hov hdv (x:=.ref d) rfl (wpAny_pure ?_));refine wpAny_bind ?_;unfold Builtin.Dict_items.newIterator;refine wpAny_bind (wpAny_dictEntries ho hdat ?_);refine wpAny_bind (wpAny_dictEpoch ho hdat ?_);have hown:abj "dict_valueiterator" = false:=by decide
  simp only [hown,aaL,if_false];refine wpAny_newObj_type (wpAny_pure ⟨_,rfl,"dict_valueiterator",_,⟨_,aau _ rfl,rfl⟩,F.slot_dict_valueiterator_next.lookup,?_⟩);simpa [rawInt] using hQ
theorem rH {it d:Addr} {i n ep:Nat} {o:Obj} {es:Array DictEntry} {e:DictEntry} {Q:Option Value→Shared→Prop} (hit:s.heap.IsValIter it d i n ep) (hod:s.heap.get? d=some o) (hdd:o.data=.dict es ep) (hsz:es.size=n) (hx:es[i]?=some e)
    (hQ:∀ h',h'.IsValIter it d (i+1) n ep→abg it s.heap h'→Q (some e.val) { s with heap:=h' }) :
    wpAny (model prog w) A (pyNext (.ref it)) Q E s:=by
  obtain ⟨oi,ho,hc,hd⟩:=id hit;unfold pyNext;refine wpAny_bind (wpAny_attempt (wpAny_callSpecial?_slot (name:=abi "__next__") hit.typeIs abt
    (wpAny_call_entry abt hit.typeIs acD ?_ (acA _))))
  refine wpAny_bind (wpAny_pure ?_);refine wpAny_bind ?_;refine wpAny_bind ?_
  first|refine wpAny_bind (wpAny_typeNameOfWhole_valiter hit.typeIs (wpAny_pure ?_))|refine wpAny_bind (wpAny_typeNameOf_valiter hit.typeIs (wpAny_pure ?_))
  refine wpAny_bind (wpAny_fieldsOf ho hd ?_);have hown:abj "dict_valueiterator" = false:=by decide
  simp only [hown,aaL,if_false];show wpAny _ _ (if (Value.ref d == Value.none)=true then _ else _) _ _ s;rw [if_neg (show ¬ ((Value.ref d == Value.none)=true) from aad)];refine wpAny_bind (wpAny_pure ?_);refine wpAny_bind (wpAny_dictEntries hod hdd ?_);rw [if_neg (by rw [hsz];simp)];refine wpAny_bind (wpAny_pure ?_);refine wpAny_bind (wpAny_dictEpoch hod hdd ?_);rw [if_neg (by simp)];refine wpAny_pure ?_;simp only [show ¬ ((i:Int) < 0) from by lia,if_false,abQ,hx];refine wpAny_bind ?_
  first|refine wpAny_bind (wpAny_typeNameOfWhole_valiter hit.typeIs (wpAny_pure ?_))|refine wpAny_bind (wpAny_typeNameOf_valiter hit.typeIs (wpAny_pure ?_))
  refine wpAny_bind (wpAny_isOneOf_valiter hit.typeIs ?_);show wpAny _ _ (setField (.ref it) 1 (rawInt ((i:Int)+1)) >>= _) _ _ s;refine wpAny_bind (wpAny_setField ho hd (by simp) ?_);have hit':(s.heap.update it (acK (·.setIfInBounds 1 (rawInt ((i:Int)+1))))).IsValIter it d (i+1) n ep :=
    ⟨_,abh _ ho (Obj.isFreed_of_fields (acv hd _)),(Obj.cls_mapFields ..).trans hc,by rw [acv hd];simp [rawInt]⟩
  refine wpAny_bind (wpAny_holding ?_);refine wpAny_bind (wpAny_isOneOf_valiter (s:={ s with heap:=s.heap.update it (acK (·.setIfInBounds 1 (rawInt ((i:Int)+1)))) }) hit'.typeIs ?_);refine wpAny_bind (wpAny_isOneOf_valiter (s:={ s with heap:=s.heap.update it (acK (·.setIfInBounds 1 (rawInt ((i:Int)+1)))) }) hit'.typeIs ?_);show wpAny _ _ (pure e.val) _ _ _;exact wpAny_pure (wpAny_pure ⟨_,rfl,wpAny_pure (hQ _ hit' (aaW ..))⟩)
theorem qo {it d:Addr} {i n ep:Nat} {o:Obj} {es:Array DictEntry} {Q:Option Value→Shared→Prop} (hh:A.handled=none) (hit:s.heap.IsValIter it d i n ep) (hod:s.heap.get? d=some o) (hdd:o.data=.dict es ep) (hsz:es.size=n) (hge:es.size≤i)
    (hQ:∀ h',Heap.ExtBut it s.heap h'→Q none { s with heap:=h' }):wpAny (model prog w) A (pyNext (.ref it)) Q E s:=by
  obtain ⟨oi,ho,hc,hd⟩:=id hit;unfold pyNext;refine wpAny_bind (wpAny_attempt (wpAny_callSpecial?_slot (name:=abi "__next__") hit.typeIs abt
    (wpAny_call_entry abt hit.typeIs acD ?_ (acA _))))
  refine wpAny_bind (wpAny_pure ?_);refine wpAny_bind ?_;refine wpAny_bind ?_
  first|refine wpAny_bind (wpAny_typeNameOfWhole_valiter hit.typeIs (wpAny_pure ?_))|refine wpAny_bind (wpAny_typeNameOf_valiter hit.typeIs (wpAny_pure ?_))
  refine wpAny_bind (wpAny_fieldsOf ho hd ?_);have hown:abj "dict_valueiterator" = false:=by decide
  simp only [hown,aaL,if_false];show wpAny _ _ (if (Value.ref d == Value.none)=true then _ else _) _ _ s;rw [if_neg (show ¬ ((Value.ref d == Value.none)=true) from aad)];refine wpAny_bind (wpAny_pure ?_);refine wpAny_bind (wpAny_dictEntries hod hdd ?_);rw [if_neg (by rw [hsz];simp)];refine wpAny_bind (wpAny_pure ?_);refine wpAny_bind (wpAny_dictEpoch hod hdd ?_);rw [if_neg (by simp)];refine wpAny_pure ?_;simp only [show ¬ ((i:Int) < 0) from by lia,if_false,abQ,Array.getElem?_eq_none hge];refine wpAny_bind ?_
  first|refine wpAny_bind (wpAny_typeNameOfWhole_valiter hit.typeIs (wpAny_pure ?_))|refine wpAny_bind (wpAny_typeNameOf_valiter hit.typeIs (wpAny_pure ?_))
  show wpAny _ _ (setField (.ref it) 0 .none >>= _) _ _ s;refine wpAny_bind (wpAny_setField ho hd (by simp) ?_);show wpAny _ _ (newExc (.type "StopIteration") [] >>= _) _ _ _;refine wpAny_bind ?_;simp only [newExc,newTuple];refine wpAny_bind (wpAny_newObj_type ?_ (by size_fits));refine wpAny_bind (m:=firstArgMember _ _) (wpAny_of_eq (a:=Value.none) (by first|rfl|(simp only [firstArgMember];rfl)) ?_);refine wpAny_newObj_type ?_ (by size_fits);simp only [raiseNew];refine wpAny_bind (wpAny_handled ?_);rw [show A.in1.handled=none from hh];refine wpAny_bind (wpAny_pure (wpAny_throw ?_));refine wpAny_bind (wpAny_isInstance (T:="StopIteration") (b:=true) ⟨_,aau _ rfl,rfl⟩ isSubtype_stop ?_);exact wpAny_pure (hQ _ (((aaW ..).extBut.push _).push _))
end
theorem oz {H:Hp} {P:Program} {w:World}:∀ {kvs:List (List Key × V)} {xs:List (List Key × Addr × Value)},KT H kvs xs→Vals (kvs.map (·.2)) (xs.map (fun x=>x.2.2))
  | _,_,.nil=>.nil
  | _,_,.cons r t=>.cons r.2.2 (oz (P:=P) (w:=w) t)
end L2
namespace L2
theorem u1 {a:Nat} (h:a+64 < PySem.cLine):a+1 < PySem.cLine:=by lia
open PySem PySem.Spec PyProof.Rows
section
variable {prog:Program} {w:World} {A:Around} {E:Value→Shared→Prop} {s:Shared}
end
open PySem PySem.Spec PyProof.Rows
open PySem PySem.Spec PyProof.Rows
def Its (z:Str):It :=
  ⟨fun i _=>i < z.cps.size,fun i H x H'=>H'=H∧∃ c,z.cps[i]?=some c∧x=.str ⟨#[c]⟩,fun i _=>z.cps.size≤i⟩
theorem qM {P:Program} {w:World} {K:aaa} {tg:Expr} (it:Addr) (z:Str) (t:Tok):Turn P w K tg (Its z) [it] it (fun i h=>h.IsStrIter it "str_ascii_iterator" z t i) where
  mem:=by simp
  obj:=fun i h st b hb=>by
    have e:b=it:=by simpa using hb
    subst e;obtain ⟨o,e,c,d⟩:=st;exact ⟨o,e,fun v z=>by rw [d] at z;cases z⟩
  keep:=fun i h h' st k=>by
    obtain ⟨o,e,r⟩:=st;exact ⟨o,k it (by simp) o e,r⟩
  item:=by
    intro X hP hw hK hc i pins s σ H E I hf st hg;subst hP hw hK;have hg:i < z.cps.size:=hg;obtain ⟨f0,f1,f2,f3,f4,f5⟩:=hf it (by simp);have hx:z.cps[i]?=some z.cps[i]:=by simp [hg]
    refine wpAny_pyNext_ascii_item st (c:=z.cps[i]) hx fun h' st' sb=>?_;have I1:Inv X pins σ H { s with heap:=h',toks:=s.toks+1 }:=I.turned (t':=s.toks+1) (fun b o hb e=>(sb.2 b hb).trans e) f0 f1 f3 f4 f5;obtain ⟨o,e,c,d⟩:=id st';exact ⟨_,rfl,jX (s:={ s with heap:=h',toks:=s.toks+1 }) e c d (by decide) ⟨.str ⟨#[z.cps[i]]⟩,H,I1,⟨_,rfl⟩,⟨rfl,_,hx,rfl⟩,st',fun b hb=>(hf b hb).1⟩⟩
  done:=by
    intro X hP hw hK hc i pins s σ H E I hf st hg;subst hP hw hK;have hg:z.cps.size≤i:=hg;obtain ⟨f0,f1,f2,f3,f4,f5⟩:=hf it (by simp);exact wpAny_pyNext_ascii_end (I.ok.hd hc) st (by simp [hg]) fun h' eb=>⟨rfl,I.turned (t':=s.toks) (fun b o hb e=>eb b o hb e) f0 f1 f3 f4 f5⟩
  self:=fun _ _ _ _ _ st h=>wpAny_pyIter_striter_ascii st h
def x9 (tl:TE):TI:=fun σ H R=>tl σ H fun x H1=>∃ z,x=.str z∧z.cps.all (· < 128)=true∧R (Its z) H1
theorem gR {X:Cx} {tg l:Expr} {tl:TE} (hl:PE X l tl):PI X tg l (x9 tl):=by
  intro pins s σ H R I h;refine thn (hl pins s σ H _ I h) fun v s1 ⟨x,H1,I1,r1,q1⟩=>?_;obtain ⟨z,e,ha,q⟩:=q1;subst e;obtain ⟨t,rfl⟩:=r1;refine wpAny_pyIter_ascii ha ?_;refine ⟨s1.heap.objs.size,[s1.heap.objs.size],_,_,H1,rfl,I1.kept (t':=s1.toks) fun b o e=>aaf _ e,qM _ z t,⟨_,aau _ rfl,rfl,rfl⟩,fun b hb=>?_,q⟩;have e:b=s1.heap.objs.size:=by simpa using hb
  subst e;exact I1.fpOk (aah _) (I1.hok.fresh (aah _))
theorem vy {z:Str} {cap:List (Option Nat)} {g:TG} {tt:TT} {te:TE} {σ:St} {H:Hp} {Q:VK} (Pv:Nat→List V→Hp→Prop) (h0:Pv 0 [] H) (hl:∀ i ys H,i≤z.cps.size→Pv i ys H→ys.length < sizeLine)
    (hs:∀ i c ys H,z.cps[i]?=some c→Pv i ys H→(∀ {P:Prop},P→Nxt z.cps.size i P)→g (.str ⟨#[c]⟩) (bV cap σ) H fun σ2 H2=>tt σ2 H2 fun b H3=>if b=true then te σ2 H3 fun v H4=>Nxt z.cps.size i (Pv (i+1) (ys++[v]) H4) else Nxt z.cps.size i (Pv (i+1) ys H3)) (hd:∀ ys H,Pv z.cps.size ys H→∀ p,H p=none→Q (.ref p) (upd H p (.lst ys))) :
    vS cap g tt te σ Q (Its z) H:=by
  refine ⟨fun i m ys H=>m=z.cps.size - i∧i≤z.cps.size∧Pv i ys H,⟨z.cps.size,by simp,aaU _,h0⟩,?_⟩;rintro i m ys H ⟨rfl,hi,p⟩;have q:=hl i ys H hi p;by_cases hlt:i < z.cps.size
  · refine .inr ⟨hlt,q,fun x H' y=>?_⟩;obtain ⟨e,c,y,ex⟩:=y;subst e ex;exact hs i c ys _ y p fun h=>⟨_,by lia,rfl,hlt,h⟩
  · have e:i=z.cps.size:=by lia
    subst e;exact .inl ⟨aah _,hd ys H p⟩
theorem ub {z:Str} {g:TG} {tb:TS} {D:Ends} {σ:St} {H:Hp} (Pv:Nat→St→Hp→Prop) (h0:Pv 0 σ H)
    (hs:∀ i c σ H,z.cps[i]?=some c→Pv i σ H→g (.str ⟨#[c]⟩) σ H fun σ2 H2=>tb { D with nx:=Pv (i+1),ct:=Pv (i+1),bk:=D.nx } σ2 H2) (hd:∀ σ H,Pv z.cps.size σ H→D.nx σ H) :
    ∃ W:Nat→Nat→St→Hp→Prop,(∃ m,W 0 m σ H)∧∀ i m σ H,W i m σ H →
      ((Its z).stop i H∧D.nx σ H)∨((Its z).go i H∧∃ N:St→Hp→Prop,(∀ σ' H',N σ' H'→∃ m',m' < m∧W (i+1) m' σ' H')∧∀ x H',(Its z).yld i H x H'→g x σ H' fun σ2 H2=>tb { D with nx:=N,ct:=N,bk:=D.nx } σ2 H2):=by
  refine ⟨fun i m σ H=>m=z.cps.size - i∧i≤z.cps.size∧Pv i σ H,⟨z.cps.size,by simp,aaU _,h0⟩,?_⟩;rintro i m σ H ⟨rfl,hi,p⟩;by_cases hlt:i < z.cps.size
  · refine .inr ⟨hlt,Pv (i+1),fun σ' H' p'=>⟨z.cps.size - (i+1),by lia,rfl,hlt,p'⟩,fun x H' y=>?_⟩;obtain ⟨e,c,y,ex⟩:=y;subst e ex;exact hs i c σ _ y p
  · have e:i=z.cps.size:=by lia
    subst e;exact .inl ⟨aah _,hd σ H p⟩
def xK (t u:TS):TS:=fun D σ H=>∃ J:St→Hp→Prop,t { D with nx:=J } σ H∧∀ σ' H',J σ' H'→u D σ' H'
theorem gm {X:Cx} {st:Stmt} {rest:List Stmt} {t u:TS} (h1:PS X st t) (h2:PSs X rest u):PSs X (st :: rest) (xK t u):=by
  intro pins s σ H D I h;obtain ⟨J,h,hJ⟩:=h;refine wpAny_execs_cons (thn (h1 pins s σ H { D with nx:=J } I h) fun f s1 q=>?_);cases f with
  | next =>
    obtain ⟨σ',H',I',q⟩:=q;exact h2 pins s1 σ' H' D I' (hJ σ' H' q)
  | ret v=>exact q
  | brk=>exact q
  | cont=>exact q
end L2
namespace PySem
open Sem (wp)
namespace F
end F
section
variable {prog:Program} {w:World} {A:Around} {E:Value→Shared→Prop} {h:Heap} {g:Array GenState} {d:Drawn} {t:Nat} {os:OsState} {a:Addr} {vs:Array Value}
end
end PySem
namespace L2
open PySem PySem.Spec PyProof.Rows
section
variable {prog:Program} {w:World} {A:Around} {E:Value→Shared→Prop} {s:Shared}
end
theorem Paired.app {α β:Type} {R:α→β→Prop} {a c:List α} {b d:List β} (h:Paired R a b) (k:Paired R c d):Paired R (a++c) (b++d):=by
  induction h with
  | nil=>exact k
  | cons x _ ih=>exact .cons x ih
open PySem PySem.Spec PyProof.Rows
theorem fB {X:Cx} (hc:X.calm=true):bQ X (.builtin "all") (fun xs H Q=>∃ (p:Addr) (bs:List Bool),xs=[.ref p]∧SqL X.K H p (bs.map V.bl)∧Q (.bl (bs.all id)) H):=by
  intro pins s σ H xs us Q I r h;obtain ⟨p,bs,rfl,hq,q⟩:=h;obtain ⟨u,rfl,rx⟩:=dI r;cases rx;obtain ⟨its,r',pl,hz⟩:=I.list hq;have hlen:=r'.length;rw [aab] at hlen;have hps:p < s.heap.objs.size:=by obtain ⟨o,n,ho,_⟩:=pl;exact aaq ho
  refine call_all_walk (wpAny_pyIter_list pl.isList ?_);refine ⟨s.heap.objs.size,_,_,_,_,_,fun i=>bs.getD i true,rfl,Walks.list (A:=X.A.in1) (I.ok.hd hc) s.heap.objs.size p (aaF hps) its.toArray,⟨⟨_,aau _ rfl,rfl,rfl⟩,pl.isList.at fun o x=>aaf _ x⟩,?_,?_⟩
  · intro i v s' Q' E' hP hQ';have hv:its.toArray[i]?=some v:=hP;have hv2:its[i]?=some v:=by simpa using hv
    have hi:i < bs.length:=by
      have:=(aaT.mp hv2).1;lia
    have hb:(bs.map V.bl)[i]?=some (.bl bs[i]):=by rw [aao,aac hi];rfl
    obtain ⟨u,hu,ru⟩:=r'.get hb;rw [hv2] at hu;cases hu;cases ru;have e:bs.getD i true=bs[i]:=by rw [aaG,aac hi];rfl
    have hQ2:Q' (bs.getD i true) s':=hQ';rw [e] at hQ2;exact wpAny_pure hQ2
  · intro h' tk k;have I2:Inv X pins σ H { s with heap:=h',toks:=tk }:=by
      refine I.turnedL (fp:=[s.heap.objs.size]) (t':=tk) (fun b o hb x=>k b o (by simpa using hb) (aaf _ x)) fun b hb=>?_;have e:b=s.heap.objs.size:=by simpa using hb
      subst e;exact I.fpOk (aah _) (I.hok.fresh (aah _))
    have e:(aa0 its.toArray.size).all (fun i=>bs.getD i true)=bs.all id:=by
      have e1:its.toArray.size=bs.length:=by simp;lia
      rw [e1];apply Bool.eq_iff_iff.mpr;rw [aaV,aaV];constructor
      · intro hh b hb;obtain ⟨i,hi,e⟩:=List.getElem_of_mem hb;have:=hh i (aaN.mpr hi);rw [aaG,aac hi] at this;rw [← e];exact this
      · intro hh i hi;have hi:=aaN.mp hi;rw [aaG,aac hi];exact hh _ (abx hi)
    rw [e];exact ⟨.bl (bs.all id),H,I2,rfl,q⟩
open PySem PySem.Spec PyProof.Rows
theorem mP {prog:Program} {w:World} {A:Around} (hh:A.handled=none) (I d:Addr) (hne:d≠I) (o:Obj) (es:Array DictEntry) (ep:Nat) (hdd:o.data=.dict es ep) :
    Walks prog w A I [I,d] [I] es.size (fun i v=>∃ e,es[i]?=some e∧v=e.key) (fun i h=>h.IsKeyIter I d i es.size ep∧h.get? d=some o) where
  sub:=fun b hb=>by simp at hb;simp [hb]
  frame:=fun _ _ _ st hk=>⟨by obtain ⟨o,e,r⟩:=st.1;exact ⟨o,hk I (by simp) o e,r⟩,hk d (by simp) o st.2⟩
  item:=fun i s Q E hi st hQ=>by
    have hx:es[i]?=some es[i]:=ach hi;refine rJ st.1 st.2 hdd rfl hx fun h' hit' hs'=>?_;exact hQ _ h' s.toks ⟨_,hx,rfl⟩ ⟨hit',(hs'.2 d hne).trans st.2⟩ fun b o hb e=>hs'.extBut b o (fun h=>hb (by simp [h])) e
  done:=fun s Q E st hQ=>rK hh st.1 st.2 hdd rfl (aah _) fun h' he'=>hQ h' s.toks fun b o hb e=>he' b o (fun h=>hb (by simp [h])) e
  self:=fun _ _ _ _ st hQ=>wpAny_pyIter_keyiter st.1 hQ
theorem pY {prog:Program} {w:World} {d:Addr} {o:Obj} {es:Array DictEntry} {ep:Nat} (hs:(d == sysModules)=false) (hx:o.ExactDict) (hdd:o.data=.dict es ep):PySem.W.KdlSrc prog w "dict" d d es.size (fun i v=>∃ e,es[i]?=some e∧v=e.key) (fun h=>h.get? d=some o) where
  type:=fun _ hm=>⟨_,hm,hx.1⟩
  there:=fun _ hm=>⟨aaq hm,aaq hm⟩
  keep:=fun _ _ hm hk=>hk d (.inl rfl) o hm
  notList:=by decide
  notTuple:=by decide
  hint:=fun _ _ _ _ hm hq=>PySem.W.kdl_hint_dict ⟨_,hm,hx.1⟩ hq
  iter:=fun _ _ hh hm=>⟨_,_,(fun _ _ hq=>rR hs hm hx hdd hq),mP hh _ d (aaF (aaq hm)) o es ep hdd,⟨⟨_,aau _ rfl,rfl,rfl⟩,aaf _ hm⟩⟩
open PySem PySem.Spec PyProof.Rows
theorem lf {elt tg iter tg2 iter2:Expr} {ifs ifs2:List Expr} {G:List Comprehension} {k:Nat} (hk:G[k]?=some ⟨tg,iter,ifs,0⟩) (hk2:G[k+1]?=some ⟨tg2,iter2,ifs2,0⟩) {scope:Scope} {pos:Pos} {it acc:Value} {env:Env} :
    compTurn (.ListComp elt G scope pos) k it acc env=(do
      standAt iter.pos
      match ← pyNext it with
      | none=>pure (.done .next)
      | some v =>
        letOwnedTupleGo tg it v
        assign tg env v
        let mut ok:=true
        for c in ifs do
          if ok then ok ← isTrue c env (eval c env)
        if ok then do
          let x ← eval iter2 env
          standAt iter2.pos
          let x ← foldedSetIterable iter2 env x
          let i ← holding [x] (pyIter x)
          let _ ← runOwn (.compStart (.ListComp elt G scope pos) (k+1) i acc env) env
          again (.compLoop (.ListComp elt G scope pos) k it acc env)
        else again (.compLoop (.ListComp elt G scope pos) k it acc env)):=by
  unfold compTurn;simp only [hk,hk2];rfl
theorem oh {prog:Program} {w:World} {A:Around} {R:Result→Shared→Prop} {s:Shared} {elt tg iter tg2 iter2:Expr} {ifs ifs2:List Expr} {G:List Comprehension} {k:Nat} (hk:G[k]?=some ⟨tg,iter,ifs,0⟩) (hk2:G[k+1]?=some ⟨tg2,iter2,ifs2,0⟩) {scope:Scope} {pos:Pos} {it acc:Value} {env:Env} (J:Nat→Shared→Prop) (hs2:∀ x,foldedSetIterable iter2 env x=pure x)
    (turn:∀ n s,J n s→wpAny (model prog w) A (pyNext it) (fun r s₁=>match r with
      | none=>R (.ok .next) s₁
      | some v=>wpAny (model prog w) A (letOwnedTupleGo tg it v) (fun _ s₁'=>wpAny (model prog w) A (assign tg env v) (fun _ s₂ =>
          wpAny (model prog w) A (forIn ifs true fun c r=>if r=true then do let ok ← isTrue c env (eval c env);pure (ForInStep.yield ok) else pure (ForInStep.yield r)) (fun ok s₃ =>
            if ok=true then wpAny (model prog w) A (eval iter2 env) (fun x s₄=>wpAny (model prog w) A (pyIter x) (fun it2 s₅ =>
              codeAny (model prog w) A (.compStart (.ListComp elt G scope pos) (k+1) it2 acc env) (fun r s₆=>match r with|.ok _=>∃ m,m < n∧J m s₆|.error _=>False) s₅) (fun _ _=>False) s₄) (fun _ _=>False) s₃
            else ∃ m,m < n∧J m s₃) (fun _ _=>False) s₂) (fun _ _=>False) s₁') (fun _ _=>False) s₁) (fun _ _=>False) s)
    (n:Nat) (h:J n s) :
    codeAny (model prog w) A (.compLoop (.ListComp elt G scope pos) k it acc env) R s:=by
  refine codeAny_loop rfl J (fun n s hI=>?_) n h;show wpAny _ A ((compTurn (.ListComp elt G scope pos) k it acc env).onRaise (fun x=>do noteFrame x env;theTreesLotGoes x)) _ _ s;refine wpAny_noted ?_;rw [lf hk hk2];refine wpAny_bind (wpAny_standAt (wpAny_bind (wpAny_mono (turn n s hI) (fun r s₁ h₁=>?_) fun _ _ h'=>h'.elim)));cases r with
  | none=>exact wpAny_pure h₁
  | some v =>
    refine wpAny_bind (wpAny_mono h₁ (fun _ s₁' h₁'=>?_) fun _ _ h'=>h'.elim);refine wpAny_bind (wpAny_mono h₁' (fun _ s₂ h₂=>wpAny_bind (wpAny_mono h₂ (fun ok s₃ h₃=>?_) fun _ _ h'=>h'.elim)) fun _ _ h'=>h'.elim);cases ok with
    | false=>exact wpAny_pure ⟨rfl,h₃⟩
    | true =>
      refine wpAny_bind (wpAny_mono h₃ (fun x s₄ h₄=>?_) fun _ _ h'=>h'.elim);refine wpAny_bind (wpAny_standAt (wpAny_bind (wpAny_of_eq (hs2 x) (wpAny_bind (wpAny_holding (wpAny_mono h₄ (fun it2 s₅ h₅=>?_) fun _ _ h'=>h'.elim))))));refine wpAny_bind (wpAny_runOwn (codeAny_mono h₅ fun r s₆ h₆=>?_));cases r with
      | ok f=>exact wpAny_pure ⟨rfl,h₆⟩
      | error e=>exact h₆.elim
theorem jn {prog:Program} {w:World} {A:Around} {R:Result→Shared→Prop} {s:Shared} {elt tg2 iter2:Expr} {ifs2:List Expr} {G:List Comprehension} {k:Nat} (hk:G[k]?=some ⟨tg2,iter2,ifs2,0⟩) {scope:Scope} {pos:Pos} {it acc:Value} {env:Env}
    (h0:codeAny (model prog w) A (.compLoop (.ListComp elt G scope pos) k it acc env) R s)
    (h:wpAny (model prog w) A (pyIter it) (fun it' s'=>codeAny (model prog w) A (.compLoop (.ListComp elt G scope pos) k it' acc env) R s')
      (notedBy (model prog w) A env fun x s'=>R (.error x) s') s) :
    codeAny (model prog w) A (.compStart (.ListComp elt G scope pos) k it acc env) R s:=by
  refine codeAny_of_tree ?_;show wpAny _ _ ((compStart (.ListComp elt G scope pos) k it acc env).onRaise (fun x=>do noteFrame x env;standAt theWindowsPlace)) _ _ s;refine wpAny_notedAt ?_;unfold compStart;rw [show (clausesOf (.ListComp elt G scope pos))[k]?=some ⟨tg2,iter2,ifs2,0⟩ from hk];show wpAny _ _ (ask >>= _) _ _ s;refine wpAny_bind (wpAny_askSetting (wpAny_ite ?_));split
  · first
      | exact wpAny_bind (wpAny_pure (wpAny_pure (And.intro rfl h0)))
      | exact wpAny_pure (And.intro rfl h0)
  · first
      | exact wpAny_bind (wpAny_rule (wpAny_bind (wpAny_standAt (wpAny_bind (wpAny_mono h (fun it' s' h'=>wpAny_pure (And.intro rfl h')) fun _ _ x=>x)))))
      | (refine wpAny_bind (wpAny_rule ?_);show wpAny _ _ (standAt iter2.pos >>= _) _ _ s;exact wpAny_bind (wpAny_standAt (wpAny_bind (wpAny_mono h (fun it' s' h'=>wpAny_pure (And.intro rfl h')) fun _ _ x=>x))))
structure PCl (Y:Cx) (c:Comprehension) (r:TI × TG × TT):Prop where
  as:c.is_async=0
  it:PI Y c.target c.iter r.1
  tg:PG Y c.target r.2.1
  fs:gD Y c.ifs r.2.2
  st:∀ E x,foldedSetIterable c.iter E x=pure x
abbrev oy (g2:TG) (tt2:TT) (te:TE) (ys:List V) (σ2:St) (Fin:List V→St→Hp→Prop) (J2:It) (H4:Hp):Prop:=∃ W2:Nat→Nat→List V→St→Hp→Prop,(∃ m,W2 0 m ys σ2 H4)∧∀ i m ys σ H,W2 i m ys σ H →
  (J2.stop i H∧Fin ys σ H) ∨
  (J2.go i H∧ys.length < sizeLine∧∀ x H',J2.yld i H x H'→g2 x σ H' fun σ3 H5=>tt2 σ3 H5 fun b H6=>if b=true then te σ3 H6 fun v H7=>∃ m',m' < m∧W2 (i+1) m' (ys++[v]) σ3 H7 else ∃ m',m' < m∧W2 (i+1) m' ys σ3 H6)
abbrev LcT:List (TI × TG × TT)→TG→TT→TE→List V→St→(List V→St→Hp→Prop)→It→Hp→Prop
  | [],g,tt,te,ys,σ,Fn,J,H=>oy g tt te ys σ Fn J H
  | r :: rs,g,tt,te,ys,σ2,Fn,J2,H4=>∃ W2:Nat→Nat→List V→St→Hp→Prop,(∃ m,W2 0 m ys σ2 H4)∧∀ i m ys σ H,W2 i m ys σ H →
    (J2.stop i H∧Fn ys σ H) ∨
    (J2.go i H∧∀ x H',J2.yld i H x H'→g x σ H' fun σ3 H5=>tt σ3 H5 fun b H6=>if b=true then r.1 σ3 H6 (LcT rs r.2.1 r.2.2 te ys σ3 fun ys' σ' H7=>∃ m',m' < m∧W2 (i+1) m' ys' σ' H7) else ∃ m',m' < m∧W2 (i+1) m' ys σ3 H6)
def vT (Y:Cx) (D:Addr) (P:List (Addr × Obj)) (Fin:List V→St→Hp→Prop) (s:Shared):Prop:=∃ ys its k σ H,Inv Y (Lp D its k :: P) σ H s∧Vals ys its∧ys.length≤sizeLine∧Fin ys σ H
def uE (Y:Cx) (D:Addr) (elt:Expr) (te:TE) (G:List Comprehension) (scope:Scope) (pos:Pos) (rs:List (TI × TG × TT)) (c:Comprehension) (r:TI × TG × TT) (k:Nat):Prop :=
    ∀ (P:List (Addr × Obj)),(∀ p∈P,p.1≠D)→∀ {σ:St} {H:Hp} {s:Shared} {ys:List V} {its:List Value} {kk:Nat} {Fin:List V→St→Hp→Prop},Inv Y (Lp D its kk :: P) σ H s→Vals ys its→ys.length≤sizeLine →
      r.1 σ H (LcT rs r.2.1 r.2.2 te ys σ Fin) →
      wpAny (model Y.prog Y.w) Y.A (eval c.iter Y.env) (fun x s₄=>wpAny (model Y.prog Y.w) Y.A (pyIter x) (fun it2 s₅ =>
        codeAny (model Y.prog Y.w) Y.A (.compStart (.ListComp elt G scope pos) k it2 (.ref D) Y.env) (fun r s₆=>match r with|.ok _=>vT Y D P Fin s₆|.error _=>False) s₅) (fun _ _=>False) s₄) (fun _ _=>False) s
theorem se {Y:Cx} {τ:Type} {val:τ→St} {nx:St→τ} (hc:Y.calm=true) (hxe:Y.xe=fun _ _=>False) (hrs:∀ {pn:List (Addr × Obj)} {σ':St} {H':Hp} {s':Shared},Inv Y pn σ' H' s'→Inv Y pn (val (nx σ')) H' s')
    {D:Addr} (hDx:D∈Y.ex∨Y.s₀.heap.objs.size≤D) (hDc:∀ x c,Y.env.cells.lookup x=some c→c≠D) (hDp:∀ p∈Y.pn,p.1≠D)
    {elt tg iter tg2 iter2:Expr} {ifs ifs2:List Expr} {te:TE} {g:TG} {tt:TT} {G:List Comprehension} {scope:Scope} {pos:Pos} {k:Nat} {r2:TI × TG × TT} {rs:List (TI × TG × TT)} (hk:G[k]?=some ⟨tg,iter,ifs,0⟩) (hk2:G[k+1]?=some ⟨tg2,iter2,ifs2,0⟩) (hst:∀ x,foldedSetIterable iter2 Y.env x=pure x) (htg:PG Y tg g) (hfs:gD Y ifs tt)
    {P:List (Addr × Obj)} (hP:∀ p∈P,p.1≠D) (inn:uE Y D elt te G scope pos rs ⟨tg2,iter2,ifs2,0⟩ r2 (k+1)) {it:Addr} {fp:List Addr} {tn:Nat→Heap→Prop} {J:It} (T:Turn Y.prog Y.w Y.K tg J fp it tn) (neD:∀ b∈fp,D≠b) (fpY:∀ {H':Hp} {n:Nat} {its:List Value},(∀ b∈fp,H' b=none)→∀ b∈fp,eR Y (Lp D its n :: P) H' b)
    {R:Result→Shared→Prop} {Fin:List V→τ→Hp→Prop} (hR:∀ ys its k t H s,Inv Y (Lp D its k :: P) (val t) H s→Vals ys its→ys.length≤sizeLine→Fin ys t H→R (.ok .next) s)
    {W:Nat→Nat→List V→τ→Hp→Prop} (turn:∀ i m ys t H,W i m ys t H→(J.stop i H∧Fin ys t H) ∨
      (J.go i H∧∀ x H',J.yld i H x H'→g x (val t) H' fun σ3 H5=>tt σ3 H5 fun b H6=>if b=true then r2.1 σ3 H6 (LcT rs r2.2.1 r2.2.2 te ys σ3 fun ys' σ' H7=>∃ m',m' < m∧W (i+1) m' ys' (nx σ') H7) else ∃ m',m' < m∧W (i+1) m' ys (nx σ3) H6))
    {m0 kk:Nat} {ys:List V} {its:List Value} {t:τ} {H:Hp} {s:Shared} (I:Inv Y (Lp D its kk :: P) (val t) H s) (rv:Vals ys its) (hz:ys.length≤sizeLine) (st:tn 0 s.heap) (fr:∀ b∈fp,H b=none) (w0:W 0 m0 ys t H) :
    codeAny (model Y.prog Y.w) Y.A (.compLoop (.ListComp elt G scope pos) k (.ref it) (.ref D) Y.env) R s:=by
  have xe:∀ e s,Y.xe e s→False:=fun e s z=>by rw [hxe] at z;exact z
  refine oh hk hk2 (fun n s'=>∃ i ys its k t H',Inv Y (Lp D its k :: P) (val t) H' s'∧Vals ys its∧ys.length≤sizeLine∧tn i s'.heap∧(∀ b∈fp,H' b=none)∧W i n ys t H') hst ?_ m0 ⟨0,ys,its,kk,t,H,I,rv,hz,st,fr,w0⟩;rintro n s3 ⟨i,ys3,its3,k3,t3,H3,I3,rv3,hz3,st3,fr3,w3⟩;rcases turn i n ys3 t3 H3 w3 with ⟨stop,qn⟩|⟨go,step⟩
  · refine wpAny_mono (T.done Y rfl rfl rfl hc i _ s3 _ H3 (fun _ _=>False) I3 (fpY fr3) st3 stop) (fun r s4 ⟨hr,I4⟩=>?_) fun _ _ z=>z;subst hr;exact hR ys3 its3 k3 t3 H3 s4 I4 rv3 hz3 qn
  · refine wpAny_mono (T.item Y rfl rfl rfl hc i _ s3 _ H3 (fun _ _=>False) I3 (fpY fr3) st3 go) (fun r s4 ⟨u,hr,h4⟩=>?_) fun _ _ z=>z;subst hr;refine wpAny_mono h4 (fun _ s5 ⟨x,H5,I5,r5,y5,st5,fr5⟩=>?_) fun _ _ z=>z;have I5':=I5.pinned (fpY fr5) (T.obj _ _ st5);refine wpAny_mono (htg _ s5 _ H5 x u _ I5' r5 (step x H5 y5)) (fun _ s6 ⟨σ6,H6,I6,q6⟩=>?_) fun e s z=>(xe e s z).elim;refine wpAny_mono (hfs _ s6 σ6 H6 _ I6 q6) (fun ok s7 ⟨H7,I7,q7⟩=>?_) fun e s z=>(xe e s z).elim;have again:∀ {ys':List V} {its':List Value} {k':Nat} {σ':St} {H':Hp} {s':Shared},Inv Y (Lp D its' k' :: (P++cO fp s5.heap)) σ' H' s'→Vals ys' its'→ys'.length≤sizeLine→(∃ m',m' < n∧W (i+1) m' ys' (nx σ') H') →
        ∃ m,m < n∧∃ i ys its k t H',Inv Y (Lp D its k :: P) (val t) H' s'∧Vals ys its∧ys.length≤sizeLine∧tn i s'.heap∧(∀ b∈fp,H' b=none)∧W i m ys t H':=fun {ys' its' k' σ' H' s'} Z rv' hz' hw=>by
      obtain ⟨m',hm,w'⟩:=hw;have pn:∀ {b:Addr} {o:Obj},b∈fp→s5.heap.get? b=some o→_:=fun {b o} hb e=>Z.pin (b,o) (aar _ (aak _ (aar _ (eL hb e))));refine ⟨m',hm,i+1,ys',its',k',nx σ',H',hrs (Inv.unpinned (pl:=cO fp s5.heap) Z),rv',hz',T.keep _ _ _ st5 fun b hb o e=>(pn hb e).1,fun b hb=>?_,w'⟩;obtain ⟨o,e,d⟩:=T.obj _ _ st5 b hb;exact (pn hb e).2.1
    cases ok with
    | false =>
      rw [if_neg aad] at q7 ⊢;exact again I7 rv3 hz3 q7
    | true =>
      rw [if_pos rfl] at q7 ⊢;refine wpAny_mono (inn (P++cO fp s5.heap) (fun p hp=>?_) I7 rv3 hz3 q7) (fun x s8 h8=>wpAny_mono h8 (fun it2 s9 h9=>codeAny_mono h9 fun r s10 h10=>?_) fun _ _ z=>z) fun _ _ z=>z
      · rcases aav.mp hp with z|z
        · exact hP p z
        · exact abS (neD _ (gZ z).1)
      · cases r with
        | error e=>exact h10.elim
        | ok f =>
          obtain ⟨ys',its',k',σ',H',Z,rv',hz',w'⟩:=h10;exact again Z rv' hz' w'
theorem rW {Y:Cx} (hc:Y.calm=true) (hxe:Y.xe=fun _ _=>False) {D:Addr} (hDx:D∈Y.ex∨Y.s₀.heap.objs.size≤D) (hDc:∀ x c,Y.env.cells.lookup x=some c→c≠D) (hDp:∀ p∈Y.pn,p.1≠D)
    {elt:Expr} {te:TE} {G:List Comprehension} {scope:Scope} {pos:Pos} (hbe:PE Y elt te) :
    ∀ (rs:List (TI × TG × TT)) (c:Comprehension) (r:TI × TG × TT) (k:Nat),G[k]?=some c→PCl Y c r→Paired (PCl Y) (G.drop (k+1)) rs →
    uE Y D elt te G scope pos rs c r k:=by
  intro rs;have xe:∀ e s,Y.xe e s→False:=fun e s z=>by rw [hxe] at z;exact z
  have fpx:∀ {fp:List Addr} {P:List (Addr × Obj)} {its:List Value} {kk:Nat} {H2:Hp},(∀ b∈fp,eR Y (Lp D its kk :: P) H2 b)→(∀ b∈fp,D≠b)∧∀ {H':Hp} {n:Nat} {its':List Value},(∀ b∈fp,H' b=none)→∀ b∈fp,eR Y (Lp D its' n :: P) H' b:=fun {fp P its kk H2} f2=>by
    have neD:∀ b∈fp,D≠b:=fun b hb=>(f2 b hb).2.2.2.2.2 (Lp D its kk) (aar _ aat);refine ⟨neD,fun {H' n its'} hn b hb=>⟨hn b hb,(f2 b hb).2.1,(f2 b hb).2.2.1,(f2 b hb).2.2.2.1,(f2 b hb).2.2.2.2.1,fun p hp=>?_⟩⟩;rcases aav.mp hp with z|z
    · exact (f2 b hb).2.2.2.2.2 p (aaD _ z)
    · rcases aai.mp z with z|z
      · rw [z];exact neD b hb
      · exact (f2 b hb).2.2.2.2.2 p (aar _ (aak _ z))
  induction rs with
  | nil =>
    intro c r k hk hcl hG P hP σ H s ys its kk Fin I rv hz h;have hk2:G[k+1]?=none:=by
      have l:=aaC hG;rw [abf] at l;exact abF (by simp at l;lia)
    obtain ⟨tg,iter,ifs,as⟩:=c;have as0:as=0:=hcl.as;subst as0;refine wpAny_mono (hcl.it _ s σ H _ I h) (fun v s1 h1=>wpAny_mono h1 (fun itv s2 h2=>?_) fun e s z=>(xe e s z).elim) fun e s z=>(xe e s z).elim;obtain ⟨it,fp,tn,J,H2,e,I2,T,st2,f2,W,⟨m0,w0⟩,turn⟩:=h2;subst e;have loop:=o_ (τ:=St) (val:=fun z=>z) (nx:=fun z=>z) hc hxe (fun Z=>Z) hDx hDc hDp (scope:=scope) (pos:=pos) hbe hk hk2 hcl.tg hcl.fs hP T (fpx f2).1 (fpx f2).2 (R:=fun r s₆=>match r with|.ok _=>vT Y D P Fin s₆|.error _=>False) (fun ys its k t H s I4 rv hz fin=>⟨ys,its,k,t,H,I4,rv,hz,fin⟩) turn I2 rv hz st2 (fun b hb=>(f2 b hb).1) w0;exact jn hk loop (T.self _ 0 _ _ _ st2 loop)
  | cons r2 rs ih =>
    intro c r k hk hcl hG P hP σ H s ys its kk Fin I rv hz h;obtain ⟨c2,hk2,hcl2,hG2⟩:∃ c2,G[k+1]?=some c2∧PCl Y c2 r2∧Paired (PCl Y) (G.drop (k+1+1)) rs:=by
      cases e:G.drop (k+1) with
      | nil=>rw [e] at hG;cases hG
      | cons c2 l =>
        rw [e] at hG;have e1:G[k+1]?=some c2:=by
          have:=congrArg (·[0]?) e;simpa using this
        have e2:G.drop (k+1+1)=l:=by rw [← List.drop_drop,e];rfl
        cases hG with
        | cons a b=>exact ⟨c2,e1,a,by rw [e2];exact b⟩
    obtain ⟨tg,iter,ifs,as⟩:=c;have as0:as=0:=hcl.as;subst as0;obtain ⟨tg2,iter2,ifs2,as2⟩:=c2;have as20:as2=0:=hcl2.as;subst as20;refine wpAny_mono (hcl.it _ s σ H _ I h) (fun v s1 h1=>wpAny_mono h1 (fun itv s2 h2=>?_) fun e s z=>(xe e s z).elim) fun e s z=>(xe e s z).elim;obtain ⟨it,fp,tn,J,H2,e,I2,T,st2,f2,W,⟨m0,w0⟩,turn⟩:=h2;subst e;have loop:=se (τ:=St) (val:=fun z=>z) (nx:=fun z=>z) hc hxe (fun Z=>Z) hDx hDc hDp (scope:=scope) (pos:=pos) hk hk2 (hcl2.st _) hcl.tg hcl.fs hP (ih _ r2 (k+1) hk2 hcl2 hG2) T (fpx f2).1 (fpx f2).2 (R:=fun r s₆=>match r with|.ok _=>vT Y D P Fin s₆|.error _=>False) (fun ys its k t H s I4 rv hz fin=>⟨ys,its,k,t,H,I4,rv,hz,fin⟩) turn I2 rv hz st2 (fun b hb=>(f2 b hb).1) w0;exact jn hk loop (T.self _ 0 _ _ _ st2 loop)
abbrev pT (cap:List (Option Nat)) (g:TG) (tt:TT) (r2:TI × TG × TT) (rs:List (TI × TG × TT)) (te:TE) (σ:St) (Q:VK) (J:It) (H1:Hp):Prop:=∃ W:Nat→Nat→List V→Hp→Prop,(∃ m,W 0 m [] H1)∧∀ i m ys H,W i m ys H →
  (J.stop i H∧∀ p,H p=none→Q (.ref p) (upd H p (.lst ys))) ∨
  (J.go i H∧∀ x H',J.yld i H x H'→g x (bV cap σ) H' fun σ2 H2=>tt σ2 H2 fun b H3=>if b=true then r2.1 σ2 H3 (LcT rs r2.2.1 r2.2.2 te ys σ2 fun ys' _ H4=>∃ m',m' < m∧W (i+1) m' ys' H4) else ∃ m',m' < m∧W (i+1) m' ys H3)
def xF (cap:List (Option Nat)) (wi:TI) (g:TG) (tt:TT) (r2:TI × TG × TT) (rs:List (TI × TG × TT)) (te:TE):TE:=fun σ H Q=>wi σ H (pT cap g tt r2 rs te σ Q)
section
variable {X:Cx}
theorem rp {elt tg iter:Expr} {ifs:List Expr} {G:List Comprehension} {r2:TI × TG × TT} {rs:List (TI × TG × TT)} {scope:Scope} {pos:Pos} {cl:List (Str × Addr)} {NY:List Str} {cap:List (Option Nat)} {wi:TI} {g:TG} {tt:TT} {te:TE} (hc:X.calm=true) (hi:PI X tg iter wi)
    (hclos:closureFor scope X.env=pure cl) (hci:CellsIn X.env cl) (hcap:CapOk X.env (relabel scope X.env) X.N NY cap)
    (hb:∀ fp s H C,PG (aV X scope cl NY fp s H C) tg g∧gD (aV X scope cl NY fp s H C) ifs tt∧Paired (PCl (aV X scope cl NY fp s H C)) G (r2 :: rs)∧PE (aV X scope cl NY fp s H C) elt te)
    (hkind:scope.kind=.function:=by rfl) (hnc:(scope.names.all fun y=>y.2 != .cell)=true:=by rfl)
    (hnames:(scope.names.all fun y=>y.2 != .local || scope.names.lookup y.1 == some .local)=true:=by rfl)
    (hhas:((relabel scope X.env).names.all fun p=>(p.2 != .cell && p.2 != .free) || (cl.lookup p.1).isSome)=true:=by rfl)
    (hs:∀ x,foldedSetIterable iter X.env x=pure x:=by intro _;rfl) :
    PE X (.ListComp elt (⟨tg,iter,ifs,0⟩ :: G) scope pos) (xF cap wi g tt r2 rs te):=by
  intro pins s σ H Q I h;rw [eval_ListComp];refine wpAny_comprehension_free (use:=none) rfl hs hclos hkind (pR hnames) (wpAny_mono (hi pins s σ H _ I h) (fun v s1 h1=>wpAny_mono h1 (fun itv s2 h2=>?_) fun _ _ e=>e) fun _ _ e=>e);obtain ⟨it,fp,tn,J,H2,e,I2,T,st2,f2,W,⟨m0,w0⟩,turn⟩:=h2;subst e;refine wpAny_newObj_type (wpAny_newFunctionEnv (sT hnc) (by intro y hy;simp at hy) (fun h₁ hns₁ hsb₁=>?_) hkind);dsimp only at hns₁ hsb₁ ⊢;obtain ⟨hC,B,hD⟩:=I2.newC hci hkind hhas hns₁ fun b o hb e=>hsb₁.extBut b o hb (aaf _ e);generalize (s2.heap.push { cls:=.type "list",dict:=none,data:=.seq ([]:List Value).toArray }).objs.size=C at hC B ⊢;obtain ⟨hbg,hbt,hbG,hbe⟩:=hb fp s2 H2 C;obtain ⟨c2,G',eG,hcl2,hG'⟩:∃ c2 G',G=c2 :: G'∧PCl (aV X scope cl NY fp s2 H2 C) c2 r2∧Paired (PCl (aV X scope cl NY fp s2 H2 C)) G' rs:=by
    cases hbG with
    | cons a b=>exact ⟨_,_,rfl,a,b⟩
  obtain ⟨tg2,iter2,ifs2,as2⟩:=c2;have as20:as2=0:=hcl2.as;subst as20;have stW:=T.keep _ _ h₁ st2 fun b _ o e=>B.old b o e;have fpl:=T.lt st2;have hDc:=B.neD I2.cellLt (aah _) hD fun v z=>by cases z
  have loop:=se (τ:=Unit) (val:=fun _=>bV cap σ) (nx:=fun _=>()) (Y:=aV X scope cl NY fp s2 H2 C) hc rfl (fun Z=>I2.recap f2 B hcap fZ Z) (.inr (aah _)) hDc (fun p hp=>by cases hp) (elt:=elt) (te:=te) (G:=⟨tg,iter,ifs,0⟩ :: G) (scope:=scope) (pos:=pos) (k:=0) rfl (show (⟨tg,iter,ifs,0⟩ :: G:List Comprehension)[1]?=some ⟨tg2,iter2,ifs2,0⟩ by rw [eG];rfl) (hcl2.st _) hbg hbt (P:=[]) (fun p hp=>by cases hp)
    (rW (Y:=aV X scope cl NY fp s2 H2 C) hc rfl (.inr (aah _)) hDc (fun p hp=>by cases hp) hbe rs _ r2 1 (by rw [eG];rfl) hcl2 (by rw [eG];exact hG')) T
    (fun b hb=>abA (fpl b hb)) (fun hn=>I2.fps f2 fpl B (fun p hp=>by rw [aaM.mp hp];exact aah _) hn) (R:=compPost (model X.prog X.w) X.A X.xe none (EP X pins σ Q) (.ref s2.heap.objs.size) C) (fun ys its k _ H s I4 rv hz fin=>I2.lstEnd f2 (aah _) (abz hC) rfl I4 rv hz fin)
    (W:=fun i m ys _ H=>W i m ys H) (fun i m ys _ H=>turn i m ys H) (t:=()) (I2.blk f2 fpl B hcap fZ (fun p hp=>by rw [aaM.mp hp];exact ⟨hD,aah _,aaF hC,fun v z=>by cases z⟩) (t':=s2.toks+([]:List (Str × Value)).length)) .nil (aaU _) stW (fun b hb=>(f2 b hb).1) w0
  exact codeAny_compStart_list loop (T.self _ 0 _ _ _ stW loop)
end
abbrev uC (g2:TG) (tt2:TT) (te:TE) (ys:List V) (σ2:St) (Fin:List V→Hp→Prop) (J2:It) (H4:Hp):Prop:=oy g2 tt2 te ys σ2 (fun ys _ H=>Fin ys H) J2 H4
abbrev uD (cap:List (Option Nat)) (g:TG) (tt:TT) (wi2:TI) (g2:TG) (tt2:TT) (te:TE) (σ:St) (Q:VK) (J:It) (H1:Hp):Prop:=pT cap g tt (wi2,g2,tt2) [] te σ Q J H1
def xH (cap:List (Option Nat)) (wi:TI) (g:TG) (tt:TT) (wi2:TI) (g2:TG) (tt2:TT) (te:TE):TE:=fun σ H Q=>wi σ H (uD cap g tt wi2 g2 tt2 te σ Q)
abbrev xu (cap:List (Option Nat)) (g:TG) (tt:TT) (wi2:TI) (g2:TG) (tt2:TT) (wi3:TI) (g3:TG) (tt3:TT) (wi4:TI) (g4:TG) (tt4:TT) (te:TE) (σ:St) (Q:VK) (J:It) (H1:Hp):Prop:=pT cap g tt (wi2,g2,tt2) [(wi3,g3,tt3),(wi4,g4,tt4)] te σ Q J H1
def xG (cap:List (Option Nat)) (wi:TI) (g:TG) (tt:TT) (wi2:TI) (g2:TG) (tt2:TT) (wi3:TI) (g3:TG) (tt3:TT) (wi4:TI) (g4:TG) (tt4:TT) (te:TE):TE:=fun σ H Q=>wi σ H (xu cap g tt wi2 g2 tt2 wi3 g3 tt3 wi4 g4 tt4 te σ Q)
section
variable {X:Cx}
theorem vb {elt tg iter tg2 iter2:Expr} {ifs ifs2:List Expr} {scope:Scope} {pos:Pos} {cl:List (Str × Addr)} {NY:List Str} {cap:List (Option Nat)} {wi wi2:TI} {g g2:TG} {tt tt2:TT} {te:TE} (hc:X.calm=true) (hi:PI X tg iter wi)
    (hclos:closureFor scope X.env=pure cl) (hci:CellsIn X.env cl) (hcap:CapOk X.env (relabel scope X.env) X.N NY cap)
    (hb:∀ fp s H C,PG (aV X scope cl NY fp s H C) tg g∧gD (aV X scope cl NY fp s H C) ifs tt∧PI (aV X scope cl NY fp s H C) tg2 iter2 wi2∧PG (aV X scope cl NY fp s H C) tg2 g2∧gD (aV X scope cl NY fp s H C) ifs2 tt2∧PE (aV X scope cl NY fp s H C) elt te)
    (hkind:scope.kind=.function:=by rfl) (hnc:(scope.names.all fun y=>y.2 != .cell)=true:=by rfl)
    (hnames:(scope.names.all fun y=>y.2 != .local || scope.names.lookup y.1 == some .local)=true:=by rfl)
    (hhas:((relabel scope X.env).names.all fun p=>(p.2 != .cell && p.2 != .free) || (cl.lookup p.1).isSome)=true:=by rfl)
    (hs:∀ x,foldedSetIterable iter X.env x=pure x:=by intro _;rfl) (hs2:∀ E x,foldedSetIterable iter2 E x=pure x:=by intro _ _;rfl) :
    PE X (.ListComp elt [⟨tg,iter,ifs,0⟩,⟨tg2,iter2,ifs2,0⟩] scope pos) (xH cap wi g tt wi2 g2 tt2 te) :=
  rp (r2:=(wi2,g2,tt2)) (rs:=[]) hc hi hclos hci hcap (fun fp s H C=>by obtain ⟨hbg,hbt,i2,t2,f2,hbe⟩:=hb fp s H C;exact ⟨hbg,hbt,(.cons ⟨rfl,i2,t2,f2,hs2⟩ .nil),hbe⟩) hkind hnc hnames hhas hs
theorem va {elt tg iter tg2 iter2 tg3 iter3 tg4 iter4:Expr} {ifs ifs2 ifs3 ifs4:List Expr} {scope:Scope} {pos:Pos} {cl:List (Str × Addr)} {NY:List Str} {cap:List (Option Nat)} {wi wi2 wi3 wi4:TI} {g g2 g3 g4:TG} {tt tt2 tt3 tt4:TT} {te:TE} (hc:X.calm=true) (hi:PI X tg iter wi)
    (hclos:closureFor scope X.env=pure cl) (hci:CellsIn X.env cl) (hcap:CapOk X.env (relabel scope X.env) X.N NY cap)
    (hb:∀ fp s H C,PG (aV X scope cl NY fp s H C) tg g∧gD (aV X scope cl NY fp s H C) ifs tt∧PI (aV X scope cl NY fp s H C) tg2 iter2 wi2∧PG (aV X scope cl NY fp s H C) tg2 g2∧gD (aV X scope cl NY fp s H C) ifs2 tt2∧PI (aV X scope cl NY fp s H C) tg3 iter3 wi3∧PG (aV X scope cl NY fp s H C) tg3 g3∧gD (aV X scope cl NY fp s H C) ifs3 tt3∧PI (aV X scope cl NY fp s H C) tg4 iter4 wi4∧PG (aV X scope cl NY fp s H C) tg4 g4∧gD (aV X scope cl NY fp s H C) ifs4 tt4∧PE (aV X scope cl NY fp s H C) elt te)
    (hkind:scope.kind=.function:=by rfl) (hnc:(scope.names.all fun y=>y.2 != .cell)=true:=by rfl)
    (hnames:(scope.names.all fun y=>y.2 != .local || scope.names.lookup y.1 == some .local)=true:=by rfl)
    (hhas:((relabel scope X.env).names.all fun p=>(p.2 != .cell && p.2 != .free) || (cl.lookup p.1).isSome)=true:=by rfl)
    (hs:∀ x,foldedSetIterable iter X.env x=pure x:=by intro _;rfl) (hs2:∀ E x,foldedSetIterable iter2 E x=pure x:=by intro _ _;rfl) (hs3:∀ E x,foldedSetIterable iter3 E x=pure x:=by intro _ _;rfl) (hs4:∀ E x,foldedSetIterable iter4 E x=pure x:=by intro _ _;rfl) :
    PE X (.ListComp elt [⟨tg,iter,ifs,0⟩,⟨tg2,iter2,ifs2,0⟩,⟨tg3,iter3,ifs3,0⟩,⟨tg4,iter4,ifs4,0⟩] scope pos) (xG cap wi g tt wi2 g2 tt2 wi3 g3 tt3 wi4 g4 tt4 te) :=
  rp (r2:=(wi2,g2,tt2)) (rs:=[(wi3,g3,tt3),(wi4,g4,tt4)]) hc hi hclos hci hcap (fun fp s H C=>by obtain ⟨hbg,hbt,i2,t2,f2,i3,t3,f3,i4,t4,f4,hbe⟩:=hb fp s H C;exact ⟨hbg,hbt,(.cons ⟨rfl,i2,t2,f2,hs2⟩ (.cons ⟨rfl,i3,t3,f3,hs3⟩ (.cons ⟨rfl,i4,t4,f4,hs4⟩ .nil))),hbe⟩) hkind hnc hnames hhas hs
end
open PySem PySem.Spec PyProof.Rows
section
variable {M:Model} {A:Around} {E:Value→Shared→Prop} {s:Shared}
structure Lft (l:List Env) (e:Addr) (x:List Addr) (h h':Heap):Prop where
  keep:∀ b o,b∉l.filterMap (·.frame)→b≠e→b∉x→h.get? b=some o→h'.get? b=some o
  slot:∀ b o,b∈l.filterMap (·.frame)→h.get? b=some o→∃ sl,h'.get? b=some { o with slots:=sl }
end
section
variable {P:Program} {w:World} {K:aaa} {mg:Str→Option Value} {base:Heap} {N:List Str} {qual:Str} {scope:Scope} {f:Addr} {cd:Value} {A:Around} {outer:List Env} {s0:Shared} {H0:Hp} {E:XK}
end
structure EC (K:aaa) (C:Addr):Prop where
  ex:∃ nm q N bs bm hdct sn sub ab col dd k0 k1 k2 k3 k5 B newId initId bmB mN,ExcBaseFacts B newId initId bmB∧bm.contains (.type "BaseException")=true∧mN ("__init__":Str)=none ∧
    ∀ h,K.In h→h.get? C=some (excClassObj nm q C N bs bm hdct sn sub ab col dd k0 k1 k2 k3 k5 newId)∧h.Ns N mN∧OwnTail h bmB bm
section
variable {X:Cx} {pins0 pins:List (Addr × Obj)} {Cat:St→Addr→Hp→Prop} {σ:St} {H:Hp} {s:Shared}
end
section
variable {M:Model} {A:Around} {E:Value→Shared→Prop} {s:Shared}
end
structure Und (K:aaa) (C P:Addr):Prop where
  ex:∃ nm q N bs bm hdct sn sub ab col dd k0 k1 k2 k3 k5 newId nm' q' N' bs' bm' hdct' sn' sub' ab' col' dd' k0' k1' k2' k3' k5' newId',(Value.ref C :: bm).contains (.ref P)=true∧bm'.contains (.type "BaseException")=true ∧
    ∀ h,K.In h→h.get? C=some (excClassObj nm q C N bs bm hdct sn sub ab col dd k0 k1 k2 k3 k5 newId)∧h.get? P=some (excClassObj nm' q' P N' bs' bm' hdct' sn' sub' ab' col' dd' k0' k1' k2' k3' k5' newId')
section
variable {X:Cx} {pins:List (Addr × Obj)} {σ:St} {H:Hp} {s:Shared}
end
section
variable {M:Model} {A:Around} {E:Value→Shared→Prop} {s:Shared}
end
section
variable {X:Cx} {pins:List (Addr × Obj)} {σ:St} {H:Hp} {s:Shared}
end
open PySem PySem.Spec PyProof.Rows
structure Lkp (M:Model) (h:Heap) (C:Addr):Prop where
  ga:acL M h (typeLookup (.ref C) "__getattribute__") (some (.builtin "BaseException.__getattribute__"))
  no:acL M h (typeLookup (.ref C) "__getattr__") none
  cls:acL M h (typeLookup (.ref C) "__class__") (some (.builtin "object.__class__"))
  be:acL M h (isSubtype (.ref C) (.type "BaseException")) true
  obj:acL M h (isSubtype (.ref C) (.type (".".intercalate ("object.__class__".cutAt '.').dropLast))) true
section
variable {prog:Program} {w:World} {A:Around} {E:Value→Shared→Prop} {h:Heap} {g:Array GenState} {d:Drawn} {t:Nat} {os:OsState} {a C:Addr} {o:Obj}
end
structure ExC (K:aaa) (C:Addr):Prop where
  lk:∀ (M:Model) (h:Heap),K.In h→Lkp M h C
  cl:(PySem.W.clsIn K C).isSome=true
  sl:∃ B,Slot B "__getattribute__" "BaseException.__getattribute__"
open PySem PySem.Spec PyProof.Rows
theorem fL:∀ {ns:List Int} {its:List Value},Vals (ns.map V.int) its→∃ ts:List (Int × Tok),its=ts.map (fun p=>Value.int p.1 p.2)∧ts.map (·.1)=ns
  | [],_,.nil=>⟨[],rfl,rfl⟩
  | i :: r,_,.cons h t=>by
    obtain ⟨k,rfl⟩:=(show ∃ k,_=Value.int i k from h)
    obtain ⟨ts,e1,e2⟩:=fL t;exact ⟨(i,k) :: ts,by rw [e1];rfl,by rw [aae,e2]⟩
open PySem PySem.Spec PyProof.Rows
open PySem PySem.Spec PyProof.Rows
section
variable {K:aaa} {C Pa N N':Addr} {nm nm' q q':Str} {bs bs' sub sub':List Value} {hdct hdct':Bool} {sn sn':List Str} {ab ab':Bool} {col col':Option Bool} {dd dd':Option Addr} {k0 k1 k2 k3 k5 k0' k1' k2' k3' k5' oc oc':Option Value}
  {c1 c2:Value} {od od':Option Addr} {es es':Array DictEntry} {n n':Nat} {sl sl':Array (Option Value)}
end
end L2
namespace L2
open PySem
open PySem PySem.Spec PyProof.Rows
open PySem PySem.Spec PyProof.Rows
section
variable {X:Cx}
end
open PySem PySem.Spec PyProof.Rows
section
variable {X:Cx}
theorem ja {ts:List (Int × Tok)} {j:Nat} (h:j < ts.length):numAt ts.toArray j=(ts[j]).1:=by
  unfold numAt;simp [h]
theorem pP {ts:List (Int × Tok)} {k:Nat} {v:Value} (hk:k < ts.length) (hv:(intItems ts.toArray)[k]?=some v):∃ t,v=.int (numAt ts.toArray k) t:=by
  unfold intItems at hv;rw [ja hk];have e:((ts.toArray.map fun p=>Value.int p.1 p.2))[k]?=some (Value.int (ts[k]).1 (ts[k]).2):=by simp [hk]
  have hv':((ts.toArray.map fun p=>Value.int p.1 p.2))[k]?=some v:=hv;rw [e] at hv';exact ⟨_,(aal hv').symm⟩
theorem dS (hc:X.calm=true):bQ X (.builtin "min") (fun xs H Q=>∃ (p:Addr) (ns:List Int),xs=[.ref p]∧SqL X.K H p (ns.map V.int)∧ns≠[]∧∀ m∈ns,(∀ x∈ns,m≤x)→Q (.int m) H):=by
  intro pins s σ H xs us Q I r h;obtain ⟨p,ns,rfl,hq,hne,q⟩:=h;obtain ⟨u,rfl,rx⟩:=dI r;cases rx;obtain ⟨its,r',pl,hz⟩:=I.list hq;obtain ⟨ts,e1,e2⟩:=fL r';subst e1;have el:(ts.map (fun p=>Value.int p.1 p.2)).toArray=intItems ts.toArray:=by unfold intItems;simp
  have hl:0 < ts.length:=by
    rw [← aab (f:=(·.1)),e2];exact acM.mpr hne
  refine min_intList (xs:=ts.toArray) (I.ok.hd hc) (by rw [← el];exact pl.isList) (by simpa using hl) fun v h' tk hv hk=>?_;have sz:ts.toArray.size=ts.length:=by simp
  rw [sz] at hv;obtain ⟨b1,b2⟩:=argBest_lt (numAt ts.toArray) (ts.length - 1);revert b1 b2 hv;generalize argBest (fun i j=>decide (numAt ts.toArray i < numAt ts.toArray j)) (ts.length - 1)=k;intro hv b1 b2;have kl:k < ts.length:=by lia
  obtain ⟨t,rfl⟩:=pP kl hv;refine ⟨.int (numAt ts.toArray k),H,I.kept (t':=tk) hk,⟨t,rfl⟩,q _ ?_ fun x hx=>?_⟩
  · rw [ja kl,← e2];exact aan.mpr ⟨_,abx kl,rfl⟩
  · rw [← e2] at hx;obtain ⟨y,hy,rfl⟩:=aan.mp hx;obtain ⟨j,hj,rfl⟩:=List.getElem_of_mem hy;have:=b2 j (by lia);rw [ja hj] at this;exact this
theorem dU (hc:X.calm=true):bQ X (.builtin "max") (fun xs H Q=>∃ (p:Addr) (ns:List Int),xs=[.ref p]∧SqL X.K H p (ns.map V.int)∧ns≠[]∧∀ m∈ns,(∀ x∈ns,x≤m)→Q (.int m) H):=by
  intro pins s σ H xs us Q I r h;obtain ⟨p,ns,rfl,hq,hne,q⟩:=h;obtain ⟨u,rfl,rx⟩:=dI r;cases rx;obtain ⟨its,r',pl,hz⟩:=I.list hq;obtain ⟨ts,e1,e2⟩:=fL r';subst e1;have el:(ts.map (fun p=>Value.int p.1 p.2)).toArray=intItems ts.toArray:=by unfold intItems;simp
  have hl:0 < ts.length:=by
    rw [← aab (f:=(·.1)),e2];exact acM.mpr hne
  refine max_intList (xs:=ts.toArray) (I.ok.hd hc) (by rw [← el];exact pl.isList) (by simpa using hl) fun v h' tk hv hk=>?_;have sz:ts.toArray.size=ts.length:=by simp
  rw [sz] at hv;obtain ⟨b1,b2⟩:=argBest_gt (numAt ts.toArray) (ts.length - 1);revert b1 b2 hv;generalize argBest (fun i j=>decide (numAt ts.toArray i > numAt ts.toArray j)) (ts.length - 1)=k;intro hv b1 b2;have kl:k < ts.length:=by lia
  obtain ⟨t,rfl⟩:=pP kl hv;refine ⟨.int (numAt ts.toArray k),H,I.kept (t':=tk) hk,⟨t,rfl⟩,q _ ?_ fun x hx=>?_⟩
  · rw [ja kl,← e2];exact aan.mpr ⟨_,abx kl,rfl⟩
  · rw [← e2] at hx;obtain ⟨y,hy,rfl⟩:=aan.mp hx;obtain ⟨j,hj,rfl⟩:=List.getElem_of_mem hy;have:=b2 j (by lia);rw [ja hj] at this;exact this
end
open PySem PySem.Spec PyProof.Rows
section
variable {prog:Program} {w:World} {A:Around} {E:Value→Shared→Prop} {s:Shared} {I:Addr} {fp wr:List Addr} {G:Array GenState→Array GenState→Prop} {n:Nat} {P:Nat→Value→Prop} {St:Nat→Shared→Prop}
end
end L2
set_option maxHeartbeats 1000000
namespace L2
open PySem PySem.Spec PyProof.Rows
section
variable {X:Cx} {pos:Pos} {t u:TS}
end
open PySem PySem.Spec PyProof.Rows
section
variable {X:Cx}
end
open PySem PySem.Spec PyProof.Rows
section
variable {X:Cx}
end
end L2
namespace PySem
open Builtin Builtin.Str Builtin.Int
section
variable {prog:Program} {w:World} {A:Around} {E:Value→Shared→Prop} {s:Shared} {x:Str} {t:Tok} {Q:Value→Shared→Prop}
  {I:Addr} {fp wr:List Addr} {G:Array GenState→Array GenState→Prop} {n:Nat} {P:Nat→Value→Prop} {St:Nat→Shared→Prop}
end
end PySem
namespace L2
open PySem PySem.Spec PyProof.Rows
section
variable {X:Cx}
end
open PySem PySem.Spec PyProof.Rows
section
variable {X:Cx}
end
open PySem PySem.Spec PyProof.Rows
section
variable {X:Cx} {pins:List (Addr × Obj)} {σ:St} {H:Hp} {s:Shared} {A:Around} {Q:Value→Shared→Prop} {E:Value→Shared→Prop} {b:Bool}
end
section
variable {X:Cx} {a b c d:Expr} {ta tb tc td:TE} {pos:Pos}
def tf (r r' r'':R2) (ta tb tc td:TE):TE:=fun σ H Q=>ta σ H fun x H1=>tb σ H1 fun y H2=>r x y H2 fun z H3=>∃ k,z=.bl k ∧
  (if k=true then tc σ H3 fun w' H4=>r' y w' H4 fun z' H5=>∃ k',z'=.bl k'∧(if k'=true then td σ H5 fun w'' H6=>r'' w' w'' H6 Q else Q (.bl false) H5) else Q (.bl false) H3)
end
section
variable {X:Cx}
end
open PySem PySem.Spec PyProof.Rows
section
variable {X:Cx} {o e:Expr} {es:List Expr} {to:TE} {t:TA} {name:Str} {apos cpos:Pos} {T id:String} {r:V→List V→Hp→VK→Prop} {K:aaa}
end
open PySem PySem.Spec PyProof.Rows
structure Trn (J:It) (n:Nat) (Kp:Hp→Prop) (item:Nat→V→Hp→Hp→Prop):Prop where
  go:∀ i H,i < n→Kp H→J.go i H
  stop:∀ H,Kp H→J.stop n H
  yld:∀ i H x H',i < n→Kp H→J.yld i H x H'→item i x H H'
theorem Trn.list {K:aaa} {a:Addr} {xs:List V}:Trn (Itl K a) xs.length (fun H=>SqL K H a xs) (fun i x H H'=>H'=H∧xs[i]?=some x) :=
  ⟨fun i H hi q=>⟨xs,xs[i],q,by simp [hi]⟩,fun H q=>⟨xs,q,aah _⟩,fun i H x H' hi q y=>⟨y.1,y.2 xs q⟩⟩
theorem Trn.tup {K:aaa} {a:Addr} {xs:List V}:Trn (Itt K a) xs.length (fun H=>SqT K H a xs) (fun i x H H'=>H'=H∧xs[i]?=some x) :=
  ⟨fun i H hi q=>⟨xs,xs[i],q,by simp [hi]⟩,fun H q=>⟨xs,q,aah _⟩,fun i H x H' hi q y=>⟨y.1,y.2 xs q⟩⟩
theorem Trn.range {lo:Int} {n:Nat}:Trn (Itr lo n) n (fun _=>True) (fun i x H H'=>H'=H∧x=.int (lo+i)) :=
  ⟨fun i H hi _=>hi,fun H _=>aah _,fun i H x H' hi _ y=>y⟩
theorem Trn.str {z:Str}:Trn (Its z) z.cps.size (fun _=>True) (fun i x H H'=>H'=H∧∃ c,z.cps[i]?=some c∧x=.str ⟨#[c]⟩) :=
  ⟨fun i H hi _=>hi,fun H _=>aah _,fun i H x H' hi _ y=>y⟩
theorem b_ {J:It} {n:Nat} {Kp:Hp→Prop} {item:Nat→V→Hp→Hp→Prop} (T:Trn J n Kp item) {cap:List (Option Nat)} {g:TG} {tt:TT} {te:TE} {σ:St} {H:Hp} {Q:VK} (Pv:Nat→List V→Hp→Prop) (h0:Pv 0 [] H) (hk:∀ i ys H,i≤n→Pv i ys H→Kp H∧ys.length < sizeLine)
    (hs:∀ i x ys H H',i < n→item i x H H'→Pv i ys H→∀ Nx:List V→Hp→Prop,(∀ ys' H2,Pv (i+1) ys' H2→Nx ys' H2)→g x (bV cap σ) H' fun σ2 H2=>tt σ2 H2 fun b H3=>if b=true then te σ2 H3 fun v H4=>Nx (ys++[v]) H4 else Nx ys H3)
    (hd:∀ ys H,Pv n ys H→∀ p,H p=none→Q (.ref p) (upd H p (.lst ys))):vS cap g tt te σ Q J H:=by
  refine ⟨fun i m ys H=>m=n - i∧i≤n∧Pv i ys H,⟨n,by simp,aaU _,h0⟩,?_⟩;rintro i m ys H ⟨rfl,hi,p⟩;by_cases hlt:i < n
  · refine .inr ⟨T.go i H hlt (hk i ys H hi p).1,(hk i ys H hi p).2,fun x H' y=>?_⟩;exact hs i x ys H H' hlt (T.yld i H x H' hlt (hk i ys H hi p).1 y) p (fun ys' H4=>∃ m',m' < n - i∧m'=n - (i+1)∧i+1≤n∧Pv (i+1) ys' H4) fun ys' H2 h=>⟨_,by lia,rfl,hlt,h⟩
  · have e:i=n:=by lia
    subst e;exact .inl ⟨T.stop H (hk _ ys H hi p).1,hd ys H p⟩
theorem vA {J:It} {n:Nat} {Kp:Hp→Prop} {item:Nat→V→Hp→Hp→Prop} (T:Trn J n Kp item) {cap:List (Option Nat)} {g:TG} {tt:TT} {wi2:TI} {g2:TG} {tt2:TT} {te:TE} {σ:St} {H:Hp} {Q:VK} (Pv:Nat→List V→Hp→Prop) (h0:Pv 0 [] H) (hk:∀ i ys H,i≤n→Pv i ys H→Kp H)
    (hs:∀ i x ys H H',i < n→item i x H H'→Pv i ys H→∀ Nx:List V→Hp→Prop,(∀ ys' H2,Pv (i+1) ys' H2→Nx ys' H2)→g x (bV cap σ) H' fun σ2 H2=>tt σ2 H2 fun b H3=>if b=true then wi2 σ2 H3 (uC g2 tt2 te ys σ2 Nx) else Nx ys H3)
    (hd:∀ ys H,Pv n ys H→∀ p,H p=none→Q (.ref p) (upd H p (.lst ys))):uD cap g tt wi2 g2 tt2 te σ Q J H:=by
  refine ⟨fun i m ys H=>m=n - i∧i≤n∧Pv i ys H,⟨n,by simp,aaU _,h0⟩,?_⟩;rintro i m ys H ⟨rfl,hi,p⟩;by_cases hlt:i < n
  · refine .inr ⟨T.go i H hlt (hk i ys H hi p),fun x H' y=>?_⟩;exact hs i x ys H H' hlt (T.yld i H x H' hlt (hk i ys H hi p) y) p (fun ys' H4=>∃ m',m' < n - i∧m'=n - (i+1)∧i+1≤n∧Pv (i+1) ys' H4) fun ys' H2 h=>⟨_,by lia,rfl,hlt,h⟩
  · have e:i=n:=by lia
    subst e;exact .inl ⟨T.stop H (hk _ ys H hi p),hd ys H p⟩
theorem vv {J:It} {n:Nat} {Kp:Hp→Prop} {item:Nat→V→Hp→Hp→Prop} (T:Trn J n Kp item) {g2:TG} {tt2:TT} {te:TE} {ys:List V} {σ:St} {H:Hp} {Fin:List V→Hp→Prop} (Pv:Nat→List V→St→Hp→Prop) (h0:Pv 0 ys σ H) (hk:∀ i ys σ H,i≤n→Pv i ys σ H→Kp H∧ys.length < sizeLine)
    (hs:∀ i x ys σ H H',i < n→item i x H H'→Pv i ys σ H→∀ Nx:List V→St→Hp→Prop,(∀ ys' σ' H2,Pv (i+1) ys' σ' H2→Nx ys' σ' H2)→g2 x σ H' fun σ3 H5=>tt2 σ3 H5 fun b H6=>if b=true then te σ3 H6 fun v H7=>Nx (ys++[v]) σ3 H7 else Nx ys σ3 H6)
    (hd:∀ ys σ H,Pv n ys σ H→Fin ys H):uC g2 tt2 te ys σ Fin J H:=by
  refine ⟨fun i m ys σ H=>m=n - i∧i≤n∧Pv i ys σ H,⟨n,by simp,aaU _,h0⟩,?_⟩;rintro i m ys σ H ⟨rfl,hi,p⟩;by_cases hlt:i < n
  · refine .inr ⟨T.go i H hlt (hk i ys σ H hi p).1,(hk i ys σ H hi p).2,fun x H' y=>?_⟩;exact hs i x ys σ H H' hlt (T.yld i H x H' hlt (hk i ys σ H hi p).1 y) p (fun ys' σ' H4=>∃ m',m' < n - i∧m'=n - (i+1)∧i+1≤n∧Pv (i+1) ys' σ' H4) fun ys' σ' H2 h=>⟨_,by lia,rfl,hlt,h⟩
  · have e:i=n:=by lia
    subst e;exact .inl ⟨T.stop H (hk _ ys σ H hi p).1,hd ys σ H p⟩
open PySem PySem.Spec PyProof.Rows
theorem gC {n:Nat} (h:n≤1000000):n < sizeLine:=aa2 h (by decide)
open PySem PySem.Spec PyProof.Rows
section
variable {X:Cx}
end
open PySem PySem.Spec PyProof.Rows
section
variable {X:Cx} {a b c d e:Expr} {ta tb tc td te:TE} {pos:Pos}
end
end L2
namespace L2
open PySem PySem.Spec PyProof.Rows PySem.W
def cdO (c:Addr) (qual:Str):HO:=.ext fun h=>h.CodeRec (.ref c) qual
structure LTab (P:Addr) (qual:Str) (H:Hp) (ps:Array Value):Prop where
  tab:H P=some (.tbl ps)
  tri:TriplesOk ps.toList
  cds:∀ pos cv,codeAmong pos ps.toList=some cv→∃ c',cv=.ref c'∧H c'=some (cdO c' qual)
section
variable {X:Cx} {pins:List (Addr × Obj)} {σ:St} {H:Hp} {s:Shared}
end
section
variable {CX:CXT} {P:Program} {w:World} {K:aaa} {mg:Str→Option Value} {base:Heap} {k:Nat}
end
section
variable {X:Cx} {pins pl:List (Addr × Obj)} {σ:St} {H:Hp} {s:Shared}
end
section
variable {X:Cx}
end
end L2
namespace L2
open PySem PySem.Spec PyProof.Rows PySem.W
section
variable {X:Cx} {pins pl:List (Addr × Obj)} {σ:St} {H:Hp} {s:Shared}
end
section
variable {X:Cx}
end
end L2
namespace L2
open PySem PySem.Spec PyProof.Rows PySem.W
structure FunC (K:aaa) (x qual:Str) (st:Stmt) (f:Addr) (fd:FuncData) (c:Addr):Prop where
  ex:∃ (oc:Value) (od:Option Addr) (kV doc pm:Value) (an:Option Addr) (ct:Value) (osl:Array (Option Value)),
    fd=abw x qual (cF st) (cg st) (am st) .none kV doc pm an (.ref c) ct∧K.lookup f=some ⟨oc,od,.func fd,osl⟩∧ab1 K (.ref c) qual=true
  kp:abq K (.ref f)=true
section
variable {P:Program} {w:World} {K:aaa} {mg:Str→Option Value} {base:Heap}
end
open PySem PySem.Spec PyProof.Rows
open PySem PySem.Spec PyProof.Rows
theorem tU {J:It} {n:Nat} {Kp:Hp→Prop} {item:Nat→V→Hp→Hp→Prop} (T:Trn J n Kp item) {g2:TG} {tt2:TT} {te:TE} {ys:List V} {σ:St} {H:Hp} {Fin:List V→St→Hp→Prop} (Pv:Nat→List V→St→Hp→Prop) (h0:Pv 0 ys σ H) (hk:∀ i ys σ H,i≤n→Pv i ys σ H→Kp H∧ys.length < sizeLine)
    (hs:∀ i x ys σ H H',i < n→item i x H H'→Pv i ys σ H→∀ Nx:List V→St→Hp→Prop,(∀ ys' σ' H2,Pv (i+1) ys' σ' H2→Nx ys' σ' H2)→g2 x σ H' fun σ3 H5=>tt2 σ3 H5 fun b H6=>if b=true then te σ3 H6 fun v H7=>Nx (ys++[v]) σ3 H7 else Nx ys σ3 H6)
    (hd:∀ ys σ H,Pv n ys σ H→Fin ys σ H):oy g2 tt2 te ys σ Fin J H:=by
  refine ⟨fun i m ys σ H=>m=n - i∧i≤n∧Pv i ys σ H,⟨n,by simp,aaU _,h0⟩,?_⟩;rintro i m ys σ H ⟨rfl,hi,p⟩;by_cases hlt:i < n
  · refine .inr ⟨T.go i H hlt (hk i ys σ H hi p).1,(hk i ys σ H hi p).2,fun x H' y=>?_⟩;exact hs i x ys σ H H' hlt (T.yld i H x H' hlt (hk i ys σ H hi p).1 y) p (fun ys' σ' H4=>∃ m',m' < n - i∧m'=n - (i+1)∧i+1≤n∧Pv (i+1) ys' σ' H4) fun ys' σ' H2 h=>⟨_,by lia,rfl,hlt,h⟩
  · have e:i=n:=by lia
    subst e;exact .inl ⟨T.stop H (hk _ ys σ H hi p).1,hd ys σ H p⟩
open PySem PySem.Spec PyProof.Rows
open PySem PySem.Spec PyProof.Rows
section
variable {prog:Program} {w:World} {A:Around} {E:Value→Shared→Prop} {s:Shared}
end
def Ent (P:Program) (w:World) (d:Addr) (o:Obj) (u:HO) (n:Nat) (rw:Nat→V→V→Hp→Prop) (es:Array DictEntry) (ep:Nat):Prop :=
  o.data=.dict es ep∧es.size=n∧∀ H h,HOk P w H h→H d=some (.frz o u)→h.get? d=some o∧∀ i e,es[i]?=some e→∃ k y,RelV k e.key∧RelV y e.val∧rw i k y H
theorem dG {J:It} {n:Nat} {Kp:Hp→Prop} {item:Nat→V→Hp→Hp→Prop} (T:Trn J n Kp item) {g:TG} {tb:TS} {D:Ends} {σ:St} {H:Hp} (Pv:Nat→St→Hp→Prop) (h0:Pv 0 σ H) (hk:∀ i σ H,i≤n→Pv i σ H→Kp H)
    (hs:∀ i x σ H H',i < n→item i x H H'→Pv i σ H→g x σ H' fun σ2 H2=>tb { D with nx:=Pv (i+1),ct:=Pv (i+1),bk:=D.nx } σ2 H2) (hd:∀ σ H,Pv n σ H→D.nx σ H) :
    ∃ W:Nat→Nat→St→Hp→Prop,(∃ m,W 0 m σ H)∧∀ i m σ H,W i m σ H →
      (J.stop i H∧D.nx σ H)∨(J.go i H∧∃ N:St→Hp→Prop,(∀ σ' H',N σ' H'→∃ m',m' < m∧W (i+1) m' σ' H')∧∀ x H',J.yld i H x H'→g x σ H' fun σ2 H2=>tb { D with nx:=N,ct:=N,bk:=D.nx } σ2 H2):=by
  refine ⟨fun i m σ H=>m=n - i∧i≤n∧Pv i σ H,⟨n,by simp,aaU _,h0⟩,?_⟩;rintro i m σ H ⟨rfl,hi,p⟩;have q:=hk i σ H hi p;by_cases hlt:i < n
  · exact .inr ⟨T.go i H hlt q,Pv (i+1),fun σ' H' p'=>⟨n - (i+1),by lia,rfl,hlt,p'⟩,fun x H' y=>hs i x σ H H' hlt (T.yld i H x H' hlt q y) p⟩
  · have e:i=n:=by lia
    subst e;exact .inl ⟨T.stop H q,hd σ H p⟩
def sU (H:Hp) (d:Addr):Prop:=∀ o v,H d≠some (.frz o v)
def v5 (t:TE):TE:=fun σ H Q=>t σ H fun v H'=>∃ d o u,sU H d∧H' d=some (.frz o u)∧Q v (upd H' d u)
theorem tJ {X:Cx} {e:Expr} {t:TE} (he:PE X e t):PE X e (v5 t):=by
  intro pins s σ H Q I h;refine thn (he pins s σ _ _ I h) fun u s1 ⟨v,H1,I2,r,d,o,u',nf,e1,q⟩=>⟨v,upd H1 d u',?_,r,q⟩
  have hf:∀ o v,X.H₀ d≠some (.frz o v):=fun o v q=>nf _ _ (I.base.frzs d o v q);exact I2.retype e1 (fun _ z=>nomatch z) (fun _ z=>nomatch z) (fun _ z=>nomatch z) hf (show ObjOk X.prog X.w H1 s1.heap d (.frz o u') from I2.hok d _ e1).2
end L2
namespace PySem
open Sem (wp)
namespace F
end F
section
variable {prog:Program} {w:World} {A:Around} {E:Value→Shared→Prop} {h:Heap} {g:Array GenState} {d:Drawn} {t:Nat} {os:OsState} {a:Addr} {xs:Array Value} {k:Nat}
end
end PySem
namespace L2
open PySem PySem.Spec PyProof.Rows
section
variable {prog:Program} {w:World} {A:Around} {E:Value→Shared→Prop} {s:Shared}
end
open PySem PySem.Spec PyProof.Rows
section
variable {X:Cx}
end
structure FunD (K:aaa) (x qual:Str) (st:Stmt) (f:Addr) (fd:FuncData) (tD:Addr):Prop where
  ex:∃ (oc:Value) (od:Option Addr) (kV doc pm:Value) (an:Option Addr) (cdv ct:Value) (osl:Array (Option Value)),
    fd=abw x qual (cF st) (cg st) (am st) (.ref tD) kV doc pm an cdv ct∧K.lookup f=some ⟨oc,od,.func fd,osl⟩∧ab1 K cdv qual=true
  kp:abq K (.ref f)=true
section
variable {P:Program} {w:World} {K:aaa} {mg:Str→Option Value} {base:Heap}
end
open PySem PySem.Spec PyProof.Rows
def Itd (hi:Int) (n:Nat):It:=⟨fun i _=>i < n,fun i H x H'=>H'=H∧x=.int (hi - i),fun i _=>n≤i⟩
theorem Trn.down {hi:Int} {n:Nat}:Trn (Itd hi n) n (fun _=>True) (fun i x H H'=>H'=H∧x=.int (hi - i)) :=
  ⟨fun i H hi _=>hi,fun H _=>aah _,fun i H x H' hi _ y=>y⟩
theorem pW {P:Program} {w:World} {K:aaa} {tg:Expr} (it:Addr) (hi:Int) (n:Nat):Turn P w K tg (Itd hi n) [it] it (fun i h=>IsRangeIter h it (hi+(i:Nat) * (-1)) ((n:Int) - (i:Nat)) (-1)) where
  mem:=by simp
  obj:=fun i h st b hb=>by
    have e:b=it:=by simpa using hb
    subst e;exact ⟨_,st,fun v z=>by
      have z':Data.fields _=Data.cell v:=z;cases z'⟩
  keep:=fun i h h' st k=>k it (by simp) _ st
  item:=by
    intro X hP hw hK hc i pins s σ H E I hf st hg;subst hP hw hK;obtain ⟨f0,f1,f2,f3,f4,f5⟩:=hf it (by simp);have W:=Walks.range (prog:=X.prog) (w:=X.w) (I.ok.hd hc) it hi (-1) n;refine W.item i s _ _ hg st fun v h' tk hv st' kk=>?_;obtain ⟨t,rfl⟩:=hv;have I1:Inv X pins σ H { s with heap:=h',toks:=tk }:=I.turned (fun b o hb e=>kk b o (by simpa using hb) e) f0 f1 f3 f4 f5;refine ⟨_,rfl,jX (s:={ s with heap:=h',toks:=tk }) (n:="range_iterator") st' rfl rfl (by decide) ⟨.int (hi - i),H,I1,⟨t,?_⟩,⟨rfl,rfl⟩,st',fun b hb=>(hf b hb).1⟩⟩;congr 1;lia
  done:=by
    intro X hP hw hK hc i pins s σ H E I hf st hg;subst hP hw hK;obtain ⟨f0,f1,f2,f3,f4,f5⟩:=hf it (by simp);exact wpAny_pyNext_range_end (I.ok.hd hc) st (by have : n≤i:=hg;lia) fun h' eb=>⟨rfl,I.turned (t':=s.toks) (fun b o hb e=>eb b o hb e) f0 f1 f3 f4 f5⟩
  self:=fun _ _ _ _ _ st h=>wpAny_pyIter_rangeiter st h
theorem fh (a b:Int):abV a b (-1)=if a > b then a - b else 0:=by
  unfold abV;rw [if_neg (by decide)];split
  · rw [show -(-1:Int)=1 by decide,Int.ediv_one];lia
  · rfl
section
variable {X:Cx} {tg:Expr}
def wY (ta:TA):TI:=fun σ H R=>ta σ H fun vs H1=>∃ i j:Int,vs=[.int i,.int j,.int (-1)]∧(-1000≤i∧i≤1000∧-1000≤j∧j≤1000)∧R (Itd i (i - j).toNat) H1
theorem jQ {a b c:Expr} {ta:TA} {p pos:Pos} (hg:Gl X "range") (hm:X.mg "range" = none) (ha:PA X [a,b,c] ta) (hs:starEach [a,b,c] X.env=[(false,eval a X.env),(false,eval b X.env),(false,eval c X.env)]:=by rfl) (hs2:starEach [b,c] X.env=[(false,eval b X.env),(false,eval c X.env)]:=by rfl) :
    PI X tg (.Call (.Name "range" p) [a,b,c] [] pos) (wY ta):=by
  intro pins s σ H R I h;refine Call_ (fq I hg hm boot_range (abb (thn (ha pos pins s σ H _ I h) fun us s1 ⟨vs,H1,I1,r1,q1⟩=>?_) (by rw [hs,hs2]) (by rw [hs2];rfl)));obtain ⟨i,j,e,⟨q1,q2,q3,q4⟩,q⟩:=q1;subst e;cases r1 with
  | cons r rr =>
    cases rr with
    | cons r' rr =>
      cases rr with
      | cons r'' rr =>
        cases rr;obtain ⟨t,rfl⟩:=r;obtain ⟨t',rfl⟩:=r';obtain ⟨t'',rfl⟩:=r'';have hsm:Builtin.Range.small i j (-1)=true:=by
          unfold Builtin.Range.small Builtin.Range.rangeFitsLong;rw [fh];simp only [aaS,decide_eq_true_eq,Bool.or_eq_true,beq_iff_eq];refine ⟨⟨⟨⟨?_,?_⟩,?_⟩,?_⟩,?_⟩
          · lia
          · lia
          · decide
          · split <;> lia
          · right;rw [if_neg (by decide)];simp only [aaS,decide_eq_true_eq];lia
        refine call_range_3 (by decide) ?_ (Or.inl (PyProof.noPylong_small (by lia)));refine wpAny_pyIter_range (s:={ s1 with heap:=s1.heap.push { cls:=.type "range",data:=.fields #[.int i t,.int j t',.int (-1) t''] } }) (IsRange.new ..) hsm ?_;have I2:Inv X pins σ H1 { s1 with heap:=s1.heap.push { cls:=.type "range",data:=.fields #[.int i t,.int j t',.int (-1) t''] } }:=I1.kept (t':=s1.toks) fun b o e=>aaf _ e;refine ⟨(s1.heap.push { cls:=.type "range",data:=.fields #[.int i t,.int j t',.int (-1) t''] }).objs.size,[(s1.heap.push { cls:=.type "range",data:=.fields #[.int i t,.int j t',.int (-1) t''] }).objs.size],_,_,H1,rfl,
          I2.kept (t':=s1.toks) fun b o e=>aaf _ e,pW _ i (i - j).toNat,?_,fun b hb=>?_,q⟩
        · have e1:i+((0:Nat):Int) * (-1)=i:=by simp
          have e2:(((i - j).toNat:Nat):Int) - ((0:Nat):Int)=abV i j (-1):=by rw [fh];split <;> lia
          show IsRangeIter _ _ (i+((0:Nat):Int) * (-1)) ((((i - j).toNat:Nat):Int) - ((0:Nat):Int)) (-1);rw [e1,e2];exact aau _ rfl
        · have e:b=(s1.heap.push { cls:=.type "range",data:=.fields #[.int i t,.int j t',.int (-1) t''] }).objs.size:=by simpa using hb
          subst e;exact I2.fpOk (aah _) (I2.hok.fresh (aah _))
end
open PySem PySem.Spec PyProof.Rows
theorem vz {J:It} {n:Nat} {Kp:Hp→Prop} {item:Nat→V→Hp→Hp→Prop} (T:Trn J n Kp item) {cap:List (Option Nat)} {g:TG} {tt:TT} {r2:TI × TG × TT} {rs:List (TI × TG × TT)} {te:TE} {σ:St} {H:Hp} {Q:VK} (Pv:Nat→List V→Hp→Prop) (h0:Pv 0 [] H) (hk:∀ i ys H,i≤n→Pv i ys H→Kp H)
    (hs:∀ i x ys H H',i < n→item i x H H'→Pv i ys H→∀ Nx:List V→Hp→Prop,(∀ ys' H2,Pv (i+1) ys' H2→Nx ys' H2)→g x (bV cap σ) H' fun σ2 H2=>tt σ2 H2 fun b H3=>if b=true then r2.1 σ2 H3 (LcT rs r2.2.1 r2.2.2 te ys σ2 fun ys _ H=>Nx ys H) else Nx ys H3)
    (hd:∀ ys H,Pv n ys H→∀ p,H p=none→Q (.ref p) (upd H p (.lst ys))):pT cap g tt r2 rs te σ Q J H:=by
  refine ⟨fun i m ys H=>m=n - i∧i≤n∧Pv i ys H,⟨n,by simp,aaU _,h0⟩,?_⟩;rintro i m ys H ⟨rfl,hi,p⟩;by_cases hlt:i < n
  · refine .inr ⟨T.go i H hlt (hk i ys H hi p),fun x H' y=>?_⟩;exact hs i x ys H H' hlt (T.yld i H x H' hlt (hk i ys H hi p) y) p (fun ys' H4=>∃ m',m' < n - i∧m'=n - (i+1)∧i+1≤n∧Pv (i+1) ys' H4) fun ys' H2 h=>⟨_,by lia,rfl,hlt,h⟩
  · have e:i=n:=by lia
    subst e;exact .inl ⟨T.stop H (hk _ ys H hi p),hd ys H p⟩
theorem oW {J:It} {n:Nat} {Kp:Hp→Prop} {item:Nat→V→Hp→Hp→Prop} (T:Trn J n Kp item) {g2:TG} {tt2:TT} {r:TI × TG × TT} {rs:List (TI × TG × TT)} {te:TE} {ys:List V} {σ:St} {H:Hp} {Fin:List V→St→Hp→Prop} (Pv:Nat→List V→St→Hp→Prop) (h0:Pv 0 ys σ H) (hk:∀ i ys σ H,i≤n→Pv i ys σ H→Kp H)
    (hs:∀ i x ys σ H H',i < n→item i x H H'→Pv i ys σ H→∀ Nx:List V→St→Hp→Prop,(∀ ys' σ' H2,Pv (i+1) ys' σ' H2→Nx ys' σ' H2)→g2 x σ H' fun σ3 H5=>tt2 σ3 H5 fun b H6=>if b=true then r.1 σ3 H6 (LcT rs r.2.1 r.2.2 te ys σ3 Nx) else Nx ys σ3 H6)
    (hd:∀ ys σ H,Pv n ys σ H→Fin ys σ H):LcT (r :: rs) g2 tt2 te ys σ Fin J H:=by
  refine ⟨fun i m ys σ H=>m=n - i∧i≤n∧Pv i ys σ H,⟨n,by simp,aaU _,h0⟩,?_⟩;rintro i m ys σ H ⟨rfl,hi,p⟩;by_cases hlt:i < n
  · refine .inr ⟨T.go i H hlt (hk i ys σ H hi p),fun x H' y=>?_⟩;exact hs i x ys σ H H' hlt (T.yld i H x H' hlt (hk i ys σ H hi p) y) p (fun ys' σ' H4=>∃ m',m' < n - i∧m'=n - (i+1)∧i+1≤n∧Pv (i+1) ys' σ' H4) fun ys' σ' H2 h=>⟨_,by lia,rfl,hlt,h⟩
  · have e:i=n:=by lia
    subst e;exact .inl ⟨T.stop H (hk _ ys σ H hi p),hd ys σ H p⟩
end L2
namespace L2
open PySem PySem.Spec PyProof.Rows PySem.W
section
variable {prog:Program} {w:World} {A:Around} {E:Value→Shared→Prop} {s:Shared}
theorem nR (d:Addr) (hd:(d == sysModules)=false) :
    MeetsIn prog w (Builtin.«dict.__len__» ⟨[.ref d],[]⟩) (fun _ R s=>∃ o es ep,s.heap.get? d=some o∧o.data=.dict es ep∧R (.ok (.ret (.int (es.size:Nat) s.toks))) { s with toks:=s.toks+1 }) :=
  .of_wp fun A R s ⟨o,es,ep,ho,hdat,h⟩=>by
    show wpAny _ _ (dictSize d >>= _) _ _ s;unfold dictSize;refine wpAny_bind (wpAny_bind (wpAny_dictEntries ho hdat (wpAny_pure ?_)));show wpAny _ _ (Builtin.Dict.pendingCount d >>= _) _ _ s;refine wpAny_bind (wpAny_pendingCount_other hd ?_);refine wpAny_ret_mkInt ?_;rw [Nat.add_zero];exact h
theorem lj {d:Addr} {o:Obj} {es:Array DictEntry} {ep:Nat} {Q:Value→Shared→Prop} (hd:(d == sysModules)=false) (ho:s.heap.get? d=some o) (hc:o.ExactDict) (hdat:o.data=.dict es ep) (hfit:(es.size:Int) < 2 ^ 63)
    (h:Q (.int (es.size:Nat) (s.toks+1)) { s with toks:=s.toks+1+1 }):wpAny (model prog w) A (call (.builtin "len") [.ref d]) Q E s:=by
  have hT:s.TypeIs (.ref d) "dict":=⟨o,ho,hc.1⟩
  refine Calls.call_function_entry kind_len plain_len entry_len (args_len1 _) ?_;unfold Builtin.«len»;refine wpAny_bind (m:=oneArg "len" _) (wpAny_pure ?_);refine wpAny_bind (m:=callSpecial? (.ref d) (abi "__len__")) (wpAny_callSpecial?_slot (name:=abi "__len__") hT F.slot_dict_len
    (call_meetsIn F.slot_dict_len hT F.entry_dict_len (F.args_dict_len_1 _) (nR d hd) ⟨o,es,ep,ho,hdat,?_⟩))
  show wpAny _ _ _ _ _ { s with toks:=s.toks+1 };refine wpAny_bind (wpAny_holding (wpAny_pure ?_));refine wpAny_bind (wpAny_letGo ?_);show wpAny _ _ (if ((es.size:Nat):Int) < 0 then _ else _) _ _ _;rw [if_neg (by lia)];show wpAny _ _ (if ((es.size:Nat):Int) ≥ 2 ^ 63 then _ else _) _ _ _;rw [if_neg (by lia)];exact wpAny_bind (wpAny_mkInt (wpAny_pure ⟨_,rfl,h⟩))
end
open PySem PySem.Spec PyProof.Rows
def wQ (e l:Nat→Bool) (n m:Nat):Nat→Nat→Bool
  | _,0=>decide (n < m)
  | j,k+1=>if e j=true then wQ e l n m (j+1) k else l j
section
open PySem.SeqAt
open PySem.AutoSeq1 (wpAny_loadPart')
open PySem.MeetsSeq PySem.MeetsSeq2 PySem.MeetsSeq3
end
inductive LtR (K:aaa) (H:Hp):Nat→V→V→Bool→Prop
  | int {n:Nat} {a b:Int}:LtR K H n (.int a) (.int b) (decide (a < b))
  | tup {n:Nat} {a b:Addr} {xs ys:List V} {e l:Nat→Bool} (ha:SqT K H a xs) (hb:SqT K H b ys) (h:∀ (j:Nat) x y,xs[j]?=some x→ys[j]?=some y→EqR K H n x y (e j)) (hl:∀ (j:Nat) x y,xs[j]?=some x→ys[j]?=some y→e j=false→LtR K H n x y (l j)) :
      LtR K H (n+1) (.ref a) (.ref b) (wQ e l xs.length ys.length 0 (min xs.length ys.length))
section
variable {X:Cx} {pins:List (Addr × Obj)} {σ:St} {H:Hp} {s:Shared}
end
section
variable {X:Cx}
end
open PySem PySem.Spec PyProof.Rows
def Fq (K:aaa) (x:Str) (s:Stmt) (f:Addr):Prop:=aaK K mainGlobals x=some (some (.ref f))∧∃ fd,Fun K x x s f fd
theorem Fq.mk4 {K:aaa} {x:Str} {st:Stmt} {f:Addr} {oc:Value} {od an:Option Addr} {osl:Array (Option Value)} {kV doc pm cdv ct:Value} (a:aaK K mainGlobals x=some (some (.ref f))) (l:K.lookup f=some ⟨oc,od,.func (abw x x (cF st) (cg st) (am st) .none kV doc pm an cdv ct),osl⟩)
    (c:ab1 K cdv x=true) (k:abq K (.ref f)=true):Fq K x st f:=⟨a,_,sw l c k⟩
theorem Fq.use {K:aaa} {x:Str} {st:Stmt} {f:Addr} {h:Heap} {mg:Str→Option Value} (q:Fq K x st f) (X:K.In h) (G:h.Ns mainGlobals mg) {ps:List Str}
    (hb:∀ (kV doc pm:Value) (an:Option Addr) (cdv ct:Value) (us:List Value),us.length=ps.length→bindArgs (abw x x (cF st) (cg st) (am st) .none kV doc pm an cdv ct) ⟨us,[]⟩=pure (ps.zip us)):∃ fd,Fun K x x st f fd∧Binds K fd ps []∧mg x=some (.ref f):=by
  obtain ⟨a,fd,F⟩:=q;exact ⟨fd,F,F.binds hb,acz X G a⟩
end L2
namespace L2
open PySem PySem.Spec PyProof.Rows PySem.SeqAt
inductive MK where
  | non|int (i:Int)|str (x:Str)|tup (ks:List Int)
  deriving DecidableEq
def bI (b:Bool):Int:=if b then 1 else 0
def jr (k:Int):Value→Bool
  | .int i _=>i == k
  | .bool b=>bI b == k
  | _=>false
theorem bD {k:Int} {v:Value} (h:jr k v=true):(∃ t,v=.int k t)∨∃ b,v=.bool b∧bI b=k:=by
  cases v with
  | int i t=>exact .inl ⟨t,by rw [beq_iff_eq.mp h]⟩
  | bool b=>exact .inr ⟨b,rfl,beq_iff_eq.mp h⟩
  | _=>exact nomatch h
section
variable {A:Around} {E:Value→Shared→Prop} {s:Shared} {prog:Program} {w:World}
theorem lU {b:Bool} {Q:Int→Shared→Prop} (h:Q (hashInt (bI b)) { s with toks:=s.toks+1 }):wpAny (model prog w) A (pyHash (.bool b)) Q E s:=by
  refine PySem.W.pyHash_slot (T:="bool") rfl PySem.F.slot_bool_hash entry_int_hash (args_int_hash _) (beq_builtin_none _) (.inl rfl) ?_;cases b
  · exact (show wpAny _ _ (do ret (← mkInt 0)) _ _ s from wpAny_bind (wpAny_mkInt (wpAny_pure ⟨_,_,rfl,h⟩)))
  · exact (show wpAny _ _ (do ret (← mkInt 1)) _ _ s from wpAny_bind (wpAny_mkInt (wpAny_pure ⟨_,_,rfl,h⟩)))
theorem nu {Q:Int→Shared→Prop} (h:Q (reduceHash 0xFCA86420) { s with toks:=s.toks+1 }):wpAny (model prog w) A (pyHash .none) Q E s :=
  PySem.W.pyHash_slot (T:="NoneType") rfl PySem.F.slot_NoneType_hash PySem.F.entry_NoneType_hash (PySem.F.args_NoneType_hash_1 _) (beq_builtin_none _) (.inl rfl) (wpAny_bind (wpAny_pure (wpAny_bind (wpAny_mkInt (wpAny_pure ⟨_,_,rfl,h⟩)))))
theorem yg {a b:Int} {u v:Value} {Q:Bool→Shared→Prop} (hu:jr a u=true) (hv:jr b v=true) (h:Q (decide (a=b)) s):wpAny (model prog w) A (PySem.eqBool u v) Q E s:=by
  have e:∀ x y:Int,(x == y)=decide (x=y):=fun x y=>rfl;rcases bD hu with ⟨t,rfl⟩|⟨x,rfl,rfl⟩
  · rcases bD hv with ⟨t',rfl⟩|⟨y,rfl,rfl⟩
    · exact EqAt.int_int a t b t' prog w E Q (by rw [e];exact h)
    · exact EqAt.int_bool a t y prog w E Q (by rw [e];exact h)
  · rcases bD hv with ⟨t',rfl⟩|⟨y,rfl,rfl⟩
    · exact EqAt.bool_int x b t' prog w E Q (by rw [e];exact h)
    · refine EqAt.bool_bool x y prog w E Q ?_;have : (x == y)=decide (bI x=bI y):=by cases x <;> cases y <;> rfl
      rw [this];exact h
def ln (prog:Program) (w:World):PySem.KeyKind prog w Int where
  is:=jr
  hash:=hashInt
  inj:=fun v a b ha hb=>by
    rcases bD ha with ⟨t,rfl⟩|⟨x,rfl,rfl⟩
    · exact beq_iff_eq.mp hb
    · exact beq_iff_eq.mp hb
  byValue:=fun k v h=>by rcases bD h with ⟨t,rfl⟩|⟨x,rfl,rfl⟩ <;> rfl
  pyHash:=fun hv h=>by
    rcases bD hv with ⟨t,rfl⟩|⟨x,rfl,rfl⟩
    · exact wpAny_pyHash_int h
    · exact lU h
  eqBool:=fun hu hv h=>yg hu hv h
  «strs»:=fun k x t v h=>by simp [jr] at h
def isM (prog:Program) (w:World) (h:Heap):MK→Value→Prop
  | .non,v=>v=.none
  | .int i,v=>∃ t,v=.int i t
  | .str x,v=>∃ t,v=.str x t
  | .tup ks,v=>∃ a,v=.ref a∧IsTupleKey (ln prog w) h ks a
def hM (w:World):MK→Int
  | .non=>reduceHash 0xFCA86420
  | .int i=>hashInt i
  | .str x=>hashStr w x
  | .tup ks=>reduceHash (abL (ks.map hashInt))
def dM:MK→Nat
  | .tup ks=>ks.length+1
  | _=>1
theorem isM.inj {h:Heap} {x y:MK} {v:Value} (hx:isM prog w h x v) (hy:isM prog w h y v):x=y:=by
  cases x with
  | non =>
    cases (show v=.none from hx);cases y with
    | non=>rfl
    | int i=>obtain ⟨t,e⟩:=hy;cases e
    | str i=>obtain ⟨t,e⟩:=hy;cases e
    | tup ks=>obtain ⟨a,e,_⟩:=hy;cases e
  | int i =>
    obtain ⟨t,rfl⟩:=hx;cases y with
    | non=>cases (show Value.int i t=.none from hy)
    | int i=>obtain ⟨t,e⟩:=hy;cases e;rfl
    | str i=>obtain ⟨t,e⟩:=hy;cases e
    | tup ks=>obtain ⟨a,e,_⟩:=hy;cases e
  | str i =>
    obtain ⟨t,rfl⟩:=hx;cases y with
    | non=>cases (show Value.str i t=.none from hy)
    | int i=>obtain ⟨t,e⟩:=hy;cases e
    | str i=>obtain ⟨t,e⟩:=hy;cases e;rfl
    | tup ks=>obtain ⟨a,e,_⟩:=hy;cases e
  | tup ks =>
    obtain ⟨a,rfl,ha⟩:=hx;cases y with
    | non=>cases (show Value.ref a=.none from hy)
    | int i=>obtain ⟨t,e⟩:=hy;cases e
    | str i=>obtain ⟨t,e⟩:=hy;cases e
    | tup ks=>obtain ⟨b,e,hb⟩:=hy;cases e;rw [ha.inj hb]
theorem isM.keeps {h h':Heap} {k:MK} {v:Value} {d:Addr} {o:Obj} {es ep} (x:isM prog w h k v) (ho:h.get? d=some o) (hd:o.data=.dict es ep) (hs:abg d h h'):isM prog w h' k v:=by
  cases k with
  | tup ks=>obtain ⟨a,e,ha⟩:=x;exact ⟨a,e,ha.keeps ho hd hs⟩
  | _=>exact x
theorem isM.kept {h h':Heap} {k:MK} {v:Value} (x:isM prog w h k v) (hk:∀ b o,h.get? b=some o→h'.get? b=some o):isM prog w h' k v:=by
  cases k with
  | tup ks=>obtain ⟨a,e,o,items,n,g,r⟩:=x;exact ⟨a,e,o,items,n,hk _ _ g,r⟩
  | _=>exact x
theorem iU {k:MK} {v:Value} {Q:Int→Shared→Prop} (hu:A.units < cLine) (hk:isM prog w s.heap k v) (h:Q (hM w k) { s with toks:=s.toks+dM k }):wpAny (model prog w) A (pyHash v) Q E s:=by
  cases k with
  | non=>cases (show v=.none from hk);exact nu h
  | int i=>obtain ⟨t,rfl⟩:=hk;exact wpAny_pyHash_int h
  | str i=>obtain ⟨t,rfl⟩:=hk;exact wpAny_pyHash_str h
  | tup ks=>obtain ⟨a,rfl,ha⟩:=hk;exact wpAny_pyHash_tuple hu ha h
theorem cZ {h:Heap} {ks:List Int} {a:Addr} (x:IsTupleKey (ln prog w) h ks a):∃ its,h.IsTuple a its:=by
  obtain ⟨o,items,n,ho,hc,hd,hi⟩:=x;exact ⟨items,o,ho,hc,n,hd⟩
theorem jl {x y:MK} {u v:Value} {Q:Bool→Shared→Prop} (hu:A.units < cLine) (hx:isM prog w s.heap x u) (hy:isM prog w s.heap y v) (h:Q (decide (x=y)) s):wpAny (model prog w) A (PySem.eqBool u v) Q E s:=by
  have no:∀ {x y:MK},¬ x=y→decide (x=y)=false:=fun z=>decide_eq_false z;cases x with
  | non =>
    cases (show u=.none from hx);cases y with
    | non=>cases (show v=.none from hy);exact EqAt.same .none prog w E Q (by simpa using h)
    | int i=>obtain ⟨t,rfl⟩:=hy;rw [no (fun z=>by cases z)] at h;exact EqAt.none_int _ _ prog w E Q h
    | str i=>obtain ⟨t,rfl⟩:=hy;rw [no (fun z=>by cases z)] at h;exact EqAt.none_str _ _ prog w E Q h
    | tup ks=>obtain ⟨a,rfl,ha⟩:=hy;rw [no (fun z=>by cases z)] at h;obtain ⟨_,ht⟩:=cZ ha;exact EqAt.none_tuple ht hu prog w E Q h
  | int i =>
    obtain ⟨t,rfl⟩:=hx;cases y with
    | non=>cases (show v=.none from hy);rw [no (fun z=>by cases z)] at h;exact EqAt.int_none _ _ prog w E Q h
    | int j =>
      obtain ⟨t',rfl⟩:=hy;refine EqAt.int_int _ _ _ _ prog w E Q ?_;have : (i == j)=decide (MK.int i=MK.int j):=by
        rw [show (i == j)=decide (i=j) from rfl];by_cases c:i=j
        · subst c;simp
        · rw [decide_eq_false c,no fun z=>c (by cases z;rfl)]
      rw [this];exact h
    | str i=>obtain ⟨t,rfl⟩:=hy;rw [no (fun z=>by cases z)] at h;exact EqAt.int_str _ _ _ _ prog w E Q h
    | tup ks=>obtain ⟨a,rfl,ha⟩:=hy;rw [no (fun z=>by cases z)] at h;obtain ⟨_,ht⟩:=cZ ha;exact EqAt.int_tuple _ _ ht hu prog w E Q h
  | str i =>
    obtain ⟨t,rfl⟩:=hx;cases y with
    | non=>cases (show v=.none from hy);rw [no (fun z=>by cases z)] at h;exact EqAt.str_none _ _ prog w E Q h
    | int j=>obtain ⟨t',rfl⟩:=hy;rw [no (fun z=>by cases z)] at h;exact EqAt.str_int _ _ _ _ prog w E Q h
    | str j =>
      obtain ⟨t',rfl⟩:=hy;refine wpAny_eqBool_str ?_;have : decide (i=j)=decide (MK.str i=MK.str j):=by
        by_cases c:i=j
        · subst c;simp
        · rw [decide_eq_false c,no fun z=>c (by cases z;rfl)]
      rw [this];exact h
    | tup ks=>obtain ⟨a,rfl,ha⟩:=hy;rw [no (fun z=>by cases z)] at h;obtain ⟨_,ht⟩:=cZ ha;exact EqAt.str_tuple _ _ ht hu prog w E Q h
  | tup ks =>
    obtain ⟨a,rfl,ha⟩:=hx;cases y with
    | non=>cases (show v=.none from hy);rw [no (fun z=>by cases z)] at h;obtain ⟨_,ht⟩:=cZ ha;exact EqAt.tuple_none ht hu prog w E Q h
    | int j=>obtain ⟨t',rfl⟩:=hy;rw [no (fun z=>by cases z)] at h;obtain ⟨_,ht⟩:=cZ ha;exact EqAt.tuple_int _ _ ht hu prog w E Q h
    | str j=>obtain ⟨t',rfl⟩:=hy;rw [no (fun z=>by cases z)] at h;obtain ⟨_,ht⟩:=cZ ha;exact EqAt.tuple_str _ _ ht hu prog w E Q h
    | tup ms =>
      obtain ⟨b,rfl,hb⟩:=hy;refine wpAny_eqBool_tuple hu ha hb ?_;have : decide (ks=ms)=decide (MK.tup ks=MK.tup ms):=by
        by_cases c:ks=ms
        · subst c;simp
        · rw [decide_eq_false c,no fun z=>c (by cases z;rfl)]
      rw [this];exact h
theorem oN {k:MK} {v:Value} {Q:Bool→Shared→Prop} (hk:isM prog w s.heap k v) (h:Q true s):wpAny (model prog w) A (eqIsQuiet 8 v) Q E s:=by
  cases k with
  | non=>cases (show v=.none from hk);rw [eqIsQuiet_byValue 8 rfl];exact wpAny_pure h
  | int i=>obtain ⟨t,rfl⟩:=hk;rw [eqIsQuiet_byValue 8 rfl];exact wpAny_pure h
  | str i=>obtain ⟨t,rfl⟩:=hk;rw [eqIsQuiet_byValue 8 rfl];exact wpAny_pure h
  | tup ks=>obtain ⟨a,rfl,ha⟩:=hk;exact wpAny_eqIsQuiet_tuple ha h
abbrev EM:=MK × Value × Value
def cR (w:World) (x:EM):DictEntry:=⟨hM w x.1,x.2.1,x.2.2⟩
def DictM (prog:Program) (w:World) (h:Heap) (d:Addr) (xs:List EM):Prop :=
  ∃ o es ep,h.get? d=some o∧o.ExactDict∧o.data=.dict es ep∧es.toList=xs.map (cR w)∧(∀ x∈xs,isM prog w h x.1 x.2.1)∧(xs.map (·.1)).Nodup
theorem DictM.typeIs {s:Shared} {d:Addr} {xs:List EM} (hm:DictM prog w s.heap d xs):s.TypeIs (.ref d) "dict":=let ⟨o,_,_,ho,hc,_⟩:=hm;⟨o,ho,hc.1⟩
theorem f_ {es:Array DictEntry} {xs:List EM} (he:es.toList=xs.map (cR w)) (j:Nat):es[j]?=(xs[j]?).map (cR w):=by
  rw [← abE,he,aao]
theorem cf {es:Array DictEntry} {xs:List EM} (he:es.toList=xs.map (cR w)):es.size=xs.length:=by
  rw [← aa8,he,aab]
theorem ixM {xs:List EM} (hn:(xs.map (·.1)).Nodup) {i j:Nat} {k:MK} {p q:Value × Value} (hi:xs[i]?=some (k,p)) (hj:xs[j]?=some (k,q)):i=j:=by
  have hi':(xs.map (·.1))[i]?=some k:=by rw [aao,hi];rfl
  have hj':(xs.map (·.1))[j]?=some k:=by rw [aao,hj];rfl
  exact (List.getElem?_inj (aaT.mp hi').1 hn).mp (hi'.trans hj'.symm)
theorem v3 {k:MK} {key:Value} {stored:List Value} {Q:Bool→Shared→Prop} (hkey:isM prog w s.heap k key)
    (hst:∀ v∈stored,∃ k',isM prog w s.heap k' v) (h:Q false s):wpAny (model prog w) A (tableMayTell key stored) Q E s:=by
  unfold tableMayTell;split
  · exact wpAny_pure h
  · refine wpAny_bind (oN hkey ?_);simp only [Bool.not_true,aaL,if_false];refine wpAny_bind ?_;refine wpAny_forIn_list _ (fun rest r s'=>s'=s∧r=(none,())∧∀ v∈rest,∃ k',isM prog w s.heap k' v) _ ?_ ?_ _ _ ⟨rfl,rfl,hst⟩
    · rintro x rest r s' ⟨rfl,rfl,hr⟩;obtain ⟨k',hb⟩:=hr x aat;refine wpAny_bind (oN hb ?_);simp only [Bool.not_true,aaL,if_false];exact wpAny_pure ⟨rfl,rfl,fun v hv=>hr v (aak _ hv)⟩
    · rintro r s' ⟨rfl,rfl,_⟩;exact wpAny_pure h
theorem nZ {d:Addr} {key:Value} {o:Obj} {es ep} {xs:List EM} {k:MK} {Q:Option Nat→Shared→Prop} (hu:A.units < cLine) (hkey:isM prog w s.heap k key)
    (ho:s.heap.get? d=some o) (hd:o.data=.dict es ep) (he:es.toList=xs.map (cR w)) (his:∀ x∈xs,isM prog w s.heap x.1 x.2.1) (hn:(xs.map (·.1)).Nodup)
    (hnone:(∀ (j:Nat) (p:Value × Value),xs[j]?≠some (k,p))→Q none s) (hsome:∀ (j:Nat) (p:Value × Value),xs[j]?=some (k,p)→Q (some j) s) :
    wpAny (model prog w) A (dictFind d key (hM w k)) Q E s:=by
  have hsz:es.size=xs.length:=cf he;have haskey:∀ (j:Nat) (p:Value × Value),xs[j]?=some (k,p)→((es[j]?.map (·.hash)) == some (hM w k))=true:=by
    intro j p hj;rw [f_ he j,hj];simp [cR]
  have hmem:∀ e∈es,∃ x∈xs,e=cR w x:=by
    intro e hin;have : e∈xs.map (cR w):=he ▸ Array.mem_toList_iff.mpr hin;obtain ⟨x,hx,rfl⟩:=aan.mp this;exact ⟨x,hx,rfl⟩
  have hst:∀ v∈(placesWithHash es.size (fun i=>es[i]?.map (·.hash)) (hM w k)).filterMap (fun i=>es[i]?.map (·.key)),∃ k',isM prog w s.heap k' v:=by
    intro v hv;obtain ⟨i,_,hi⟩:=List.mem_filterMap.mp hv;cases hei:es[i]? with
    | none=>rw [hei] at hi;cases hi
    | some e =>
      rw [hei] at hi;obtain rfl:e.key=v:=by simpa using hi
      obtain ⟨x,hx,rfl⟩:=hmem e (Array.mem_of_getElem? hei);exact ⟨x.1,his x hx⟩
  have plain:wpAny (model prog w) A (dictWalkPlain d key (hM w k) es (placesWithHash es.size (fun i=>es[i]?.map (·.hash)) (hM w k))) Q E s:=by
    unfold dictWalkPlain;refine wpAny_bind ?_;refine wpAny_forIn_list _
      (fun rest b s'=>s'=s∧b=(none,())∧∃ i,rest=(List.range' i (es.size - i)).filter (fun i=>(es[i]?.map (·.hash)) == some (hM w k))∧i≤es.size∧∀ j p,j < i→xs[j]?≠some (k,p)) _ ?_ ?_ _ _
      ⟨rfl,rfl,0,by rw [placesWithHash,List.range_eq_range',Nat.sub_zero],aaU _,fun _ _ h=>absurd h (Nat.not_lt_zero _)⟩
    · rintro x rest b s' ⟨rfl,rfl,i,hr,hi,hno⟩;obtain ⟨hix,hxn,hpx,hskip,hrest⟩:=filter_range'_cons _ _ _ _ _ hr.symm;have hlt:x < es.size:=by lia
      obtain ⟨⟨k',b,v'⟩,hkv⟩:∃ y,xs[x]?=some y:=⟨xs[x]'(by rw [← hsz];exact hlt),aac _⟩
      have hib:isM prog w s'.heap k' b:=his _ (aas hkv);have hex:es[x]?=some ⟨hM w k',b,v'⟩:=by rw [f_ he x,hkv];rfl
      have hnext:¬ k'=k→∃ i,rest=(List.range' i (es.size - i)).filter (fun i=>(es[i]?.map (·.hash)) == some (hM w k))∧i≤es.size∧∀ j p,j < i→xs[j]?≠some (k,p):=fun hne =>
        ⟨x+1,by rw [hrest];congr 2;lia,hlt,fun j p hji hj=>by
          rcases ab9 j i with h|h
          · exact hno j p h hj
          · rcases ab9 j x with h'|h'
            · have:=hskip j h h';rw [haskey j p hj] at this;exact absurd this (by decide)
            · have : j=x:=by lia
              subst this;rw [hkv] at hj;injection hj with hj;injection hj with hj;exact hne hj⟩
      rw [hex];dsimp only;by_cases hh:(hM w k' == hM w k)=true
      · rw [if_pos hh];refine wpAny_bind (wpAny_dictEpoch ho hd (wpAny_bind (jl (x:=k') (y:=k) hu hib hkey (wpAny_bind (wpAny_dictEpoch ho hd ?_)))));show wpAny _ _ (if (ep != ep)=true then _ else _) _ E _;rw [if_neg (by simp)];by_cases hkk:k'=k
        · rw [decide_eq_true hkk];subst hkk;exact wpAny_bind (wpAny_rule (wpAny_pure (wpAny_pure (hsome x _ hkv))))
        · rw [decide_eq_false hkk];exact wpAny_bind (wpAny_rule (wpAny_pure ⟨rfl,rfl,hnext hkk⟩))
      · rw [if_neg hh];refine wpAny_pure ⟨rfl,rfl,hnext ?_⟩;intro hkk;rw [hkk] at hh;simp at hh
    · rintro b s' ⟨rfl,rfl,i,hr,hi,hno⟩;refine wpAny_pure (hnone fun j p hj=>?_);rcases ab9 j i with h|h
      · exact hno j p h hj
      · have hjl:j < es.size:=by
          rw [hsz];rcases ab9 j xs.length with h'|h'
          · exact h'
          · rw [abF h'] at hj;exact nomatch hj
        have:=List.filter_eq_nil_iff.mp hr.symm j (List.mem_range'_1.mpr ⟨h,by lia⟩);exact this (haskey j p hj)
  have strp:∀ (y:Str) (t:Tok),key=.str y t→(es.all fun e=>isExactStrKey e.key)=true→wpAny (model prog w) A (foundByValue d key es y) Q E s:=by
    intro y t hy hall;have hk:k=.str y:=by
      subst hy;cases k with
      | non=>cases (show Value.str y t=.none from hkey)
      | int i=>obtain ⟨t,e⟩:=hkey;cases e
      | str i=>obtain ⟨t,e⟩:=hkey;cases e;rfl
      | tup ks=>obtain ⟨a,e,_⟩:=hkey;cases e
    subst hk;have hiff:∀ (j:Nat) (k':MK) (b v':Value),xs[j]?=some (k',b,v')→(b.isStr y=true↔k'=.str y):=by
      intro j k' b v' hj;have hb:=his _ (aas hj);constructor
      · intro hs;have hbs:∃ t,b=.str y t:=by
          cases b <;> simp_all [Value.isStr]
        obtain ⟨t',rfl⟩:=hbs;exact (isM.inj (x:=.str y) (y:=k') ⟨t',rfl⟩ hb).symm
      · intro hk;subst hk;obtain ⟨t',e⟩:=hb;rw [show b=Value.str y t' from e];simp [Value.isStr]
    unfold foundByValue;cases hf:es.findIdx? (fun e=>e.key.isStr y) with
    | none =>
      refine wpAny_pure (hnone fun j p hj=>?_);have he1:=f_ he j;rw [hj] at he1;have hm:=Array.mem_of_getElem? he1;have:=Array.findIdx?_eq_none_iff.mp hf _ hm;have h2:=(hiff j _ _ _ hj).mpr rfl;rw [show (cR w (.str y,p)).key=p.1 from rfl,h2] at this;cases this
    | some i =>
      obtain ⟨hlt,hi,_⟩:=Array.findIdx?_eq_some_iff_getElem.mp hf;obtain ⟨⟨k',b,v'⟩,hkv⟩:∃ z,xs[i]?=some z:=⟨xs[i]'(by rw [← hsz];exact hlt),aac _⟩
      have hex:es[i]?=some ⟨hM w k',b,v'⟩:=by rw [f_ he i,hkv];rfl
      have hgi:es[i]=⟨hM w k',b,v'⟩:=by rw [ach hlt] at hex;exact aal hex
      rw [hgi] at hi;have hk':=(hiff i _ _ _ hkv).mp hi;subst hk';dsimp only;rw [hex];dsimp only;refine wpAny_bind (wpAny_dictEpoch ho hd (wpAny_bind (jl (x:=.str y) (y:=.str y) hu (his _ (aas hkv)) hkey (wpAny_bind (wpAny_dictEpoch ho hd ?_)))));show wpAny _ _ (if (ep != ep)=true then _ else _) _ E _;rw [if_neg (by simp),decide_eq_true rfl];exact wpAny_bind (wpAny_rule (wpAny_pure (hsome i _ hkv)))
  have hany:∀ a,key=.ref a→¬ (es.any fun e=>e.key == Value.ref a && e.hash != hM w k)=true:=by
    intro a ha;rw [← Array.any_toList,List.any_eq_true];rintro ⟨e,hin,hc⟩;obtain ⟨x,hx,rfl⟩:=hmem e (Array.mem_toList_iff.mp hin);simp only [cR,aaS,beq_iff_eq,bne_iff_ne,ne_eq] at hc;obtain ⟨hxa,hne⟩:=hc;have:=his x hx;rw [hxa,← ha] at this;exact hne (by rw [isM.inj this hkey])
  unfold dictFind
  try with_reducible refine wpAny_holding ?_
  refine wpAny_bind (wpAny_dictEntries ho hd ?_);refine (fun (tl:∀ q,isM prog w s.heap k q→(?T:Value→Prop) q)=>?mn) ?tt
  case mn =>
    dsimp only;split
    · next y t =>
      by_cases ha:(es.all fun e=>isExactStrKey e.key)=true
      · rw [if_pos ha];exact strp y t rfl ha
      · rw [if_neg ha];dsimp only;generalize hq:Value.str y t=q at *;by_cases hc:((q :: (placesWithHash es.size (fun i=>es[i]?.map (·.hash)) (hM w k)).filterMap (fun i=>es[i]?.map (·.key))).all carriedByValue)=true
        · rw [if_pos hc];exact plain
        · rw [if_neg hc];exact tl q hkey
    · by_cases hc:((key :: (placesWithHash es.size (fun i=>es[i]?.map (·.hash)) (hM w k)).filterMap (fun i=>es[i]?.map (·.key))).all carriedByValue)=true
      · rw [if_pos hc];exact plain
      · rw [if_neg hc];split
        · rw [if_neg (hany _ rfl)];generalize hq:Value.ref _=q at *;exact tl q hkey
        · exact tl key hkey
  case tt =>
    clear plain strp hany hkey;intro key hkey;by_cases hone:(((placesWithHash es.size (fun i=>es[i]?.map (·.hash)) (hM w k)).filterMap (fun i=>es[i]?.map (·.key))) == [key])=true <;>
    (first|rw [if_pos hone]|rw [if_neg hone]) <;> (first|refine wpAny_bind (wpAny_pure ?_)|refine wpAny_bind (v3 hkey hst ?_)) <;> (
    rw [if_neg (by simp)];refine wpAny_bind ?_;refine wpAny_forIn_list _
      (fun rest b s'=>s'=s∧∃ i hit,b=(none,hit)∧rest=(List.range' i (es.size - i)).filter (fun i=>(es[i]?.map (·.hash)) == some (hM w k))∧i≤es.size ∧
        ((hit=none∧∀ j p,j < i→xs[j]?≠some (k,p))∨∃ j p,hit=some j∧j < i∧xs[j]?=some (k,p))) _ ?_ ?_ _ _
      ⟨rfl,0,none,rfl,by rw [placesWithHash,List.range_eq_range',Nat.sub_zero],aaU _,.inl ⟨rfl,fun _ _ h=>absurd h (Nat.not_lt_zero _)⟩⟩
    · rintro x rest b s' ⟨rfl,i,hit,rfl,hr,hi,hH⟩;obtain ⟨hix,hxn,hpx,hskip,hrest⟩:=filter_range'_cons _ _ _ _ _ hr.symm;have hlt:x < es.size:=by lia
      have hrest':rest=(List.range' (x+1) (es.size - (x+1))).filter (fun i=>(es[i]?.map (·.hash)) == some (hM w k)):=by rw [hrest];congr 2;lia
      obtain ⟨⟨k',b,v'⟩,hkv⟩:∃ y,xs[x]?=some y:=⟨xs[x]'(by rw [← hsz];exact hlt),aac _⟩
      have hib:isM prog w s'.heap k' b:=his _ (aas hkv);have hex:es[x]?=some ⟨hM w k',b,v'⟩:=by rw [f_ he x,hkv];rfl
      have hHx:(hit=none∧∀ j p,j < x→xs[j]?≠some (k,p))∨∃ j p,hit=some j∧j < x∧xs[j]?=some (k,p):=by
        rcases hH with ⟨h0,hno⟩|⟨j,p,h1,hji,hj⟩
        · refine .inl ⟨h0,fun j p hjx hj=>?_⟩;rcases ab9 j i with h|h
          · exact hno j p h hj
          · have:=hskip j h hjx;rw [haskey j p hj] at this;exact absurd this (by decide)
        · exact .inr ⟨j,p,h1,by lia,hj⟩
      have hstay:¬ k'=k→((hit=none∧∀ j p,j < x+1→xs[j]?≠some (k,p))∨∃ j p,hit=some j∧j < x+1∧xs[j]?=some (k,p)):=by
        intro hne;rcases hHx with ⟨h0,hno⟩|⟨j,p,h1,hjx,hj⟩
        · refine .inl ⟨h0,fun j p hjx hj=>?_⟩;rcases ab9 j x with h|h
          · exact hno j p h hj
          · have hjx':j=x:=by lia
            subst hjx';rw [hkv] at hj;injection hj with hj
            injection hj with hj
            exact hne hj
        · exact .inr ⟨j,p,h1,by lia,hj⟩
      rw [hex];dsimp only;by_cases hh:(hM w k' == hM w k)=true
      · rw [if_pos hh];refine wpAny_bind (wpAny_dictEpoch ho hd (wpAny_bind (jl (x:=k') (y:=k) hu hib hkey (wpAny_bind (wpAny_dictEpoch ho hd ?_)))));show wpAny _ _ (if (ep != ep)=true then _ else _) _ E _;rw [if_neg (by simp)];by_cases hkk:k'=k
        · rw [decide_eq_true hkk];subst hkk;rcases hHx with ⟨rfl,_⟩|⟨j,p,_,hjx,hj⟩
          · first|rw [if_pos rfl]|skip
            simp only [Option.isSome_none,aaL,if_false]
            first|refine wpAny_bind (wpAny_pure ?_)|skip
            refine wpAny_bind (wpAny_rule ?_);split
            · exact wpAny_pure (wpAny_pure (hsome x _ hkv))
            · exact wpAny_pure ⟨rfl,x+1,some x,rfl,hrest',hlt,.inr ⟨x,_,rfl,ack x,hkv⟩⟩
          · exact absurd (ixM hn hj hkv) (by lia)
        · rw [decide_eq_false hkk];simp only [aaL,if_false];refine wpAny_bind (wpAny_rule ?_)
          first|rw [if_neg (by simp)]|skip
          first
            | exact wpAny_pure ⟨rfl,x+1,hit,rfl,hrest',hlt,hstay hkk⟩
            | exact wpAny_bind (wpAny_pure (wpAny_pure ⟨rfl,x+1,hit,rfl,hrest',hlt,hstay hkk⟩))
      · rw [if_neg hh];refine wpAny_pure ⟨rfl,x+1,hit,rfl,hrest',hlt,hstay ?_⟩;intro hkk;rw [hkk] at hh;simp at hh
    · rintro b s' ⟨rfl,i,hit,rfl,hr,hi,hH⟩;have hall:∀ j,i≤j→j < es.size→((es[j]?.map (·.hash)) == some (hM w k))=false:=by
        intro j h1 h2;have:=List.filter_eq_nil_iff.mp hr.symm j (List.mem_range'_1.mpr ⟨h1,by lia⟩);simpa using this
      rcases hH with ⟨rfl,hno⟩|⟨j,p,rfl,_,hj⟩
      · refine wpAny_pure (hnone fun j p hj=>?_);rcases ab9 j i with h|h
        · exact hno j p h hj
        · have hjl:j < es.size:=by
            rw [hsz];rcases ab9 j xs.length with h'|h'
            · exact h'
            · rw [abF h'] at hj;exact nomatch hj
          have:=hall j h hjl;rw [haskey j p hj] at this;exact absurd this (by decide)
      · exact wpAny_pure (hsome j p hj))
end
end L2
namespace L2
open PySem PySem.Spec PyProof.Rows PySem.SeqAt
section
variable {A:Around} {E:Value→Shared→Prop} {s:Shared} {prog:Program} {w:World} {d:Addr} {key:Value} {k:MK} {xs:List EM}
def atM (xs:List EM) (k:MK):Option Value:=(xs.find? fun x=>decide (x.1=k)).map (·.2.2)
theorem lB (hn:(xs.map (·.1)).Nodup) {i:Nat} {p:Value × Value} (hx:xs[i]?=some (k,p)):atM xs k=some p.2:=by
  unfold atM;have hm:=aas hx;cases hf:xs.find? (fun x=>decide (x.1=k)) with
  | none =>
    have:=List.find?_eq_none.mp hf _ hm;simp at this
  | some y =>
    have hy:=List.mem_of_find?_eq_some hf;have hk:y.1=k:=by have:=List.find?_some hf;simpa using this
    obtain ⟨j,hj⟩:=ab7.mp hy;have : i=j:=ixM (k:=k) (p:=p) (q:=y.2) hn hx (by rw [hj,← hk]);rw [← this,hx] at hj;cases hj;rfl
theorem ju (h:∀ (j:Nat) (p:Value × Value),xs[j]?≠some (k,p)):atM xs k=none:=by
  unfold atM;rw [List.find?_eq_none.mpr]
  · rfl
  · intro x hx hk;obtain ⟨j,hj⟩:=ab7.mp hx;exact h j x.2 (by rw [hj,← of_decide_eq_true hk])
def io (k:MK) (v:Value) (x:EM):EM:=if x.1=k then (x.1,x.2.1,v) else x
def stM (xs:List EM) (k:MK) (key v:Value):List EM:=if (atM xs k).isSome then xs.map (io k v) else xs++[(k,key,v)]
def noM (xs:List EM) (k:MK):List EM:=xs.filter fun x=>decide (x.1≠k)
theorem ss {Q:Option Value→Shared→Prop} (hu:A.units < cLine) (hkey:isM prog w s.heap k key) (hm:DictM prog w s.heap d xs)
    (h:Q (atM xs k) { s with toks:=s.toks+dM k }):wpAny (model prog w) A (dictGet d key) Q E s:=by
  obtain ⟨o,es,ep,ho,_,hd,he,his,hn⟩:=hm;unfold dictGet
  try with_reducible refine wpAny_holding ?_
  refine wpAny_bind (iU hu hkey (wpAny_bind (nZ (s:={ s with toks:=s.toks+dM k }) hu hkey ho hd he his hn ?_ ?_)))
  · intro hno;rw [ju hno] at h;exact wpAny_pure h
  · intro j p hj;rw [lB hn hj] at h;refine wpAny_bind (wpAny_dictEntries (s:={ s with toks:=s.toks+dM k }) ho hd ?_);rw [f_ he j,hj];exact wpAny_pure h
theorem qd (xs:List EM) (k:MK) (v:Value):(xs.map (io k v)).map (·.1)=xs.map (·.1):=by
  induction xs with
  | nil=>rfl
  | cons x xs ih =>
    simp only [aae,ih];by_cases hk:x.1=k <;> simp [io,hk]
theorem tE (xs:List EM) (k:MK) (v:Value) (hn:k∉xs.map (·.1)):xs.map (io k v)=xs:=by
  induction xs with
  | nil=>rfl
  | cons x xs ih =>
    simp only [aae,aai,not_or] at hn ⊢;rw [io,if_neg (fun e=>hn.1 e.symm),ih hn.2]
theorem xX (k:MK) (v:Value):∀ {xs:List EM} {j:Nat} {p:Value × Value},(xs.map (·.1)).Nodup→xs[j]?=some (k,p)→(xs.map (cR w)).modify j (fun e=>{ e with val:=v })=(xs.map (io k v)).map (cR w):=by
  intro xs
  induction xs with
  | nil=>intro j p _ hj;simp at hj
  | cons x rest ih =>
    intro j p hn hj;rw [aae,aba] at hn;cases j with
    | zero =>
      simp only [List.getElem?_cons_zero,Option.some.injEq] at hj;subst hj;rw [aae,aae,tE rest k v hn.1,io,if_pos rfl,aae];rfl
    | succ j =>
      simp only [List.getElem?_cons_succ] at hj;have hmem:k∈rest.map (·.1):=aan.mpr ⟨(k,p),aas hj,rfl⟩;have hne:¬ x.1=k:=fun e=>hn.1 (e ▸ hmem);rw [aae,aae,io,if_neg hne,aae];show cR w x :: (rest.map (cR w)).modify j _=_;rw [ih hn.2 hj]
theorem yd {j:Nat} {p:Value × Value}:∀ {xs:List EM} {j:Nat} {p:Value × Value},(xs.map (·.1)).Nodup→xs[j]?=some (k,p)→(xs.map (cR w)).eraseIdx j=(noM xs k).map (cR w):=by
  intro xs
  induction xs with
  | nil=>intro j p _ hj;simp at hj
  | cons x rest ih =>
    intro j p hn hj;rw [aae,aba] at hn;cases j with
    | zero =>
      simp only [List.getElem?_cons_zero,Option.some.injEq] at hj;subst hj;have : noM ((k,p) :: rest) k=rest:=by
        unfold noM;rw [abX,if_neg (by simp)];exact List.filter_eq_self.mpr fun y hy=>by simpa using fun e=>hn.1 (aan.mpr ⟨y,hy,e⟩)
      rw [this];rfl
    | succ j =>
      simp only [List.getElem?_cons_succ] at hj;have hmem:k∈rest.map (·.1):=aan.mpr ⟨(k,p),aas hj,rfl⟩;have hne:¬ x.1=k:=fun e=>hn.1 (e ▸ hmem);have : noM (x :: rest) k=x :: noM rest k:=by
        unfold noM;rw [abX,if_pos (by simpa using hne)]
      rw [this,aae,aae,List.eraseIdx_cons_succ,ih hn.2 hj]
theorem qm (hn:(xs.map (·.1)).Nodup):((noM xs k).map (·.1)).Nodup:=ab4 (List.filter_sublist.map _) hn
theorem uQ {v:Value} {Q:Unit→Shared→Prop} (hu:A.units < cLine) (hkey:isM prog w s.heap k key) (hm:DictM prog w s.heap d xs)
    (hQ:∀ h',DictM prog w h' d (stM xs k key v)→abg d s.heap h'→Q () { s with heap:=h' })
    (hsz:xs.length≤sizeLine):wpAny (model prog w) A (dictSetHashed d key (hM w k) v) Q E s:=by
  obtain ⟨o,es,ep,ho,hc,hd,he,his,hn⟩:=hm;unfold dictSetHashed
  try with_reducible refine wpAny_holding ?_
  refine wpAny_bind (nZ hu hkey ho hd he his hn ?_ ?_)
  · intro hno;have hnot:k∉xs.map (·.1):=fun hm=>by
      obtain ⟨x,hx,e⟩:=aan.mp hm;obtain ⟨j,hj⟩:=ab7.mp hx;exact hno j x.2 (by rw [hj,← e])
    have est:stM xs k key v=xs++[(k,key,v)]:=by unfold stM;rw [ju hno];rfl
    refine wpAny_bind (wpAny_rule (wpAny_updateDictKeys (hz:=by have e:=cf he;lia) ho hd (hQ _ ⟨_,_,ep+1,abh _ ho (Obj.isFreed_of_dict (acg hd _)),
      hc.mapDictKeys _,acg hd _,?_,?_,?_⟩ (aaW ..))))
    · rw [est];simp [he,cR]
    · rw [est];intro x hx;rcases aav.mp hx with hx|hx
      · exact (his x hx).keeps ho hd (aaW ..)
      · simp only [List.mem_singleton] at hx;subst hx;exact hkey.keeps ho hd (aaW ..)
    · rw [est];rw [aaH,List.nodup_append];refine ⟨hn,by simp,?_⟩;intro x hx y hy;simp only [aae,abG,List.mem_singleton] at hy;subst hy;exact fun e=>hnot (e ▸ hx)
  · intro j p hj;have est:stM xs k key v=xs.map (io k v):=by unfold stM;rw [lB hn hj];rfl
    refine wpAny_bind (wpAny_rule (wpAny_bind (wpAny_updateDict ho hd (wpAny_point (hQ _ ⟨_,_,ep,abh _ ho (Obj.isFreed_of_dict (Obj.data_mapDict hd _)),
      hc.mapDict _,Obj.data_mapDict hd _,?_,?_,?_⟩ (aaW ..))))))
    · rw [est];have:=xX (w:=w) k v hn hj;rw [← he] at this;obtain ⟨l⟩:=es;simpa using this
    · rw [est];intro x hx;obtain ⟨y,hy,rfl⟩:=aan.mp hx;unfold io;split <;> exact (his y hy).keeps ho hd (aaW ..)
    · rw [est];rw [qd];exact hn
theorem wt {v:Value} {Q:Unit→Shared→Prop} (hu:A.units < cLine) (hkey:isM prog w s.heap k key) (hm:DictM prog w s.heap d xs)
    (hQ:∀ h',DictM prog w h' d (stM xs k key v)→abg d s.heap h'→Q () { s with heap:=h',toks:=s.toks+dM k })
    (hsz:xs.length≤sizeLine):wpAny (model prog w) A (dictSet d key v) Q E s:=by
  unfold dictSet
  try with_reducible refine wpAny_holding ?_
  exact wpAny_bind (iU hu hkey (uQ (s:={ s with toks:=s.toks+dM k }) hu hkey hm hQ hsz))
theorem qO {Q:Option DictEntry→Shared→Prop} {v:Value} (hu:A.units < cLine) (hkey:isM prog w s.heap k key) (hm:DictM prog w s.heap d xs) (hv:atM xs k=some v)
    (hQ:∀ e h',e.val=v→DictM prog w h' d (noM xs k)→abg d s.heap h'→Q (some e) { s with heap:=h',toks:=s.toks+dM k })
    (hsz:xs.length≤sizeLine):wpAny (model prog w) A (Builtin.Dict.takeOut d key) Q E s:=by
  obtain ⟨o,es,ep,ho,hc,hd,he,his,hn⟩:=hm;unfold Builtin.Dict.takeOut
  try with_reducible refine wpAny_holding ?_
  refine wpAny_bind (iU hu hkey ?_);refine wpAny_bind (nZ (s:={ s with toks:=s.toks+dM k }) hu hkey ho hd he his hn ?_ ?_)
  · intro hno;rw [ju hno] at hv;cases hv
  · intro j p hj;rw [lB hn hj] at hv;refine wpAny_bind (wpAny_dictEntries (s:={ s with toks:=s.toks+dM k }) ho hd ?_);rw [f_ he j,hj];refine wpAny_bind (wpAny_updateDictKeys (hz:=by have e:=cf he;lia) (s:={ s with toks:=s.toks+dM k }) ho hd (wpAny_pure (hQ _ _ (aal hv) ⟨_,_,ep+1,abh _ ho (Obj.isFreed_of_dict (acg hd _)),
      hc.mapDictKeys _,acg hd _,?_,?_,qm hn⟩ (aaW ..))))
    · have:=yd (k:=k) (w:=w) (j:=j) (p:=p) hn hj;rw [← he] at this;obtain ⟨l⟩:=es;simpa using this
    · intro x hx;exact (his x (acu.mp hx).1).keeps ho hd (aaW ..)
theorem xZ {Q:Value→Shared→Prop} (hu:A.units+1 < cLine) (hkey:isM prog w s.heap k key) (hd:(d == sysModules)=false) (hm:DictM prog w s.heap d xs)
    (h:Q (.bool (atM xs k).isSome) { s with toks:=s.toks+dM k }):wpAny (model prog w) A (compareOp .In key (.ref d)) Q E s:=by
  show wpAny _ _ (do return .bool (← contains (.ref d) key)) Q E s;refine wpAny_bind ?_;unfold contains
  try with_reducible refine wpAny_holding ?_
  refine wpAny_bind (wpAny_specialOf hm.typeIs slot_dict_contains.lookup ?_);show wpAny _ _ (if (some (Value.builtin "dict.__contains__") == some Value.none)=true then _ else _) _ E s;rw [if_neg (by rw [beq_builtin_none];exact aad)];refine wpAny_bind (wpAny_callSpecialUnlessNone?_slot (name:=abi "__contains__") hm.typeIs slot_dict_contains
    (wpAny_call_entry slot_dict_contains hm.typeIs entry_dict_contains ?_ (args_dict_contains _ _)))
  show wpAny _ _ (dictGet d key >>= _) _ _ s;refine wpAny_bind (ss (A:=A.in1) hu hkey hm ?_);cases hf:atM xs k with
  | some p =>
    rw [hf] at h;show wpAny _ _ (ret (.bool true)) _ _ _;exact wpAny_pure ⟨_,rfl,wpAny_truthy_bool (wpAny_pure h)⟩
  | none =>
    rw [hf] at h;show wpAny _ _ (Builtin.Dict.pendingKey? d key >>= _) _ _ _;exact wpAny_bind (wpAny_pendingKey_other hd (wpAny_pure ⟨_,rfl,wpAny_truthy_bool (wpAny_pure h)⟩))
theorem qz {v:Value} {Q:Value→Shared→Prop} (hu:A.units+1 < cLine) (hkey:isM prog w s.heap k key) (hm:DictM prog w s.heap d xs) (hv:atM xs k=some v)
    (h:Q v { s with toks:=s.toks+dM k }):wpAny (model prog w) A (getItem (.ref d) key) Q E s:=by
  unfold getItem
  try with_reducible refine wpAny_holding ?_
  refine wpAny_bind (wpAny_sequenceKey hm.typeIs (by decide) ?_);refine wpAny_bind (wpAny_callSpecial?_slot (name:=abi "__getitem__") hm.typeIs slot_dict_getitem
    (wpAny_call_entry slot_dict_getitem hm.typeIs entry_dict_getitem ?_ (args_dict_getitem _ _)))
  show wpAny _ _ (dictGet d key >>= _) _ _ s;refine wpAny_bind (ss (A:=A.in1) hu hkey hm ?_);rw [hv];exact wpAny_pure ⟨v,rfl,wpAny_pure h⟩
theorem p_ {v:Value} {Q:Unit→Shared→Prop} (hu:A.units+1 < cLine) (hkey:isM prog w s.heap k key) (hm:DictM prog w s.heap d xs)
    (hQ:∀ h',DictM prog w h' d (stM xs k key v)→abg d s.heap h'→Q () { s with heap:=h',toks:=s.toks+dM k })
    (hsz:xs.length≤sizeLine):wpAny (model prog w) A (setItem (.ref d) key v) Q E s:=by
  unfold setItem
  try with_reducible refine wpAny_holding ?_
  refine wpAny_bind (wpAny_sequenceKey hm.typeIs (by decide) ?_);refine wpAny_bind (wpAny_callSpecial?_slot (name:=abi "__setitem__") hm.typeIs slot_dict_setitem
    (wpAny_call_entry slot_dict_setitem hm.typeIs entry_dict_setitem ?_ (args_dict_setitem _ _ _)))
  show wpAny _ _ (Builtin.Dict.notOrdered "__setitem__" ⟨[.ref d,key,v],[]⟩ >>= _) _ _ s;refine wpAny_bind (wpAny_notOrdered_dict hm.typeIs ?_);show wpAny _ _ (dictSet d key v >>= _) _ _ s;exact wpAny_bind (wt (A:=A.in1) hu hkey hm (fun h' hm' hs'=>wpAny_pure ⟨.none,rfl,wpAny_pure (hQ h' hm' hs')⟩) hsz)
theorem vK {dflt:Value} {Q:Value→Shared→Prop} (hu:A.units+1 < cLine) (hkey:isM prog w s.heap k key) (hd:(d == sysModules)=false) (hm:DictM prog w s.heap d xs)
    (h:Q ((atM xs k).getD dflt) { s with toks:=s.toks+dM k }):wpAny (model prog w) A (call (.builtin "dict.get") [.ref d,key,dflt]) Q E s:=by
  refine wpAny_call_entry PySem.F.slot_dict_get hm.typeIs PySem.F.entry_dict_get ?_ (PySem.F.args_dict_get_3 _ _ _);show wpAny _ _ (dictGet d key >>= _) _ _ s;refine wpAny_bind (ss (A:=A.in1) hu hkey hm ?_);cases hf:atM xs k with
  | some v =>
    rw [hf] at h;exact wpAny_pure ⟨v,rfl,h⟩
  | none =>
    rw [hf] at h;show wpAny _ _ (Builtin.Dict.missed d key >>= _) _ _ _;exact wpAny_bind (wpAny_missed_other hd (wpAny_pure ⟨dflt,rfl,h⟩))
theorem wK {v:Value} {Q:Value→Shared→Prop} (hu:A.units+1 < cLine) (hkey:isM prog w s.heap k key) (hm:DictM prog w s.heap d xs) (hv:atM xs k=some v) (more:List Value) (hmo:more=[]∨∃ x,more=[x])
    (hQ:∀ h',DictM prog w h' d (noM xs k)→abg d s.heap h'→Q v { s with heap:=h',toks:=s.toks+dM k })
    (hsz:xs.length≤sizeLine):wpAny (model prog w) A (call (.builtin "dict.pop") (.ref d :: key :: more)) Q E s:=by
  have ha:argsOk "dict.pop" ⟨.ref d :: key :: more,[]⟩:=by
    rcases hmo with q|⟨x,q⟩
    · subst q;exact PySem.F.args_dict_pop_2 _ _
    · subst q;exact PySem.F.args_dict_pop_3 _ _ _
  have hne:xs≠[]:=fun e=>by subst e;cases hv
  refine wpAny_call_entry PySem.F.slot_dict_pop hm.typeIs PySem.F.entry_dict_pop ?_ ha;obtain ⟨o,es,ep,ho,hc,hd,he,his,hn⟩:=id hm;have hes:es.isEmpty=false:=by
    have:=cf he;have h0:xs.length≠0:=fun z=>hne (abl.mp z);rw [Array.isEmpty_eq_false_iff];intro z;rw [z] at this;exact h0 this.symm
  unfold Builtin.«dict.pop»;refine wpAny_bind ?_;unfold Builtin.Dict.keyAndDefault;refine wpAny_bind (wpAny_notOrdered_dict hm.typeIs ?_);rcases hmo with rfl|⟨x,rfl⟩
  · show wpAny _ _ (pure (d,key,none)) _ _ s;refine wpAny_pure ?_;dsimp only;refine (fun (tl:(?T1:Prop))=>?mn1) ?tt1
    case mn1 =>
      by_cases hp:(keyPart key).isSome=true
      · rw [if_pos hp];refine wpAny_bind (wpAny_pure ?_);simp only [aaL,if_false];refine wpAny_bind ?_;exact tl
      · rw [if_neg hp];refine wpAny_bind (wpAny_dictEntries ho hd (wpAny_bind (wpAny_pure ?_)));rw [hes];simp only [aaL,if_false];refine wpAny_bind ?_;exact tl
    case tt1 =>
      refine qO (A:=A.in1) hu hkey hm hv (fun e h' ev hm' hs'=>?_) hsz;simp only [Option.isNone_some,aaL,if_false];exact wpAny_bind (wpAny_letGo (wpAny_pure ⟨e.val,rfl,by rw [ev];exact hQ h' hm' hs'⟩))
  · show wpAny _ _ (pure (d,key,some x)) _ _ s;refine wpAny_pure ?_;dsimp only;refine (fun (tl:(?T2:Prop))=>?mn2) ?tt2
    case mn2 =>
      by_cases hp:(keyPart key).isSome=true
      · rw [if_pos hp];refine wpAny_bind (wpAny_pure ?_);simp only [aaL,if_false];refine wpAny_bind ?_;exact tl
      · rw [if_neg hp];refine wpAny_bind (wpAny_dictEntries ho hd (wpAny_bind (wpAny_pure ?_)));rw [hes];simp only [aaL,if_false];refine wpAny_bind ?_;exact tl
    case tt2 =>
      refine qO (A:=A.in1) hu hkey hm hv (fun e h' ev hm' hs'=>?_) hsz;simp only [Option.isNone_some,aaL,if_false];exact wpAny_bind (wpAny_letGo (wpAny_pure ⟨e.val,rfl,by rw [ev];exact hQ h' hm' hs'⟩))
end
end L2
namespace L2
open PySem PySem.Spec PyProof.Rows PySem.SeqAt
def BiL:List Int→List V→Prop:=Paired fun k x=>x=.int k∨∃ b,x=.bl b∧k=bI b
def MkIn (H:Hp):MK→V→Prop
  | .non,v=>v=.non
  | .int i,v=>v=.int i
  | .str x,v=>v=.str x
  | .tup ks,v=>∃ b xs,v=.ref b∧H b=some (.tup xs)∧BiL ks xs
theorem MkIn.mono {H H':Hp} {k:MK} {v:V} (g:∀ b xs,H b=some (.tup xs)→H' b=some (.tup xs)) (h:MkIn H k v):MkIn H' k v:=by
  cases k with
  | tup ks=>obtain ⟨b,xs,e,hb,r⟩:=h;exact ⟨b,xs,e,g _ _ hb,r⟩
  | _=>exact h
theorem BiL.ints (ks:List Int):BiL ks (ks.map V.int):=by
  unfold BiL
  induction ks with
  | nil=>exact .nil
  | cons k ks ih=>exact .cons (.inl rfl) ih
theorem MkIn.pair {H:Hp} {b:Addr} {i j:Int} (h:H b=some (.tup [.int i,.int j])):MkIn H (.tup [i,j]) (.ref b):=⟨b,_,rfl,h,BiL.ints [i,j]⟩
abbrev KEn:=MK × V × V
def DmO (w:World) (kvs:List KEn) (o:Obj):Prop:=o.ExactDict∧∃ es ep,o.data=.dict es ep∧Paired (fun (p:KEn) (e:DictEntry)=>e.hash=hM w p.1∧RelV p.2.1 e.key∧RelV p.2.2 e.val) kvs es.toList
def dmX (w:World) (a:Addr) (kvs:List KEn):HO:=.ext fun h=>∃ o,h.get? a=some o∧DmO w kvs o
structure DmIn (w:World) (H:Hp) (a:Addr) (kvs:List KEn):Prop where
  at_:H a=some (dmX w a kvs)
  keys:∀ p∈kvs,MkIn H p.1 p.2.1
  nd:(kvs.map (·.1)).Nodup
  len:kvs.length≤1000
theorem DmIn.mono {w:World} {H H':Hp} {a:Addr} {kvs:List KEn} (g:Same H H') (h:DmIn w H a kvs):DmIn w H' a kvs:=⟨g _ _ h.at_,fun p hp=>(h.keys p hp).mono fun b xs=>g b _,h.nd,h.len⟩
def Pd (w:World) (H:Hp) (a:Addr) (es:List (MK × V)):Prop :=
  (∃ kvs:List (List Int × V),H a=some (.dT (kvs.map fun p=>(p.1.map Sum.inl,p.2)))∧es=kvs.map fun p=>(.tup p.1,p.2)) ∨
  (∃ kvs,DmIn w H a kvs∧es=kvs.map fun p=>(p.1,p.2.2))∨(H a=some (.dK [])∧es=[])
theorem Pd.mono {w:World} {H H':Hp} {a:Addr} {es:List (MK × V)} (g:Same H H') (h:Pd w H a es):Pd w H' a es:=by
  rcases h with ⟨kvs,h,e⟩|⟨kvs,h,e⟩|⟨h,e⟩
  · exact .inl ⟨kvs,g _ _ h,e⟩
  · exact .inr (.inl ⟨kvs,h.mono g,e⟩)
  · exact .inr (.inr ⟨g _ _ h,e⟩)
theorem ke {P:Program} {w:World}:∀ {ks:List Int} {xs:List V} {us:List Value},BiL ks xs→Vals xs us→ItemsAre (ln P w) ks us
  | _,_,_,.nil,r=>by cases r;exact .nil
  | _,_,_,.cons h t,r=>by
    cases r with
    | cons r1 r2 =>
      refine .cons ?_ (ke t r2);rcases h with rfl|⟨b,rfl,rfl⟩
      · obtain ⟨t,rfl⟩:=r1;exact beq_self_eq_true _
      · cases r1;exact beq_self_eq_true _
section
variable {X:Cx} {pins:List (Addr × Obj)} {σ:St} {H:Hp} {s:Shared} {a:Addr}
theorem kX (I:Inv X pins σ H s) {k:MK} {v:V} {u:Value} (h:MkIn H k v) (r:RelV v u):isM X.prog X.w s.heap k u:=by
  cases k with
  | non=>cases (show v=.non from h);exact r
  | int i=>cases (show v=.int i from h);exact r
  | str i=>cases (show v=.str i from h);exact r
  | tup ks =>
    obtain ⟨b,xs,rfl,hb,bl⟩:=h;cases r;obtain ⟨_,its,rv,o,h1,h2,n,h3⟩:=(show ObjOk X.prog X.w H s.heap b (.tup xs) from I.hok b _ hb)
    exact ⟨b,rfl,o,its.toArray,n,h1,h2,h3,by simpa using ke bl rv⟩
theorem nO (I:Inv X pins σ H s) {o:HO} (h:H a=some o):(a == sysModules)=false:=beq_eq_false_iff_ne.mpr (I.nosys h)
abbrev KM:List KEn→List EM→Prop:=Paired fun p q=>p.1=q.1∧RelV p.2.1 q.2.1∧RelV p.2.2 q.2.2
theorem uB {w:World}:∀ {kvs:List KEn} {es:List DictEntry},Paired (fun (p:KEn) (e:DictEntry)=>e.hash=hM w p.1∧RelV p.2.1 e.key∧RelV p.2.2 e.val) kvs es→∃ xs:List EM,KM kvs xs∧es=xs.map (cR w)
  | _,_,.nil=>⟨[],.nil,rfl⟩
  | _,_,.cons (a:=p) (b:=e) h t=>by
    obtain ⟨xs,r,rfl⟩:=uB t;refine ⟨(p.1,e.key,e.val) :: xs,.cons ⟨rfl,h.2⟩ r,?_⟩;obtain ⟨h1,h2,h3⟩:=e;rw [aae];congr 1;unfold cR;rw [← h.1]
theorem tZ {kvs:List KEn} {xs:List EM} (r:KM kvs xs):kvs.map (·.1)=xs.map (·.1):=by
  induction r with
  | nil=>rfl
  | cons h t ih=>rw [aae,aae,ih,h.1]
theorem wV (I:Inv X pins σ H s) {kvs:List KEn} {xs:List EM} (r:KM kvs xs) (h:∀ p∈kvs,MkIn H p.1 p.2.1):∀ x∈xs,isM X.prog X.w s.heap x.1 x.2.1:=by
  induction r with
  | nil=>intro x hx;exact nomatch hx
  | @cons p q ps qs h1 t ih =>
    intro x hx;rcases aai.mp hx with e|hx
    · rw [e,← h1.1];exact kX I (h p aat) h1.2.1
    · exact ih (fun p hp=>h p (aak _ hp)) x hx
theorem hU (I:Inv X pins σ H s) {kvs:List KEn} (d:DmIn X.w H a kvs):∃ xs:List EM,KM kvs xs∧DictM X.prog X.w s.heap a xs:=by
  obtain ⟨⟨o,ho,hx,es,ep,hd,rel⟩,_⟩:=(show ObjOk X.prog X.w H s.heap a (dmX X.w a kvs) from I.hok a _ d.at_)
  obtain ⟨xs,r,e⟩:=uB rel;exact ⟨xs,r,o,es,ep,ho,hx,hd,e,wV I r d.keys,by rw [← tZ r];exact d.nd⟩
abbrev PM:List (MK × V)→List EM→Prop:=Paired fun p q=>p.1=q.1∧RelV p.2 q.2.2
theorem mD {P:Program} {w:World}:∀ {ks:List Int} {us:List Value},ItemsAre (aX P w) (ks.map Sum.inl) us→ItemsAre (ln P w) ks us
  | [],_,h=>by rw [abG] at h;cases h;exact .nil
  | k :: ks,_,h=>by
    rw [aae] at h;cases h with
    | cons h t =>
      refine .cons ?_ (mD t);rw [jc] at h;rcases a_ h with ⟨i,t,e,rfl⟩|⟨x,t,e,rfl⟩
      · cases e;exact beq_self_eq_true _
      · cases e
theorem sM {P:Program} {w:World} {h:Heap}:∀ {kvs:List (List Int × V)} {ys:List (List Key × Addr × Value)},Paired (fun (p:List Key × V) q=>p.1=q.1∧RelV p.2 q.2.2) (kvs.map fun p=>(p.1.map Sum.inl,p.2)) ys→(∀ x∈ys,IsTupleKey (aX P w) h x.1 x.2.1) →
    ∃ xs:List EM,PM (kvs.map fun p=>(.tup p.1,p.2)) xs∧ys.map (entryOfKey (tupleKind (aX P w)))=xs.map (cR w)∧(∀ x∈xs,isM P w h x.1 x.2.1)∧xs.map (·.1)=kvs.map fun p=>MK.tup p.1
  | [],_,r,_=>by rw [abG] at r;cases r;exact ⟨[],.nil,rfl,(fun x hx=>nomatch hx),rfl⟩
  | p :: kvs,_,r,hk=>by
    rw [aae] at r;cases r with
    | @cons _ q _ qs h t =>
      obtain ⟨xs,r1,r2,r3,r4⟩:=sM (P:=P) (w:=w) t fun x hx=>hk x (aak _ hx);have hq:=hk q aat;rw [← h.1] at hq;obtain ⟨o,items,n,g1,g2,g3,g4⟩:=hq;refine ⟨(.tup p.1,.ref q.2.1,q.2.2) :: xs,.cons ⟨rfl,h.2⟩ r1,?_,fun x hx=>?_,by rw [aae,aae,r4]⟩
      · rw [aae,aae,r2];congr 1;obtain ⟨q1,q2,q3⟩:=q;unfold entryOfKey cR;dsimp only at h ⊢;rw [← h.1];have : (tupleKind (aX P w)).hash (p.1.map Sum.inl)=hM w (.tup p.1):=by
          show reduceHash (abL ((p.1.map Sum.inl).map (aX P w).hash))=reduceHash (abL (p.1.map hashInt));rw [aaR];rfl
        rw [this]
      · rcases aai.mp hx with rfl|hx
        · exact ⟨q.2.1,rfl,o,items,n,g1,g2,g3,mD g4⟩
        · exact r3 x hx
theorem oB {l:List (List Int × V)} (h:(l.map fun p=>p.1.map (Sum.inl:Int→Key)).Nodup):(l.map fun p=>MK.tup p.1).Nodup:=by
  induction l with
  | nil=>exact acI
  | cons p l ih =>
    rw [aae,aba] at h ⊢;refine ⟨fun hm=>h.1 ?_,ih h.2⟩;obtain ⟨q,hq,e⟩:=aan.mp hm;injection e with e
    exact aan.mpr ⟨q,hq,by rw [e]⟩
theorem gU (I:Inv X pins σ H s) {es:List (MK × V)} (d:Pd X.w H a es):∃ xs:List EM,PM es xs∧DictM X.prog X.w s.heap a xs∧(a == sysModules)=false∧es.length≤sizeLine:=by
  rcases d with ⟨kvs,h,rfl⟩|⟨kvs,h,rfl⟩|⟨h,rfl⟩
  · obtain ⟨z,hd,ys,rel,o,es,ep,h1,h2,h3,h4,h5,h6⟩:=pC I.hok h;obtain ⟨xs,r1,r2,r3,r4⟩:=sM (P:=X.prog) (w:=X.w) (h:=s.heap) (Paired.mapP rel fun _ _ z=>⟨z.1,z.2.2⟩) h5;refine ⟨xs,r1,⟨o,es,ep,h1,h2,h3,by rw [h4,r2],r3,?_⟩,hd,by simpa using z⟩;rw [r4];refine oB ?_;have : ys.map (·.1)=kvs.map fun p=>p.1.map (Sum.inl:Int→Key):=by
      have e:∀ {l:List (List Key × V)} {m:List (List Key × Addr × Value)},KT H l m→m.map (·.1)=l.map (·.1):=by
        intro l m q
        induction q with
        | nil=>rfl
        | cons h t ih=>rw [aae,aae,ih,h.1]
      rw [e rel,aaR];rfl
    rw [← this];exact h6
  · obtain ⟨xs,r,dd⟩:=hU I h;refine ⟨xs,?_,dd,nO I h.at_,by rw [aab];have:=h.len;rw [sizeLine_eq];lia⟩;have : ∀ {l:List KEn} {m:List EM},KM l m→PM (l.map fun p=>(p.1,p.2.2)) m:=by
      intro l m q
      induction q with
      | nil=>exact .nil
      | cons h t ih=>exact .cons ⟨h.1,h.2.2⟩ ih
    exact this r
  · obtain ⟨z,hd,vs,rel,dd⟩:=pE I.hok h;cases rel;obtain ⟨o,es,ep,h1,h2,h3,_,h4,_⟩:=dd;refine ⟨[],.nil,⟨o,es,ep,h1,h2,h3,?_,(fun x hx=>nomatch hx),acI⟩,hd,aaU _⟩;have:=h4.length;cases hl:es.toList with
    | nil=>rfl
    | cons e r=>rw [hl] at this;simp at this
theorem rj {es:List (MK × V)} {xs:List EM} (r:PM es xs) (k:MK):RelO (bB es k) (atM xs k):=by
  induction r with
  | nil=>exact True.intro
  | @cons p q ps qs h t ih =>
    obtain ⟨h1,h2⟩:=h;by_cases e:p.1=k
    · have e':q.1=k:=h1.symm.trans e;have b:atM (q :: qs) k=some q.2.2:=by simp [atM,aa9,e']
      rw [db e,b];exact h2
    · have e':¬ q.1=k:=fun z=>e (h1.trans z);have b:atM (q :: qs) k=atM qs k:=by simp [atM,aa9,e']
      rw [dc e,b];exact ih
def sV (w:World) (H:Hp) (a:Addr) (y:V) (r:Option V):Prop:=∃ es k,Pd w H a es∧MkIn H k y∧r=bB es k
theorem rL (I:Inv X pins σ H s) {y:V} {r:Option V} {u:Value} (g:sV X.w H a y r) (ry:RelV y u):∃ k xs,isM X.prog X.w s.heap k u∧DictM X.prog X.w s.heap a xs∧(a == sysModules)=false∧RelO r (atM xs k)∧xs.length≤sizeLine:=by
  obtain ⟨es,k,hd,hk,rfl⟩:=g;obtain ⟨xs,rel,dd,hs,hz⟩:=gU I hd;exact ⟨k,xs,kX I hk ry,dd,hs,rj rel k,by rw [← aaC rel];exact hz⟩
end
def v_ (w:World) (td ty:TE):TE:=fun σ H Q=>td σ H fun x H1=>ty σ H1 fun y H2=>∃ a v,x=.ref a∧sV w H2 a y (some v)∧Q v H2
def uJ (w:World) (ty td:TE):TE:=fun σ H Q=>ty σ H fun y H1=>td σ H1 fun x H2=>∃ a o,x=.ref a∧sV w H2 a y o∧Q (.bl o.isSome) H2
def uK (w:World) (td ty tx:TE):TE:=fun σ H Q=>td σ H fun x H1=>∃ a es,x=.ref a∧Pd w H1 a es∧ty σ H1 fun y H2=>tx σ H2 fun z H3=>∃ o,sV w H3 a y o∧Q (o.getD z) H3
section
variable {X:Cx} {o i e f value:Expr} {pos pos' tpos apos cpos:Pos} {td ty tv tx:TE} {w:World}
theorem oQ {pins:List (Addr × Obj)} {σ:St} {H:Hp} {s:Shared} {a:Addr} {es:List (MK × V)} (I:Inv X pins σ H s) (d:Pd X.w H a es):s.TypeIs (.ref a) "dict"∧(∀ b,Value.ref a=.ref b→∃ ob,s.heap.get? b=some ob∧ob.dict=none):=by
  obtain ⟨xs,rel,dd,hs,hz⟩:=gU I d;obtain ⟨ob,_,_,h1,h2,_⟩:=id dd;exact ⟨dd.typeIs,fun b q=>by cases q;exact ⟨ob,h1,h2.2.1⟩⟩
theorem bY (hw:X.w=w) (hu:X.A.units+1 < cLine) (ho:PE X o td) (hi:PE X i ty) (hs:vR i):PE X (.Subscript o i pos) (v_ w td ty):=by
  subst hw;intro pins s σ H Q I h;refine oE acN.lookup hs (thn (ho pins s σ H _ I h) fun u s1 ⟨x,H1,I1,rx,q1⟩=>thn (hi pins s1 σ H1 _ I1 q1) fun iv s2 ⟨y,H2,I2,ry,a,v,ex,g,q2⟩=>?_);subst ex;obtain rfl:u=Value.ref a:=rx;obtain ⟨k,xs,hk,dd,_,ro,_⟩:=rL I2 g ry;obtain ⟨w',hw,rw'⟩:=RelO.some_of ro;exact ⟨dd.typeIs,qz hu hk dd hw ⟨v,H2,I2.tok _,rw',q2⟩⟩
theorem rA (hw:X.w=w) (hu:X.A.units+1 < cLine) (hi:PE X i ty) (ho:PE X o td):PC X .In i o (uJ w ty td):=by
  subst hw;intro pins s σ H Q I h;refine thn (hi pins s σ H _ I h) fun iv s1 ⟨y,H1,I1,ry,q1⟩=>thn (ho pins s1 σ H1 _ I1 q1) fun u s2 ⟨x,H2,I2,rx,a,ov,ex,g,q2⟩=>?_;subst ex;obtain rfl:u=Value.ref a:=rx;obtain ⟨k,xs,hk,dd,hs,ro,_⟩:=rL I2 g ry;refine xZ hu hk hs dd ?_;rw [← ro.isSome_eq];exact ⟨.bl ov.isSome,H2,I2.tok _,rfl,q2⟩
theorem u_ (hw:X.w=w) (hu:X.A.units+1 < cLine) (hi:PE X i ty) (ho:PE X o td) (hm:behindInMarks .In o=false):PE X (.Compare i [.In] [o] pos) (uJ w ty td):=vc (rA hw hu hi ho) hm
theorem nA (hw:X.w=w) (hu:X.A.units+1 < cLine) (hi:PE X i ty) (ho:PE X o td) (hm:behindInMarks .In o=false):PT X (.Compare i [.In] [o] pos) (tB (uJ w ty td)):=uU (rA hw hu hi ho) hm
theorem l4 (hw:X.w=w) (hu:X.A.units+1 < cLine) (ho:PE X o td) (he:PE X e ty) (hf:PE X f tx) (m:M2 X o "get" apos e f cpos):PE X (.Call (.Attribute o "get" apos) [e,f] [] cpos) (uK w td ty tx):=by
  subst hw;intro pins s σ H Q I h;refine wpAny_Call_method m.base m.few m.line acy PySem.F.slot_dict_get PySem.F.type_dict_get (thn (ho pins s σ H _ I h) fun u s1 ⟨x,H1,I1,rx,a,es,ex,d,q1⟩=>?_);subst ex;obtain rfl:u=Value.ref a:=rx;obtain ⟨t1,t2⟩:=oQ I1 d;refine ⟨t1,t2,?_⟩;rw [m.trees];refine abD rfl (Calls.evalArgs_plain (acs (thn (he pins s1 σ H1 _ I1 q1) fun iv s2 ⟨y,H2,I2,ry,q2⟩ =>
    acs (thn (hf pins s2 σ H2 _ I2 q2) fun fv s3 ⟨z,H3,I3,rz,ov,g,q3⟩=>Calls.spliced_nil ?_))))
  obtain ⟨k,xs,hk,dd,hs,ro,_⟩:=rL I3 g ry;exact vK hu hk hs dd ⟨_,H3,I3.tok _,ro.getD rz,q3⟩
end
end L2
namespace L2
open PySem PySem.Spec PyProof.Rows PySem.SeqAt PySem.W
section
variable {prog:Program} {w:World} {A:Around} {E:Value→Shared→Prop} {s:Shared}
theorem lT {a:Addr} {Q:Bool→Shared→Prop} (hT:s.TypeIs (.ref a) "tuple") (h:Q false s):wpAny (model prog w) A (Builtin.Dict.quietEq (.ref a)) Q E s:=by
  unfold Builtin.Dict.quietEq;exact wpAny_bind (wpAny_specialOf hT PySem.F.slot_tuple_eq.lookup (wpAny_pure h))
theorem sD {hs:List Int} (hn:hs.Nodup) (x:Int):(hs.filter fun y=>y == x).length≤1:=by
  have : (hs.filter fun y=>y == x).length=hs.count x:=by rw [List.count_eq_length_filter]
  rw [this];exact List.nodup_iff_count.mp hn x
theorem sH {id:String} {d:Addr} {o:Obj} {es:Array DictEntry} {ep:Nat} {Q:Array DictEntry→Shared→Prop} (ho:s.heap.get? d=some o) (hd:o.data=.dict es ep)
    (hk:∀ e∈es.toList,∃ a,e.key=.ref a∧s.TypeIs (.ref a) "tuple") (hn:(es.toList.map (·.hash)).Nodup) (h:Q es s) :
    wpAny (model prog w) A (Builtin.Dict.entriesForEmpty id d) Q E s:=by
  unfold Builtin.Dict.entriesForEmpty;refine wpAny_bind (wpAny_dictEntries ho hd ?_);refine wpAny_bind ?_;rw [← Array.forIn_toList];refine wpAny_forIn_list _ (fun rest r s'=>s'=s∧∀ e∈rest,e∈es.toList) _ ?_ ?_ _ _ ⟨rfl,fun _ z=>z⟩
  · rintro e rest r s' ⟨rfl,hr⟩;obtain ⟨a,ha,hT⟩:=hk e (hr e aat);rw [ha];refine wpAny_bind (lT hT ?_);have hl:¬ (es.filter (fun y=>y.hash == e.hash)).size > 1:=by
      have e1:(es.filter (fun y=>y.hash == e.hash)).size=((es.toList.map (·.hash)).filter fun y=>y == e.hash).length:=by
        rw [← aa8,Array.toList_filter,List.filter_map,aab];rfl
      rw [e1];have:=sD hn e.hash;lia
    simp only [Bool.not_false,if_true];rw [if_neg hl];exact wpAny_pure ⟨rfl,fun x hx=>hr x (aak _ hx)⟩
  · rintro r s' ⟨rfl,_⟩;exact wpAny_pure h
theorem xo {o:Addr} {xs:List EM} {Q:Value→Shared→Prop} (hoS:(o == sysModules)=false) (ho:DictM prog w s.heap o xs) (hsz:xs.length≤sizeLine) (hne:xs≠[]) (htup:∀ x∈xs,∃ ks,x.1=.tup ks) (hn:(xs.map fun x=>hM w x.1).Nodup)
    (h:∀ h',DictM prog w h' s.heap.objs.size xs→abg s.heap.objs.size (s.heap.push { cls:=.type "dict",data:=.dict #[] }) h'→Q (.ref s.heap.objs.size) { s with heap:=h' }) :
    wpAny (model prog w) A (call (.type "dict") [.ref o]) Q E s:=by
  refine callType_codes (Q₁:=fun obj s₁=>obj=.ref s.heap.objs.size∧s₁={ s with heap:=s.heap.push { cls:=.type "dict",data:=.dict #[] } }) F.kt_called_dict (F.kt_typeCall_dict_1 _) F.entry_dict_init (kt_code_dict_new _ ⟨rfl,rfl⟩) ?_;rintro obj s₁ ⟨rfl,rfl⟩;obtain ⟨oo,eso,epo,hoo,hco,hdo,heo,hio,hno⟩:=ho;have kp:∀ b u,s.heap.get? b=some u→(s.heap.push { cls:=.type "dict",data:=.dict #[] }).get? b=some u:=fun b u q=>aaf _ q;have hoo':=kp _ _ hoo;have hT:({ s with heap:=s.heap.push { cls:=.type "dict",data:=.dict #[] } }:Shared).TypeIs (.ref o) "dict":=⟨oo,hoo',hco.1⟩
  have hdo':s.heap.objs.size≠o:=fun e=>absurd (aaq hoo) (by rw [e];exact abH _);have hod:(s.heap.push { cls:=.type "dict",data:=.dict #[] }).get? s.heap.objs.size=some { cls:=.type "dict",data:=.dict #[] }:=aau _ rfl;have hTn:({ s with heap:=s.heap.push { cls:=.type "dict",data:=.dict #[] } }:Shared).TypeIs (.ref s.heap.objs.size) "dict":=⟨_,hod,rfl⟩
  refine ⟨hTn,F.args_dict_init_2 _ _,?_⟩;unfold Builtin.«dict.__init__»;refine wpAny_bind ?_;unfold Builtin.Dict.selfAndRest;refine wpAny_bind (wpAny_notOrdered_dict hTn ?_);show wpAny _ _ (pure (s.heap.objs.size,[Value.ref o])) _ _ _;refine wpAny_pure ?_;show wpAny _ _ (Builtin.Dict.updateFrom "dict.__init__" s.heap.objs.size (.ref o) [] .none) _ _ _;unfold Builtin.Dict.updateFrom;refine wpAny_bind (wpAny_typeOf hT ?_);rw [if_neg (by decide)];refine wpAny_bind ?_;unfold Builtin.Dict.merge;refine wpAny_bind ?_;unfold Builtin.Dict.readDirectly;refine wpAny_bind (wpAny_isInstance hT isSubtype_dict_dict ?_);simp only [Bool.not_true,aaL,if_false];refine wpAny_bind (wpAny_specialOf hT F.slot_dict_iter.lookup (wpAny_pure ?_));simp only [beq_self_eq_true,if_true];refine wpAny_bind (wpAny_pure ?_);unfold Builtin.Dict.mergeDict;rw [if_neg (by simpa using hdo')];unfold abr;rw [if_neg (by rw [hoS];exact aad)];refine wpAny_bind (wpAny_pure ?_);refine wpAny_bind (wpAny_dictEntries hoo' hdo ?_);dsimp only;have hmem:∀ e∈eso.toList,∃ x∈xs,e=cR w x:=fun e he=>by
    rw [heo] at he;obtain ⟨x,hx,rfl⟩:=aan.mp he;exact ⟨x,hx,rfl⟩
  have hkeys:∀ e∈eso.toList,∃ a,e.key=.ref a∧({ s with heap:=s.heap.push { cls:=.type "dict",data:=.dict #[] } }:Shared).TypeIs (.ref a) "tuple":=fun e he=>by
    obtain ⟨x,hx,rfl⟩:=hmem e he;obtain ⟨ks,ek⟩:=htup x hx;have:=hio x hx;rw [ek] at this;obtain ⟨a,e1,o1,its,n,g1,g2,_⟩:=this;exact ⟨a,e1,o1,kp _ _ g1,g2⟩
  have hsome:eso.size≠0:=by rw [cf heo];exact fun z=>hne (abl.mp z)
  have hfew:(decide (eso.size≤8) && eso.all fun e=>(keyPart e.key).isSome)=false:=by
    rw [Bool.and_eq_false_iff];right;rw [← Array.all_toList];rw [List.all_eq_false];have h0:0 < eso.toList.length:=by rw [aa8];lia
    refine ⟨eso.toList[0],abx h0,?_⟩;obtain ⟨a,ha,_⟩:=hkeys _ (abx h0);rw [ha];exact aad
  rw [hfew];simp only [Bool.not_false,if_true];refine wpAny_bind (wpAny_dictEntries hod rfl ?_);rw [if_pos (by rfl)];refine wpAny_bind (sH hoo' hdo hkeys (by rw [heo,aaR];exact hn) ?_);rw [if_pos (by simpa using hsome)];have hto:eso.size≤sizeLine+1:=by rw [cf heo];lia
  refine wpAny_bind (wpAny_updateDictKeysTo (es:=#[]) (ep:=0) hod rfl (wpAny_pure ?_) hto);show wpAny _ _ (Builtin.Dict.addKeywords s.heap.objs.size [] >>= _) _ _ _;have hsb:=aaW (s.heap.push { cls:=.type "dict",data:=.dict #[] }) s.heap.objs.size (Obj.mapDictKeys fun _=>eso);refine wpAny_bind (wpAny_pure (wpAny_pure ⟨rfl,h _ ⟨_,eso,0+1,abh _ hod rfl,⟨rfl,rfl,rfl⟩,rfl,heo,fun x hx=>?_,hno⟩ hsb⟩));exact ((hio x hx).kept kp).keeps hod rfl hsb
theorem ud {a b:Addr} {oa ob:Obj} {ea eb:Array DictEntry} {pa pb:Nat} {Q:Value→Shared→Prop} (ha:(a == sysModules)=false) (hb:(b == sysModules)=false) (hoa:s.heap.get? a=some oa) (hca:oa.ExactDict) (hda:oa.data=.dict ea pa)
    (hob:s.heap.get? b=some ob) (hcb:ob.ExactDict) (hdb:ob.data=.dict eb pb) (h0:eb.size=0) (hu:A.units < cLine) (h:Q (.bool (ea.size == 0)) s):wpAny (model prog w) A (compareOp .Eq (.ref a) (.ref b)) Q E s:=by
  have ta:s.TypeIs (.ref a) "dict":=⟨oa,hoa,hca.1⟩
  have tb:s.TypeIs (.ref b) "dict":=⟨ob,hob,hcb.1⟩
  refine wpAny_richCompare_same_room (op:=.Eq) ta tb PySem.F.slot_dict_eq (wpAny_call_entry PySem.F.slot_dict_eq ta PySem.F.entry_dict_eq ?_ (PySem.F.args_dict_eq_2 _ _)) hu;show wpAny _ _ (Builtin.Dict.dictSlotArgs "__eq__" ⟨[.ref a,.ref b],[]⟩ >>= _) _ _ s;refine wpAny_bind ?_;unfold Builtin.Dict.dictSlotArgs;refine wpAny_bind (wpAny_notOrdered_dict ta ?_);show wpAny _ _ (pure (Value.ref a,Value.ref b)) _ _ s;refine wpAny_pure ?_;refine wpAny_bind (wpAny_isInstance (T:="dict") tb PySem.F.sub_dict_dict ?_);simp only [Bool.not_true,aaL,if_false];refine wpAny_bind (wpAny_pure (wpAny_bind (wpAny_pure ?_)));refine wpAny_bind ?_;unfold Builtin.Dict.samePairs abr;rw [if_neg (show ¬ (a == sysModules)=true by rw [ha];exact aad),if_neg (show ¬ (b == sysModules)=true by rw [hb];exact aad)];refine wpAny_bind (wpAny_pure (wpAny_bind (wpAny_pure ?_)));refine wpAny_bind (wpAny_dictEntries hoa hda ?_);dsimp only;refine wpAny_bind (wpAny_dictEntries hob hdb ?_);rw [h0];by_cases c:ea.size=0
  · rw [c] at h ⊢;rw [if_neg (by simp)];refine wpAny_bind (wpAny_dictEpoch hoa hda ?_);refine wpAny_bind ?_;rw [Std.Legacy.Range.forIn_eq_forIn_range'];simp only [Std.Legacy.Range.size,Nat.sub_zero,Nat.add_sub_cancel,Nat.div_one];exact wpAny_pure (wpAny_pure (wpAny_pure ⟨_,rfl,(fun x=>nomatch x),by simpa using h⟩))
  · have e:(ea.size == 0)=false:=beq_eq_false_iff_ne.mpr c;rw [e] at h;rw [if_pos (by simpa using c)];exact wpAny_bind (wpAny_rule (wpAny_pure (wpAny_pure ⟨_,rfl,(fun x=>nomatch x),by simpa using h⟩)))
end
open PySem PySem.Spec PyProof.Rows
section
variable {X:Cx} {pins:List (Addr × Obj)} {σ:St} {H:Hp} {s:Shared}
theorem je {P:Program} {w:World} {h:Heap}:∀ {ks:List Key} {us:List Value},Vals (ks.map kV) us→∃ as,ReadsAll h us (ks.map mC) as∧sysModules∉as
  | [],_,r=>by rw [abG] at r;cases r;exact ⟨_,.nil,by simp⟩
  | k :: ks,_,r=>by
    rw [aae] at r;cases r with
    | cons h t =>
      obtain ⟨as,ra,na⟩:=je (P:=P) (w:=w) t;exact ⟨_,.cons (jT (P:=P) (w:=w) (oZ h)) ra,by simpa using na⟩
end
end L2
namespace L2
open PySem PySem.Spec PyProof.Rows PySem.SeqAt PySem.W
def ci (kvs:List KEn) (k:MK) (y v:V):List KEn:=if (kvs.any fun e=>decide (e.1=k))=true then kvs.map (fun e=>if e.1=k then (e.1,e.2.1,v) else e) else kvs++[(k,y,v)]
def dt (kvs:List KEn) (k:MK):List KEn:=kvs.filter fun e=>decide (e.1≠k)
def rdE (kvs:List KEn):List (MK × V):=kvs.map fun e=>(e.1,e.2.2)
theorem tq (kvs:List KEn) (k:MK) (y v:V):rdE (ci kvs k y v)=dQ (rdE kvs) k v:=by
  have ha:(kvs.any fun e=>decide (e.1=k))=((rdE kvs).any fun e=>decide (e.1=k)):=by unfold rdE;rw [List.any_map];rfl
  unfold ci dQ;rw [← ha];by_cases c:(kvs.any fun e=>decide (e.1=k))=true
  · rw [if_pos c,if_pos c];unfold rdE;rw [aaR,aaR];refine acn fun e _=>?_;show _=if e.1=k then (e.1,v) else (e.1,e.2.2)
    by_cases h:e.1=k
    · simp [h]
    · simp [h]
  · rw [if_neg c,if_neg c];unfold rdE;rw [aaH];rfl
theorem gi (kvs:List KEn):(rdE kvs).map (·.1)=kvs.map (·.1):=by unfold rdE;rw [aaR];rfl
theorem lW {kvs:List KEn} {k:MK} {y v:V} {e:KEn} (h:e∈ci kvs k y v):(∃ e0∈kvs,e.1=e0.1∧e.2.1=e0.2.1∧(e.2.2=e0.2.2∨e.2.2=v))∨e=(k,y,v):=by
  unfold ci at h;split at h
  · obtain ⟨e0,h0,rfl⟩:=aan.mp h;left;refine ⟨e0,h0,?_⟩;split
    · exact ⟨rfl,rfl,.inr rfl⟩
    · exact ⟨rfl,rfl,.inl rfl⟩
  · rcases aav.mp h with h|h
    · exact .inl ⟨e,h,rfl,rfl,.inl rfl⟩
    · exact .inr (aaM.mp h)
theorem di (kvs:List KEn) (k:MK) (y v:V):(ci kvs k y v).length≤kvs.length+1:=by
  unfold ci;split
  · rw [aab];lia
  · rw [aaj];exact aah _
theorem tF {kvs:List KEn} {k:MK} {y v:V} (h:(kvs.map (·.1)).Nodup):((ci kvs k y v).map (·.1)).Nodup:=by
  rw [← gi,tq];cases c:bB (rdE kvs) k with
  | none=>exact tT v (by rw [gi];exact h) c
  | some x =>
    have : ((dQ (rdE kvs) k v).map (·.1))=(rdE kvs).map (·.1):=by
      unfold dQ;rw [dJ,c];simp only [Option.isSome_some,if_true,aaR];refine acn fun e _=>?_;show (if e.1=k then (e.1,v) else e).1=e.1;split <;> rfl
    rw [this,gi];exact h
theorem sN {kvs:List KEn} {k:MK} (h:(kvs.map (·.1)).Nodup):((dt kvs k).map (·.1)).Nodup:=ab4 (List.filter_sublist.map _) h
theorem DmIn.to {w:World} {H:Hp} {a:Addr} {kvs ks:List KEn} (d:DmIn w H a kvs) (hk:∀ e∈ks,MkIn H e.1 e.2.1) (hn:(ks.map (·.1)).Nodup) (hl:ks.length≤1000):DmIn w (upd H a (dmX w a ks)) a ks :=
  ⟨ad,fun p hp=>(hk p hp).mono fun b xs e=>by rw [aq (uA e d.at_ (fun z=>nomatch z))];exact e,hn,hl⟩
theorem DmIn.put {w:World} {H:Hp} {a:Addr} {kvs:List KEn} {k:MK} {y:V} (v:V) (d:DmIn w H a kvs) (hk:MkIn H k y) (hl:kvs.length < 1000):DmIn w (upd H a (dmX w a (ci kvs k y v))) a (ci kvs k y v) :=
  d.to (fun e he=>by
    rcases lW he with ⟨e0,h0,e1,e2,_⟩|rfl
    · rw [e1,e2];exact d.keys _ h0
    · exact hk) (tF d.nd) (by have:=di kvs k y v;lia)
theorem DmIn.drop {w:World} {H:Hp} {a:Addr} {kvs:List KEn} (k:MK) (d:DmIn w H a kvs):DmIn w (upd H a (dmX w a (dt kvs k))) a (dt kvs k) :=
  d.to (fun e he=>d.keys _ (acu.mp he).1) (sN d.nd) (aaE (abu _ _) d.len)
theorem rO {kvs:List KEn} {xs:List EM} (r:KM kvs xs) (k:MK):RelO (bB (rdE kvs) k) (atM xs k):=by
  refine rj ?_ k;unfold rdE
  induction r with
  | nil=>exact .nil
  | cons h t ih=>exact .cons ⟨h.1,h.2.2⟩ ih
theorem tY {kvs:List KEn} {xs:List EM} (r:KM kvs xs) (k:MK) {v:V} {u:Value} (rv:RelV v u):KM (kvs.map fun e=>if e.1=k then (e.1,e.2.1,v) else e) (xs.map (io k u)):=by
  induction r with
  | nil=>exact .nil
  | @cons p q ps qs h t ih =>
    rw [aae,aae];refine .cons ?_ ih;unfold io;by_cases e:p.1=k
    · rw [if_pos e,if_pos (h.1.symm.trans e)];exact ⟨h.1,h.2.1,rv⟩
    · rw [if_neg e,if_neg (fun z=>e (h.1.trans z))];exact h
theorem vB {kvs:List KEn} {xs:List EM} (r:KM kvs xs) (k:MK) {y v:V} {key u:Value} (ry:RelV y key) (rv:RelV v u):KM (ci kvs k y v) (stM xs k key u):=by
  have e:(kvs.any fun e=>decide (e.1=k))=(atM xs k).isSome:=by
    rw [← (rO r k).isSome_eq,← dJ];unfold rdE;rw [List.any_map];rfl
  unfold ci stM;rw [e];by_cases q:(atM xs k).isSome=true
  · rw [if_pos q,if_pos q];exact tY r k rv
  · rw [if_neg q,if_neg q];exact Paired.snoc r ⟨rfl,ry,rv⟩
theorem t0 {kvs:List KEn} {xs:List EM} (r:KM kvs xs) (k:MK):KM (dt kvs k) (noM xs k):=by
  unfold dt noM
  induction r with
  | nil=>exact .nil
  | @cons p q ps qs h t ih =>
    rw [abX,abX];by_cases e:p.1=k
    · rw [if_neg (by simp [e]),if_neg (by simp [h.1.symm.trans e])];exact ih
    · rw [if_pos (by simp [e]),if_pos (by simpa using fun z=>e (h.1.trans z))];exact .cons h ih
theorem oe {P:Program} {w:World} {h:Heap} {H:Hp} {a:Addr} {kvs:List KEn} {xs:List EM} (r:KM kvs xs) (d:DictM P w h a xs):ObjOk P w H h a (dmX w a kvs):=by
  obtain ⟨o,es,ep,ho,hx,hd,he,_,_⟩:=d;refine ⟨⟨o,ho,hx,es,ep,hd,?_⟩,⟨o,ho⟩,fun h1 h2 ⟨o,e,q⟩ k=>⟨o,k _ e,q⟩⟩;rw [he];have : ∀ {l:List KEn} {m:List EM},KM l m→Paired (fun (p:KEn) (e:DictEntry)=>e.hash=hM w p.1∧RelV p.2.1 e.key∧RelV p.2.2 e.val) l (m.map (cR w)):=by
    intro l m q
    induction q with
    | nil=>exact .nil
    | @cons p q ps qs h t ih=>exact .cons ⟨by rw [h.1];rfl,h.2⟩ ih
  exact this r
def ww (w:World) (td ty tv:TE):TS:=fun D σ H=>tv σ H fun v H1=>td σ H1 fun x H2=>ty σ H2 fun y H3=>∃ a kvs k,x=.ref a∧DmIn w H3 a kvs∧MkIn H3 k y∧kvs.length < 1000∧D.nx σ (upd H3 a (dmX w a (ci kvs k y v)))
def v9 (w:World) (td ty:TE):TE:=fun σ H Q=>td σ H fun x H1=>∃ a es,x=.ref a∧Pd w H1 a es∧ty σ H1 fun y H2=>∃ kvs k v,DmIn w H2 a kvs∧MkIn H2 k y∧bB (rdE kvs) k=some v∧Q v (upd H2 a (dmX w a (dt kvs k)))
section
variable {X:Cx} {o i e f value:Expr} {pos pos' tpos apos cpos:Pos} {td ty tv tx:TE} {w:World}
theorem jS {pins:List (Addr × Obj)} {σ:St} {H:Hp} {s:Shared} {a:Addr} {kvs:List KEn} {k:MK} {y v:V} {u r:Value} {A:Around} {E:Value→Shared→Prop} {Q:Unit→Shared→Prop} (hu:A.units+1 < cLine) (I:Inv X pins σ H s) (d:DmIn X.w H a kvs) (hk:MkIn H k y) (hl:kvs.length < 1000) (ry:RelV y u) (rv:RelV v r) (h:∀ s',Inv X pins σ (upd H a (dmX X.w a (ci kvs k y v))) s'→Q () s') :
    wpAny (model X.prog X.w) A (setItem (.ref a) u r) Q E s:=by
  obtain ⟨xs,rel,dd⟩:=hU I d;have lx:=aaC rel;refine p_ hu (kX I hk ry) dd (fun h' dd' hs=>h _ ?_) (by rw [sizeLine_eq];lia);have he:∃ q,h'.get? a=some q:=let ⟨q,_,_,hq,_⟩:=dd';⟨q,hq⟩;exact iA I (by rw [d.at_];exact True.intro) hs he (oe (vB rel k ry rv) dd')
theorem gn (hw:X.w=w) (hu:X.A.units+1 < cLine) (ho:PE X o td) (hi:PE X i ty) (hv:PE X value tv) (hs:swapsWith value (some (.Subscript o i pos')) pos.line X.env=pure false) :
    PS X (.Assign [.Subscript o i pos'] value pos) (ww w td ty tv):=by
  subst hw;intro pins s σ H D I h;refine wpAny_Assign_Subscript (thn (hv pins s σ H _ I h) fun r s1 ⟨v,H1,I1,rv,q1⟩=>thn (ho pins s1 σ H1 _ I1 q1) fun u s2 ⟨x,H2,I2,rx,q2⟩=>thn (hi pins s2 σ H2 _ I2 q2) fun iv s3 ⟨y,H3,I3,ry,a,kvs,k,ex,d,hk,hl,q3⟩=>?_) hs;subst ex;obtain rfl:u=Value.ref a:=rx;exact jS hu I3 d hk hl ry rv fun s4 I4=>⟨σ,_,I4,q3⟩
theorem kG (hw:X.w=w) (hu:X.A.units+1 < cLine) (ho:PE X o td) (he:PE X e ty) (m:M1 X o "pop" apos e cpos):PE X (.Call (.Attribute o "pop" apos) [e] [] cpos) (v9 w td ty):=by
  subst hw;intro pins s σ H Q I h;refine wpAny_Call_method m.base m.few m.line acy PySem.F.slot_dict_pop PySem.F.type_dict_pop (thn (ho pins s σ H _ I h) fun u s1 ⟨x,H1,I1,rx,a,es,ex,d,q1⟩=>?_);subst ex;obtain rfl:u=Value.ref a:=rx;obtain ⟨t1,t2⟩:=oQ I1 d;refine ⟨t1,t2,?_⟩;rw [m.trees];refine abD rfl (Calls.evalArgs_plain (acs (thn (he pins s1 σ H1 _ I1 q1) fun iv s2 ⟨y,H2,I2,ry,kvs,k,v,dm,hk,l,q2⟩=>Calls.spliced_nil ?_)));obtain ⟨xs,rel,dd⟩:=hU I2 dm;have lx:=aaC rel;obtain ⟨w',hw,rw'⟩:=RelO.some_of (v:=v) (o:=atM xs k) (by rw [← l];exact rO rel k);refine wK hu (kX I2 hk ry) dd hw [] (.inl rfl) (fun h' dd' hs=>⟨v,_,?_,rw',q2⟩) (by rw [sizeLine_eq];have:=dm.len;lia);have he:∃ q,h'.get? a=some q:=let ⟨q,_,_,hq,_⟩:=dd';⟨q,hq⟩;exact iA I2 (by rw [dm.at_];exact True.intro) hs he (oe (t0 rel k) dd')
end
theorem jZ {X:Cx} {w:World} (hw:X.w=w):bQ X (.builtin "len") (fun xs H Q=>∃ a es,xs=[V.ref a]∧Pd w H a es∧Q (.int es.length) H):=by
  subst hw;intro pins s σ H xs us Q I r h;obtain ⟨a,es,rfl,ha,q⟩:=h;obtain ⟨u,rfl,ru⟩:=dI r;cases ru;obtain ⟨xs,rel,⟨o,en,ep,ho,c,dat,l,_,_⟩,hd,z⟩:=gU I ha;have hs:en.size=es.length:=by rw [cf l,← aaC rel]
  refine lj hd ho c dat (by rw [hs];rw [sizeLine_eq] at z;lia) ?_;rw [hs];exact ⟨.int es.length,H,I.tok _,⟨_,rfl⟩,q⟩
theorem vG {es:Array DictEntry} {ws:List Value} (hl:ws.length=es.size) (hw:∀ (j:Nat) (v:Value),ws[j]?=some v→∃ e,es[j]?=some e∧v=e.key):ws=es.toList.map (·.key):=by
  refine List.ext_getElem? fun i=>?_;by_cases hi:i < es.size
  · have hi':i < ws.length:=by lia
    obtain ⟨en,e2,e3⟩:=hw i _ (aac hi');have e4:es.toList[i]?=some en:=by rw [← e2];exact abE
    rw [aao,e4,aac hi',e3];rfl
  · rw [abF (by lia),abF (by rw [aab,aa8];lia)]
theorem on {X:Cx} {w:World} (hw:X.w=w) (hc:X.calm=true):bQ X (.type "list") (fun xs H Q=>∃ (dd:Addr) (kvs:List KEn),xs=[.ref dd]∧DmIn w H dd kvs∧∀ l:Addr,H l=none→Q (.ref l) (upd H l (.lst (kvs.map (·.2.1))))):=by
  subst hw;intro pins s σ H xs us Q I r h;obtain ⟨dd,kvs,rfl,hH,q⟩:=h;obtain ⟨u,rfl,ru⟩:=dI r;cases ru;obtain ⟨ys,rel,o,es,ep,ho,cx,dat,l,_,_⟩:=hU I hH;have hsz:es.size=kvs.length:=by rw [cf l,← aaC rel]
  have hl:=hH.len;refine PySem.W.kdl_call (pY (nO I hH.at_) cx dat) (I.ok.hd hc) ho (by rw [sizeLine_eq];lia) fun h' tk acc' c' kp e hi=>?_;have ea:acc'.toList=es.toList.map (·.key):=vG (by rw [aa8];exact hi.1) fun j v hv=>hi.2 j v (by rw [← abE];exact hv);have hV:Vals (kvs.map (·.2.1)) acc'.toList:=by
    rw [ea,l,aaR];have : ∀ {l:List KEn} {m:List EM},KM l m→Vals (l.map (·.2.1)) (m.map ((fun e:DictEntry=>e.key) ∘ cR X.w)):=by
      intro l m q
      induction q with
      | nil=>exact .nil
      | cons h t ih=>exact .cons h.2.1 ih
    exact this rel
  exact ⟨.ref s.heap.objs.size,_,I.laid (t':=tk) kp (aah _) (show ObjOk X.prog X.w _ h' _ (.lst (kvs.map (·.2.1))) from ⟨by rw [aab,sizeLine_eq];lia,acc'.toList,c',hV,by simpa using e⟩),rfl,q _ (I.hok.fresh (aah _))⟩
theorem sJ {H:Hp}:∀ {kvs:List (List Int × V)} {ys:List (List Key × Addr × Value)},KT H (kvs.map fun p=>(p.1.map Sum.inl,p.2)) ys→∃ ks:List KEn,rdE ks=(kvs.map fun p=>(MK.tup p.1,p.2))∧(∀ e∈ks,MkIn H e.1 e.2.1)∧ks.map (·.2.1)=ys.map fun y=>V.ref y.2.1
  | [],_,r=>by rw [abG] at r;cases r;exact ⟨[],rfl,(fun x hx=>nomatch hx),rfl⟩
  | p :: kvs,_,r=>by
    rw [aae] at r;cases r with
    | @cons _ q _ qs h t =>
      obtain ⟨ks,r1,r2,r3⟩:=sJ t;refine ⟨(.tup p.1,.ref q.2.1,p.2) :: ks,by unfold rdE at r1 ⊢;rw [aae,aae,r1],fun x hx=>?_,by rw [aae,aae,r3]⟩;rcases aai.mp hx with rfl|hx
      · exact ⟨q.2.1,_,rfl,h.2.1,by rw [aaR];exact BiL.ints p.1⟩
      · exact r2 x hx
theorem oq {X:Cx} {w:World} (hw:X.w=w) (hc:X.calm=true):bQ X (.type "dict") (fun xs H Q=>∃ (a:Addr) (kvs:List (List Int × V)),xs=[.ref a]∧H a=some (.dT (kvs.map fun p=>(p.1.map Sum.inl,p.2)))∧kvs≠[]∧(kvs.map fun p=>hM w (.tup p.1)).Nodup∧kvs.length≤1000 ∧
    ∀ (p:Addr) (ks:List KEn),H p=none→DmIn w (upd H p (dmX w p ks)) p ks→rdE ks=(kvs.map fun p=>(MK.tup p.1,p.2))→Q (.ref p) (upd H p (dmX w p ks))):=by
  subst hw;intro pins s σ H xs us Q I r h;obtain ⟨a,kvs,rfl,ha,hne,hn,hl,q⟩:=h;obtain ⟨u,rfl,ru⟩:=dI r;cases ru;obtain ⟨z,hd,ys,rel,o,es,ep,h1,h2,h3,h4,h5,h6⟩:=pC I.hok ha;obtain ⟨xs,r1,r2,r3,r4⟩:=sM (P:=X.prog) (w:=X.w) (h:=s.heap) (Paired.mapP rel fun _ _ z=>⟨z.1,z.2.2⟩) h5;obtain ⟨ks,k1,k2,k3⟩:=sJ rel;have nd:(xs.map (·.1)).Nodup:=by
    rw [r4];refine oB ?_;have e:∀ {l:List (List Key × V)} {m:List (List Key × Addr × Value)},KT H l m→m.map (·.1)=l.map (·.1):=by
      intro l m q
      induction q with
      | nil=>rfl
      | cons h t ih=>rw [aae,aae,ih,h.1]
    have : ys.map (·.1)=kvs.map fun p=>p.1.map (Sum.inl:Int→Key):=by rw [e rel,aaR];rfl
    rw [← this];exact h6
  have lx:=aaC r1;rw [aab] at lx;have dx:DictM X.prog X.w s.heap a xs:=⟨o,es,ep,h1,h2,h3,by rw [h4,r2],r3,nd⟩
  refine xo hd dx (by rw [sizeLine_eq];lia) (fun z=>hne (by rw [z] at lx;exact abl.mp lx)) (fun x hx=>?_) (by rw [show xs.map (fun x=>hM X.w x.1)=(xs.map (·.1)).map (hM X.w) by rw [aaR];rfl,r4,aaR];exact hn) fun h' dd' hs=>?_
  · have:=abo (f:=(·.1)) hx;rw [r4] at this;obtain ⟨p,_,e⟩:=aan.mp this;exact ⟨p.1,e.symm⟩
  have kk:ks.map (·.1)=xs.map (·.1):=by rw [← gi,k1,r4,aaR];rfl
  have rk:KM ks xs:=by
    have e1:xs.map (fun x=>x.2.1)=ys.map fun y=>Value.ref y.2.1:=by
      have:=congrArg (List.map fun e:DictEntry=>e.key) r2;rw [aaR,aaR] at this;exact this.symm
    have go:∀ {l:List KEn} {m:List EM} {n:List (List Key × Addr × Value)},l.map (·.1)=m.map (·.1)→l.map (·.2.1)=n.map (fun y=>V.ref y.2.1)→m.map (fun x=>x.2.1)=n.map (fun y=>Value.ref y.2.1)→PM (rdE l) m→KM l m:=by
      intro l
      induction l with
      | nil=>intro m n e _ _ _;cases m with
        | nil=>exact .nil
        | cons _ _=>simp at e
      | cons p l ih =>
        intro m n e e2 e3 pm;cases m with
        | nil=>simp at e
        | cons q m =>
          cases n with
          | nil=>simp at e2
          | cons y n =>
            rw [aae,aae] at e e2 e3;injection e with e' e
            injection e2 with e2' e2
            injection e3 with e3' e3
            cases pm with
            | cons ph pt=>exact .cons ⟨e',by rw [e2',e3'];rfl,ph.2⟩ (ih e e2 e3 pt)
    exact go kk k3 e1 (by rw [k1];exact r1)
  have np:=I.hok.fresh (aah s.heap.objs.size);refine ⟨.ref s.heap.objs.size,_,I.laid (a:=s.heap.objs.size) (o:=dmX X.w s.heap.objs.size ks) (t':=s.toks) (fun b q hq=>?_) (aah _) (oe rk dd'),rfl,q _ ks np ⟨ad,fun p hp=>(k2 p hp).mono fun b xs e=>by rw [aq (ao e np)];exact e,by rw [kk];exact nd,by have:=aaC rk;lia⟩ k1⟩;exact (hs.2 b (aaF (aaq hq))).trans (aaf _ hq)
def xU (w:World):R2:=fun x y H Q=>∃ a b kvs,x=.ref a∧y=.ref b∧DmIn w H a kvs∧H b=some (.dK [])∧Q (.bl (kvs.length == 0)) H
theorem vm {X:Cx} {w:World} (hw:X.w=w) (hu:X.A.units+64 < cLine):OpR X (compareOp .Eq) (xU w):=by
  subst hw;intro pins s σ H x y v u Q I rx ry h;obtain ⟨a,b,kvs,rfl,rfl,ha,hb,q⟩:=h;cases rx;cases ry;obtain ⟨xs,rel,o,es,ep,ho,cx,dat,l,_,_⟩:=hU I ha;have hsz:es.size=kvs.length:=by rw [cf l,← aaC rel]
  obtain ⟨_,hs,vs,r0,ob,eb,epb,h1,h2,h3,_,h4,_⟩:=pE I.hok hb;cases r0;have hz:eb.size=0:=by have:=h4.length;rw [aa8] at this;exact this
  refine ud (nO I ha.at_) hs ho cx dat h1 h2 h3 hz (by lia) ?_;rw [hsz];exact ⟨.bl _,H,I,rfl,q⟩
def TyP (w:World) (K:aaa) (H:Hp) (x:V) (t:Value):Prop:=TyOf K H x t∨∃ a es,x=.ref a∧Pd w H a es∧t=.type "dict"
theorem gB {X:Cx} {n:String} {w:World} {K:aaa} (hw:X.w=w) (hK:X.K=K):bQ X (.builtin "isinstance") (fun xs H Q=>∃ x t b,xs=[x,.ty n]∧TyP w K H x t∧abN K t (.type n)=some b∧Q (.bl b) H):=by
  subst hw hK;intro pins s σ H xs us Q I r h;obtain ⟨x,t,b,rfl,ty,e,q⟩:=h;obtain ⟨u,w',rfl,rx,rt⟩:=oA r;cases rt;rcases ty with ty|⟨a,es,rfl,d,rfl⟩
  · exact jV I rx ty e fun tk=>⟨.bl b,H,I.tok _,rfl,q⟩
  · cases rx;obtain ⟨xs,rel,⟨o,en,ep,ho,c,_⟩,_⟩:=gU I d;exact abc PySem.W.kitx_dict I.kIn ⟨_,ho,c.1⟩ e (fun z=>nomatch z) fun tk=>⟨.bl b,H,I.tok _,rfl,q⟩
end L2
namespace L2
open PySem PySem.Spec PyProof.Rows PySem.W
def Itw (d:Addr) (o:Obj) (u:HO) (vs:List V):It :=
  ⟨fun i H=>H d=some (.frz o u)∧i < vs.length,fun i H x H'=>H'=H∧vs[i]?=some x,fun i H=>H d=some (.frz o u)∧vs.length≤i⟩
theorem mQ {P:Program} {w:World} {K:aaa} {tg:Expr} (d it:Addr) (o:Obj) (u:HO) (vs:List V) (es:Array DictEntry) (ep:Nat) (hd:o.data=.dict es ep) (hv:Vals vs (es.toList.map fun e:DictEntry=>e.val)):Turn P w K tg (Itw d o u vs) [it] it (fun i h=>h.IsValIter it d i vs.length ep) where
  mem:=by simp
  obj:=fun i h st b hb=>by
    have e:b=it:=by simpa using hb
    subst e;obtain ⟨o,e,c,d⟩:=st;exact ⟨o,e,fun v z=>by rw [d] at z;cases z⟩
  keep:=fun i h h' st k=>by
    obtain ⟨o,e,r⟩:=st;exact ⟨o,k it (by simp) o e,r⟩
  item:=by
    intro X hP hw hK hc i pins s σ H E I hf st hg;subst hP hw hK;obtain ⟨e,hlt⟩:=hg;obtain ⟨ho,_⟩:=(show ObjOk X.prog X.w H s.heap d (.frz o u) from I.hok d _ e)
    have lv:vs.length=es.size:=by have:=hv.length;simpa using this
    obtain ⟨f0,f1,f2,f3,f4,f5⟩:=hf it (by simp);have hx:es[i]?=some es[i]:=ach (by lia);have hkv:vs[i]?=some vs[i]:=aac hlt;have hr:RelV vs[i] es[i].val:=by
      obtain ⟨u',h1,h2⟩:=Vals.get hv hkv;rw [aao,abE,hx] at h1;cases h1;exact h2
    refine rH st ho hd lv.symm (e:=es[i]) hx fun h' st' sb=>?_;have I1:Inv X pins σ H { s with heap:=h' }:=I.turned (t':=s.toks) (fun b o hb e=>(sb.2 b hb).trans e) f0 f1 f3 f4 f5;obtain ⟨oi,e1,c1,d1⟩:=id st';refine ⟨_,rfl,jX (s:={ s with heap:=h' }) e1 c1 d1 (by decide) ⟨vs[i],H,I1,hr,⟨rfl,hkv⟩,st',fun b hb=>(hf b hb).1⟩⟩
  done:=by
    intro X hP hw hK hc i pins s σ H E I hf st hg;subst hP hw hK;obtain ⟨e,hge⟩:=hg;obtain ⟨ho,_⟩:=(show ObjOk X.prog X.w H s.heap d (.frz o u) from I.hok d _ e)
    have lv:vs.length=es.size:=by have:=hv.length;simpa using this
    obtain ⟨f0,f1,f2,f3,f4,f5⟩:=hf it (by simp);exact qo (I.ok.hd hc) st ho hd lv.symm (by lia) fun h' eb=>⟨rfl,I.turned (t':=s.toks) (fun b o hb e=>eb b o hb e) f0 f1 f3 f4 f5⟩
  self:=fun _ _ _ _ _ st h=>wpAny_pyIter_valiter st h
def vI (w:World) (te:TE):TI:=fun σ H R=>te σ H fun x H1=>∃ d es u,x=.ref d∧Pd w H1 d es∧H1 d=some u∧∀ o,R (Itw d o u (es.map (·.2))) (upd H1 d (.frz o u))
theorem rn {X:Cx} {tg:Expr} {o:Expr} {to:TE} {apos cpos:Pos} {w:World} (hw:X.w=w) (ho:PE X o to)
    (hbase:attributeBase o "values" X.env (eval o X.env)=eval o X.env:=by rfl) (hline:(apos.endLine == cpos.line)=true:=by rfl):PI X tg (.Call (.Attribute o "values" apos) [] [] cpos) (vI w to):=by
  subst hw;intro pins s σ H R I h;refine wpAny_Call_method0_late hbase hline (thn (ho pins s σ H _ I h) fun v s1 ⟨x,H1,I1,r1,d,es,u,ex,hp,hu,q1⟩=>?_);subst ex;cases r1;obtain ⟨xs,rel,⟨ob,en,ep,g,c,dat,l,_,_⟩,hs,z⟩:=gU I1 hp;have hv:Vals (es.map (·.2)) (en.toList.map fun e:DictEntry=>e.val):=by
    rw [l,aaR];have : ∀ {l:List (MK × V)} {m:List EM},PM l m→Vals (l.map (·.2)) (m.map ((fun e:DictEntry=>e.val) ∘ cR X.w)):=by
      intro l m q
      induction q with
      | nil=>exact .nil
      | cons h t ih=>exact .cons h.2 ih
    exact this rel
  have lv:es.length=en.size:=by have:=hv.length;simpa using this
  have hn:(∀ ys,u≠.tup ys)∧(∀ ps,u≠.tbl ps)∧(∀ y,u≠.own y)∧∀ o v,u≠.frz o v:=by
    rcases hp with ⟨kvs,h,_⟩|⟨kvs,h,_⟩|⟨h,_⟩
    · rw [hu] at h;cases h;exact ⟨fun _ z=>(by cases z),fun _ z=>(by cases z),fun _ z=>(by cases z),fun _ _ z=>(by cases z)⟩
    · have h:=h.at_;rw [hu] at h;cases h;exact ⟨fun _ z=>(by cases z),fun _ z=>(by cases z),fun _ z=>(by cases z),fun _ _ z=>(by cases z)⟩
    · rw [hu] at h;cases h;exact ⟨fun _ z=>(by cases z),fun _ z=>(by cases z),fun _ z=>(by cases z),fun _ _ z=>(by cases z)⟩
  have nf:∀ o v,X.H₀ d≠some (.frz o v):=fun o v q=>by
    have z:=I1.base.frzs d o v q;rw [hu] at z;injection z with z;exact hn.2.2.2 _ _ z
  have I2:Inv X pins σ (upd H1 d (.frz ob u)) s1:=I1.retype hu hn.1 hn.2.1 hn.2.2.1 nf ⟨g,I1.hok d _ hu⟩;have q:=q1 ob;generalize hH2:upd H1 d (.frz ob u)=H2 at I2 q;have hT:s1.TypeIs (.ref d) "dict":=⟨ob,g,c.1⟩
  refine ⟨"dict","dict.values",acy,PySem.F.slot_dict_values,PySem.F.type_dict_values,hT,fun a e=>by cases e;exact ⟨ob,g,c.2.1⟩,abD rfl (PySem.evalArgs_none ?_)⟩;refine call_meetsIn PySem.F.slot_dict_values hT PySem.F.entry_dict_values (PySem.F.args_dict_values_1 _) (jG d hs) ⟨hT,?_⟩;have g1:(s1.heap.push { cls:=.type "dict_values",data:=.fields #[.ref d] }).get? d=some ob:=aaf _ g;refine qv (s:={ s1 with heap:=s1.heap.push { cls:=.type "dict_values",data:=.fields #[.ref d] } }) (v:=s1.heap.objs.size) (d:=d) ⟨_,aau _ rfl,rfl,rfl⟩ g1 dat ?_;have kp:∀ b o,s1.heap.get? b=some o→((s1.heap.push { cls:=.type "dict_values",data:=.fields #[.ref d] }).push { cls:=.type "dict_valueiterator",data:=.fields #[.ref d,.int 0 0,.int en.size 0,.int ep 0] }).get? b=some o:=fun b o e=>aaf _ (aaf _ e);have hsz2:(s1.heap.push { cls:=.type "dict_values",data:=.fields #[.ref d] }).objs.size=s1.heap.objs.size+1:=Heap.size_push _ _;refine ⟨(s1.heap.push { cls:=.type "dict_values",data:=.fields #[.ref d] }).objs.size,[(s1.heap.push { cls:=.type "dict_values",data:=.fields #[.ref d] }).objs.size],_,_,H2,rfl,I2.kept (t':=s1.toks) kp,mQ d _ ob u (es.map (·.2)) en ep dat hv,⟨_,aau _ rfl,rfl,by rw [aab,lv];rfl⟩,fun b hb=>?_,q⟩;have e:b=(s1.heap.push { cls:=.type "dict_values",data:=.fields #[.ref d] }).objs.size:=by simpa using hb
  have hb2:s1.heap.objs.size≤b:=by rw [e,hsz2];exact Nat.le_succ _
  exact I2.fpOk hb2 (I2.hok.fresh hb2)
theorem Trn.valsM {d:Addr} {o:Obj} {u:HO} {vs:List V}:Trn (Itw d o u vs) vs.length (fun H=>H d=some (.frz o u)) (fun i x H H'=>H'=H∧vs[i]?=some x) :=
  ⟨fun i H hi q=>⟨q,hi⟩,fun H q=>⟨q,aah _⟩,fun i H x H' hi q y=>y⟩
def Dx0 (w:World) (H:Hp) (d:PyData) (v:V):Prop:=Dat H d v ∨
  (∃ (a:Addr) (kvs:List (List Key × V)) (ds:List PyData),v=.ref a∧H a=some (.dT kvs)∧Paired (Dat H) ds (kvs.map (·.2))∧d=.dict ((kvs.map fun p=>.tuple (p.1.map mC)).zip ds)) ∨
  ∃ (a:Addr) (kvs:List KEn) (ks ds:List PyData),v=.ref a∧DmIn w H a kvs∧Paired (Dat H) ks (kvs.map (·.2.1))∧Paired (Dat H) ds (kvs.map (·.2.2))∧d=.dict (ks.zip ds)
def Dx1 (w:World) (H:Hp) (d:PyData) (v:V):Prop:=Dx0 w H d v∨∃ (a:Addr) (xs:List V) (ds:List PyData),v=.ref a∧Paired (Dx0 w H) ds xs∧((H a=some (.lst xs)∧d=.list ds)∨(H a=some (.tup xs)∧d=.tuple ds))
theorem Dx0.mono {w:World} {H H':Hp} (g:Same H H') {d:PyData} {v:V} (h:Dx0 w H d v):Dx0 w H' d v:=by
  have m:∀ {ds:List PyData} {vs:List V},Paired (Dat H) ds vs→Paired (Dat H') ds vs:=fun p=>Paired.mapP p fun d v z=>Dat.mono g d v z;rcases h with h|⟨a,kvs,ds,e,h1,h2,h3⟩|⟨a,kvs,ks,ds,e,h1,h2,h3,h4⟩
  · exact .inl (Dat.mono g d v h)
  · exact .inr (.inl ⟨a,kvs,ds,e,g _ _ h1,m h2,h3⟩)
  · exact .inr (.inr ⟨a,kvs,ks,ds,e,h1.mono g,m h2,m h3,h4⟩)
theorem Dx1.mono {w:World} {H H':Hp} (g:Same H H') {d:PyData} {v:V} (h:Dx1 w H d v):Dx1 w H' d v:=by
  rcases h with h|⟨a,xs,ds,e,h1,h2⟩
  · exact .inl (h.mono g)
  · exact .inr ⟨a,xs,ds,e,Paired.mapP h1 fun _ _ z=>z.mono g,h2.imp (fun ⟨x,y⟩=>⟨g _ _ x,y⟩) fun ⟨x,y⟩=>⟨g _ _ x,y⟩⟩
section
variable {X:Cx} {pins:List (Addr × Obj)} {σ:St} {H:Hp} {s:Shared}
theorem eO (I:Inv X pins σ H s):∀ {ds:List PyData} {vs:List V} {us:List Value},Paired (Dat H) ds vs→Vals vs us→∃ as,ReadsAll s.heap us ds as∧sysModules∉as
  | _,_,_,.nil,r=>by cases r;exact ⟨_,.nil,by simp⟩
  | _,_,_,.cons h t,r=>by
    cases r with
    | cons r1 r2 =>
      obtain ⟨as,ra,na⟩:=Dat.reads I _ _ _ h r1;obtain ⟨bs,rb,nb⟩:=eO I t r2;exact ⟨_,.cons ra rb,fun z=>(aav.mp z).elim na nb⟩
theorem kg:∀ {as bs:List PyData},as.length=bs.length→(as.zip bs).map (·.1)=as
  | [],[],_=>rfl
  | [],_ :: _,h=>by simp at h
  | _ :: _,[],h=>by simp at h
  | a :: as,b :: bs,h=>by simp only [ab5,aae,kg (aco h)]
theorem kf:∀ {as bs:List PyData},as.length=bs.length→(as.zip bs).map (·.2)=bs
  | [],[],_=>rfl
  | [],_ :: _,h=>by simp at h
  | _ :: _,[],h=>by simp at h
  | a :: as,b :: bs,h=>by simp only [ab5,aae,kf (aco h)]
theorem pI (I:Inv X pins σ H s):∀ {kvs:List (List Key × V)} {ys:List (List Key × Addr × Value)},KT H kvs ys→∃ as,ReadsAll s.heap (ys.map fun y=>Value.ref y.2.1) (kvs.map fun p=>PyData.tuple (p.1.map mC)) as∧sysModules∉as
  | _,_,.nil=>⟨_,.nil,by simp⟩
  | _,_,.cons (a:=p) (b:=q) h t=>by
    obtain ⟨its,rv,⟨o2,f1,f2,n,f3⟩,_⟩:=I.tuple (SqT.of h.2.1);obtain ⟨as,ra,na⟩:=je (P:=X.prog) (w:=X.w) (h:=s.heap) rv;obtain ⟨bs,rb,nb⟩:=pI I t;exact ⟨_,.cons (.tuple f1 f2 f3 (by simpa using ra)) rb,fun z=>(aav.mp z).elim na nb⟩
theorem Dx0.reads (I:Inv X pins σ H s) {d:PyData} {v:V} {u:Value} (h:Dx0 X.w H d v) (r:RelV v u):∃ as,Reads s.heap u d as∧sysModules∉as:=by
  rcases h with h|⟨a,kvs,ds,rfl,ha,hd,rfl⟩|⟨a,kvs,ks,ds,rfl,ha,hk,hd,rfl⟩
  · exact Dat.reads I d v u h r
  · cases r;obtain ⟨_,_,ys,rel,o,es,ep,e1,ex,e3,e4,_,_⟩:=pC I.hok ha;obtain ⟨as,ra,na⟩:=pI I rel;have hv:Vals (kvs.map (·.2)) (ys.map fun y=>y.2.2):=oz (P:=X.prog) (w:=X.w) rel;obtain ⟨bs,rb,nb⟩:=eO I hd hv;have ek:es.toList.map (·.key)=ys.map fun y=>Value.ref y.2.1:=by rw [e4,aaR];rfl
    have ev:es.toList.map (·.val)=ys.map fun y=>y.2.2:=by rw [e4,aaR];rfl
    have hl:(kvs.map fun p=>PyData.tuple (p.1.map mC)).length=ds.length:=by rw [aaC hd,aab,aab]
    refine ⟨_,.dict e1 ex.1 e3 (by rw [ek,kg hl];exact ra) (by rw [ev,kf hl];exact rb),fun z=>?_⟩;rcases aav.mp z with z|z
    · rcases aai.mp z with z|z
      · exact I.nosys ha z.symm
      · exact na z
    · exact nb z
  · cases r;obtain ⟨xs,rel,o,es,ep,e1,ex,e3,e4,_,_⟩:=hU I ha;have hvk:Vals (kvs.map (·.2.1)) (xs.map fun x=>x.2.1):=by
      have : ∀ {l:List KEn} {m:List EM},KM l m→Vals (l.map (·.2.1)) (m.map fun x=>x.2.1):=by
        intro l m q
        induction q with
        | nil=>exact .nil
        | cons h t ih=>exact .cons h.2.1 ih
      exact this rel
    have hvv:Vals (kvs.map (·.2.2)) (xs.map fun x=>x.2.2):=by
      have : ∀ {l:List KEn} {m:List EM},KM l m→Vals (l.map (·.2.2)) (m.map fun x=>x.2.2):=by
        intro l m q
        induction q with
        | nil=>exact .nil
        | cons h t ih=>exact .cons h.2.2 ih
      exact this rel
    obtain ⟨as,ra,na⟩:=eO I hk hvk;obtain ⟨bs,rb,nb⟩:=eO I hd hvv;have ek:es.toList.map (·.key)=xs.map fun x=>x.2.1:=by rw [e4,aaR];rfl
    have ev:es.toList.map (·.val)=xs.map fun x=>x.2.2:=by rw [e4,aaR];rfl
    have hl:ks.length=ds.length:=by rw [aaC hd,aaC hk,aab,aab]
    refine ⟨_,.dict e1 ex.1 e3 (by rw [ek,kg hl];exact ra) (by rw [ev,kf hl];exact rb),fun z=>?_⟩;rcases aav.mp z with z|z
    · rcases aai.mp z with z|z
      · exact I.nosys ha.at_ z.symm
      · exact na z
    · exact nb z
theorem gb (I:Inv X pins σ H s):∀ {ds:List PyData} {vs:List V} {us:List Value},Paired (Dx0 X.w H) ds vs→Vals vs us→∃ as,ReadsAll s.heap us ds as∧sysModules∉as
  | _,_,_,.nil,r=>by cases r;exact ⟨_,.nil,by simp⟩
  | _,_,_,.cons h t,r=>by
    cases r with
    | cons r1 r2 =>
      obtain ⟨as,ra,na⟩:=h.reads I r1;obtain ⟨bs,rb,nb⟩:=gb I t r2;exact ⟨_,.cons ra rb,fun z=>(aav.mp z).elim na nb⟩
theorem Dx1.reads (I:Inv X pins σ H s) {d:PyData} {v:V} {u:Value} (h:Dx1 X.w H d v) (r:RelV v u):∃ as,Reads s.heap u d as∧sysModules∉as:=by
  rcases h with h|⟨a,xs,ds,rfl,hp,⟨ha,rfl⟩|⟨ha,rfl⟩⟩
  · exact h.reads I r
  · cases r;obtain ⟨its,rv,⟨o,n,e1,e2,_,e3⟩,_⟩:=I.list (SqL.of ha);obtain ⟨as,ra,na⟩:=gb I hp rv;refine ⟨_,.list e1 e2 e3 (by simpa using ra),fun z=>?_⟩;rcases aai.mp z with z|z
    · exact I.nosys ha z.symm
    · exact na z
  · cases r;obtain ⟨its,rv,⟨o,e1,e2,n,e3⟩,_⟩:=I.tuple (SqT.of ha);obtain ⟨as,ra,na⟩:=gb I hp rv;exact ⟨_,.tuple e1 e2 e3 (by simpa using ra),na⟩
theorem jm (I:Inv X pins σ H s):∀ {ds:List PyData} {vs:List V} {us:List Value},Paired (Dx1 X.w H) ds vs→Vals vs us→∃ as,ReadsAll s.heap us ds as∧sysModules∉as
  | _,_,_,.nil,r=>by cases r;exact ⟨_,.nil,by simp⟩
  | _,_,_,.cons h t,r=>by
    cases r with
    | cons r1 r2 =>
      obtain ⟨as,ra,na⟩:=h.reads I r1;obtain ⟨bs,rb,nb⟩:=jm I t r2;exact ⟨_,.cons ra rb,fun z=>(aav.mp z).elim na nb⟩
theorem jp {w:World} (hw:X.w=w) (hg:X.A.guards=some []) (hu:X.A.units+64 < cLine):bQ X (.builtin "repr") (fun xs H Q=>∃ (L:Addr) (vs:List V) (ds:List PyData),xs=[.ref L]∧H L=some (.lst vs)∧Paired (Dx1 w H) ds vs∧(PyData.list ds).showable=true∧(PyData.list ds).depth≤60∧(PyData.list ds).shown.length≤sizeLine∧Q (.str (PyData.list ds).shown) H):=by
  subst hw;intro pins s σ H xs us Q I r h;obtain ⟨L,vs,ds,rfl,hL,hd,hs,hdp,hl,q⟩:=h;obtain ⟨u,rfl,ru⟩:=dI r;cases ru;obtain ⟨its,rv,⟨o,n,e1,e2,_,e3⟩,_⟩:=I.list (SqL.of hL);obtain ⟨as,ra,na⟩:=jm I hd rv;refine repr_of_reads' (.list e1 e2 e3 (by simpa using ra)) hs (fun _ z=>?_) hg (by lia) (fun _ _ e=>e) (fun h' u tk hk=>?_) hl
  · rcases aai.mp z with z|z
    · exact I.nosys hL z.symm
    · exact na z
  · exact ⟨.str _,H,I.kept hk,⟨u,rfl⟩,q⟩
end
end L2
namespace L2
open PySem PySem.Spec PyProof.Rows PySem.W
theorem mB (b:Bool) (i:Int) (t:Tok):Gives (Builtin.«int.__lt__» ⟨[.bool b,.int i t],[]⟩) (.val (Value.bool (decide ((if b=true then (1:Int) else 0) < i)))) :=
  .of_wp fun M A E s Q h=>by obtain ⟨hp,g,d,tk,os⟩:=s;wp_walk;exact ⟨_,rfl,h⟩
theorem mG (b:Bool) (i:Int) (t:Tok):Gives (Builtin.«int.__gt__» ⟨[.bool b,.int i t],[]⟩) (.val (Value.bool (decide ((if b=true then (1:Int) else 0) > i)))) :=
  .of_wp fun M A E s Q h=>by obtain ⟨hp,g,d,tk,os⟩:=s;wp_walk;exact ⟨_,rfl,h⟩
section
variable {A:Around} {E:Value→Shared→Prop} {s:Shared} {prog:Program} {w:World}
theorem yf {a b:Int} {u v:Value} {Q:Value→Shared→Prop} (hu:jr a u=true) (hv:jr b v=true) (h:Q (.bool (decide (a < b))) s):wpAny (model prog w) A (richCompare .Lt u v) Q E s:=by
  rcases bD hu with ⟨t,rfl⟩|⟨x,rfl,rfl⟩
  · rcases bD hv with ⟨t',rfl⟩|⟨y,rfl,rfl⟩
    · exact richCompare_gives (op:=.Lt) (typeIs_int s _ t) (typeIs_int s _ t') F.slot_int_lt F.entry_int_lt (F.args_int_lt_2 _ _) (gives_int_lt _ _ t t') (fun x=>nomatch x) h
    · exact SeqAt.rc_sub_first_or (op:=.Lt) (typeIs_int s a t) rfl (by decide) F.sub_bool_int F.slot_bool_gt_refl
        (call_gives F.slot_bool_gt_refl rfl F.entry_int_gt (F.args_int_gt_2 _ _) (mG y a t) ⟨nofun,h⟩) (.inl rfl)
  · rcases bD hv with ⟨t',rfl⟩|⟨y,rfl,rfl⟩
    · exact SeqAt.rc_left_or (op:=.Lt) rfl (typeIs_int s b t') (by decide) F.sub_int_bool F.slot_bool_lt
        (call_gives F.slot_bool_lt rfl F.entry_int_lt (F.args_int_lt_2 _ _) (mB x b t') ⟨nofun,h⟩) (.inl rfl)
    · exact richCompare_gives (op:=.Lt) (T:="bool") rfl rfl F.slot_bool_lt F.entry_int_lt (F.args_int_lt_2 _ _) (gives_int_lt_bools x y) (fun x=>nomatch x) h
theorem nQ {a b:Int} {u v:Value} {Q:Value→Shared→Prop} (hh:A.handled=none) (hu:jr a u=true) (hv:jr b v=true)
    (h:∀ h' tk,(∀ c o,s.heap.get? c=some o→h'.get? c=some o)→Q (if b < a then v else u) { s with heap:=h',toks:=tk }) :
    wpAny (model prog w) A (call (.builtin "min") [u,v]) Q E s:=by
  have hT:(s.heap.push { cls:=.type "tuple",data:=.seq #[u,v] }).IsTuple s.heap.objs.size #[u,v]:=⟨_,aau _ rfl,rfl,0,rfl⟩
  refine call_min_two (wpAny_pyIter_tuple hT ?_);have hsz:(s.heap.push { cls:=.type "tuple",data:=.seq #[u,v] }).objs.size=s.heap.objs.size+1:=Heap.size_push ..;have hcmp:CmpOf prog w A.in1 .Lt (fun i x=>(#[u,v]:Array Value)[i]?=some x) (fun i j=>decide ((if i=0 then a else b) < (if j=0 then a else b))):=fun i j vi vj s' Q E hi hj h=>by
    have key:∀ (i:Nat) (x:Value),(#[u,v]:Array Value)[i]?=some x→jr (if i=0 then a else b) x=true:=fun i x hx=>by
      match i,hx with
      | 0,hx=>cases hx;exact hu
      | 1,hx=>cases hx;exact hv
      | _+2,hx=>cases hx
    exact yf (key i vi hi) (key j vj hj) h
  refine ⟨_,[_,s.heap.objs.size],[_],_,_,_,_,rfl,Walks.tuple (A:=A.in1) hh _ s.heap.objs.size (by rw [hsz];exact aaF (ack _)) #[u,v],
    ⟨⟨_,aau _ rfl,rfl,rfl⟩,hT.push _⟩,fun c hc=>?_,by simp,hcmp,fun x h' tk hP hk=>?_⟩
  · show c < ((s.heap.push _).push _).objs.size;rw [Heap.size_push,hsz];rcases aai.mp hc with rfl|hc
    · rw [hsz];exact ack _
    · rcases aai.mp hc with rfl|hc
      · exact Nat.lt_succ_of_lt (ack _)
      · cases hc
  · have hold:∀ c o,s.heap.get? c=some o→h'.get? c=some o:=fun c o e=>by
      refine hk c o (fun hm=>?_) (aaf _ (aaf _ e));rcases aai.mp hm with e1|hm
      · have:=aaq e;rw [e1,hsz] at this;exact abH _ (Nat.lt_of_succ_lt this)
      · cases hm
    have:=h h' tk hold;have hx:x=if b < a then v else u:=by
      have hP':(#[u,v]:Array Value)[argBest (fun i j=>decide ((if i=0 then a else b) < (if j=0 then a else b))) 1]?=some x:=hP;by_cases hba:b < a
      · have e:argBest (fun i j=>decide ((if i=0 then a else b) < (if j=0 then a else b))) 1=1:=by simp [argBest,hba]
        rw [e] at hP';rw [if_pos hba];cases hP';rfl
      · have e:argBest (fun i j=>decide ((if i=0 then a else b) < (if j=0 then a else b))) 1=0:=by simp [argBest,hba]
        rw [e] at hP';rw [if_neg hba];cases hP';rfl
    rw [hx];exact this
theorem jH {l:Addr} {items:Array Value} {b:Bool} {x:Value} {Q:Value→Shared→Prop} (hl:s.heap.IsList l items)
    (hx:items[(bI b).toNat]?=some x) (h:Q x s):wpAny (model prog w) A (getItem (.ref l) (.bool b)) Q E s:=by
  obtain ⟨o,ho,hc,ne,hd⟩:=id hl;unfold getItem
  try with_reducible refine wpAny_holding ?_
  first|refine wpAny_bind (wpAny_pure ?_)|skip
  refine wpAny_bind (wpAny_sequenceKey hl.typeIs (by decide) ?_);refine wpAny_bind (wpAny_callSpecial?_slot (name:=abi "__getitem__") hl.typeIs slot_list_getitem
    (wpAny_call_entry slot_list_getitem hl.typeIs entry_list_getitem ?_ (args_list_getitem _ _)))
  show wpAny _ _ (Builtin.List.listSubscript? (.bool b) >>= _) _ _ s;refine wpAny_bind ?_;unfold Builtin.List.listSubscript?;refine wpAny_bind (wpAny_specialOf (T:="bool") rfl F.slot_bool_index.lookup ?_);show wpAny _ _ (asIndex (.bool b) >>= _) _ E s;refine wpAny_bind (wpAny_of_eq (a:=bI b) (by cases b <;> rfl) ?_);rw [if_neg (by cases b <;> decide)];refine wpAny_pure ?_;have e:bI b=(((bI b).toNat:Nat):Int):=by cases b <;> rfl
  generalize (bI b).toNat=j at hx e;rw [e];show wpAny _ _ ((seqItemAt l j >>= fun r=>pure (r.map (j,·))) >>= _) _ _ s;refine wpAny_bind (wpAny_bind (wpAny_seqItemAt ho hd (wpAny_pure ?_)));rw [hx]
  first
    | exact wpAny_bind (wpAny_pure (wpAny_pure ⟨x,rfl,wpAny_pure h⟩))
    | exact wpAny_pure ⟨x,rfl,wpAny_pure h⟩
end
def BiV (k:Int) (x:V):Prop:=x=.int k∨∃ b,x=.bl b∧k=bI b
theorem BiV.raw {k:Int} {x:V} {u:Value} (h:BiV k x) (r:RelV x u):jr k u=true:=by
  rcases h with rfl|⟨b,rfl,rfl⟩
  · obtain ⟨t,rfl⟩:=r;exact beq_self_eq_true _
  · cases r;exact beq_self_eq_true _
theorem ol {X:Cx} (hc:X.calm=true):bQ X (.builtin "min") (fun xs H Q=>∃ x y i j,xs=[x,y]∧BiV i x∧BiV j y∧Q (if j < i then y else x) H):=by
  intro pins s σ H xs us Q I r h;obtain ⟨x,y,i,j,rfl,hx,hy,q⟩:=h;obtain ⟨u,w',rfl,rx,ry⟩:=oA r;refine nQ (I.ok.hd hc) (hx.raw rx) (hy.raw ry) fun h' tk k=>⟨_,H,I.kept k,?_,q⟩
  by_cases hj:j < i
  · rw [if_pos hj,if_pos hj];exact ry
  · rw [if_neg hj,if_neg hj];exact rx
def xT (K:aaa):R2:=fun x y H Q=>∃ p xs i v,x=.ref p∧BiV i y∧SqL K H p xs∧xs[i.toNat]?=some v∧0≤i∧Q v H
theorem rQ {X:Cx} {K:aaa} (hK:X.K=K):IxR X (xT K):=by
  subst hK;intro value slice pins s σ H x y v u Q I rx ry h hs;obtain ⟨p,xs,i,z,rfl,hy,hq,he,h0,q⟩:=h;cases rx;obtain ⟨its,r,pl,hz⟩:=I.list hq;obtain ⟨w,ew,rw'⟩:=r.get he;have hl:=r.length;have hn:=g8;have fin:EP X pins σ Q w s:=⟨z,H,I,rw',q⟩
  have hi:i.toNat < xs.length:=(aaT.mp he).1;rcases hy with rfl|⟨b,rfl,rfl⟩
  · obtain ⟨t,rfl⟩:=ry;exact item_listR pl.isList h0 (by lia) (by simpa using ew) fin hs
  · cases ry;exact subscriptTail_builtinR (x:=w) pl.isList.typeIs slot_list_getitem.lookup (jH (Q:=fun r s'=>r=w∧EP X pins σ Q r s') pl.isList (by simpa using ew) ⟨rfl,fin⟩) hs
def wz (w:World):um:=fun o i v H Q=>∃ a kvs k,o=.ref a∧DmIn w H a kvs∧MkIn H k i∧kvs.length < 1000∧Q (upd H a (dmX w a (ci kvs k i v)))
theorem oM {X:Cx} {w:World} (hw:X.w=w) (hu:X.A.units+1 < cLine):vP X (wz w):=by
  subst hw;intro pins s σ H o i v ov iv u Q I ro ri rv h;obtain ⟨a,kvs,k,rfl,d,hk,hl,q⟩:=h;cases ro;exact jS hu I d hk hl ri rv fun s4 I4=>⟨_,I4,q⟩
open PySem PySem.Spec PyProof.Rows
variable {X:Cx} {pins:List Value} {s:Shared} {σ:St} {H:Hp}
theorem qG (hg:X.A.guards=some []) (hu:X.A.units+64 < cLine):bQ X (.type "str") (fun xs H Q=>∃ x d,xs=[x]∧Dat H d x∧((∃ i,d=.int i)∨∃ ds,d=.tuple ds)∧d.showable=true∧d.depth≤60∧d.shown.length≤sizeLine∧Q (.str d.shown) H):=by
  intro pins s σ H xs us Q I r h;obtain ⟨x,d,rfl,hd,hk,hs,hdp,hl,q⟩:=h;obtain ⟨u,rfl,ru⟩:=dI r;rcases hk with ⟨i,rfl⟩|⟨ds,rfl⟩
  · simp only [Dat] at hd;subst hd;obtain ⟨t,rfl⟩:=ru;rw [PyData.shown_int] at q;exact PySem.P.str_of_int (by simpa [abC] using hs) ⟨.str _,H,I.tok _,⟨_,rfl⟩,q⟩
  · have hd':=hd;simp only [Dat] at hd';obtain ⟨a,ys,rfl,_⟩:=hd';cases ru;obtain ⟨as,ra,na⟩:=Dat.reads I _ _ _ hd rfl;refine str_of_reads ra hs (fun _=>na) hg (by lia) (fun _ _ e=>e) (fun h' u tk hk=>?_) hl;exact ⟨.str _,H,I.kept hk,⟨u,rfl⟩,q⟩
open PySem PySem.Spec PyProof.Rows
section
variable {X:Cx} {a b c d:Expr} {ta tb tc td:TE} {pos:Pos}
theorem qe {op op' op'':CmpOp} {r r' r'':R2} (ho:OpR X (compareOp op) r) (ho':OpR X (compareOp op') r') (ho'':OpR X (compareOp op'') r'') (ha:PE X a ta) (hb:PE X b tb) (hc:PE X c tc) (hd:PE X d td)
    (hm:lastMarks [op,op',op''] [b,c,d]=false:=by with_unfolding_all rfl):PT X (.Compare a [op,op',op''] [b,c,d] pos) (qP (tf r r' r'' ta tb tc td)):=by
  intro pins s σ H Q I h;refine isTrue_chain (thn (ha pins s σ H _ I h) fun v s1 ⟨x,H1,I1,r1,q1⟩=>test_link (thn (hb pins s1 σ H1 _ I1 q1) fun u s2 ⟨y,H2,I2,r2,q2⟩ =>
    thn (ho pins s2 σ H2 x y v u _ I2 r1 r2 q2) fun d s3 ⟨z,H3,I3,r3,k,e,q3⟩=>?_)) hm
  subst e;cases r3;refine wpAny_truthy_bool ?_;cases k with
  | false =>
    obtain ⟨k',e',q'⟩:=q3;cases e';exact ite_ff ⟨H3,I3,q'⟩
  | true =>
    refine ite_tt (test_link (thn (hc pins s3 σ H3 _ I3 q3) fun w' s4 ⟨z',H4,I4,r4,q4⟩=>thn (ho' pins s4 σ H4 y z' u w' _ I4 r2 r4 q4) fun d' s5 ⟨z2,H5,I5,r5,k2,e2,q5⟩=>?_));subst e2;cases r5;refine wpAny_truthy_bool ?_;cases k2 with
    | false =>
      obtain ⟨k',e',q'⟩:=q5;cases e';exact ite_ff ⟨H5,I5,q'⟩
    | true =>
      refine ite_tt (test_last (thn (hd pins s5 σ H5 _ I5 q5) fun w3 s6 ⟨z3,H6,I6,r6,q6⟩=>thn (ho'' pins s6 σ H6 z' z3 w' w3 _ I6 r4 r6 q6) fun d' s7 ⟨z4,H7,I7,r7,k3,e3,q7⟩=>?_));subst e3;cases r7;exact wpAny_truthy_bool ⟨H7,I7,q7⟩
end
open PySem PySem.Spec PyProof.Rows
theorem qA {X:Cx} {pins:List (Addr × Obj)} {σ:St} {H:Hp} {s:Shared} (I:Inv X pins σ H s) {d:PyData}:∀ {ds:List PyData} {us:List V} {its:List Value},Paired (Dat H) ds us→Vals us its→(∀ e∈ds,e.canLay0=true) →
    ∃ f:Value→Bool,(∀ y∈its,∃ e∈ds,∃ as,Reads s.heap y e as∧f y=aaI e d)∧its.any f=ds.any (fun e=>aaI e d):=by
  classical
  intro ds us its h r hl;refine ⟨fun y=>decide (∃ e as,Reads s.heap y e as∧e.canLay0=true∧aaI e d=true),?_⟩;have one:∀ {e:PyData} {y:Value} {as:List Addr},Reads s.heap y e as→e.canLay0=true→decide (∃ e as,Reads s.heap y e as∧e.canLay0=true∧aaI e d=true)=aaI e d:=fun {e y as} ra c=>by
    cases q:aaI e d with
    | true=>exact decide_eq_true ⟨e,as,ra,c,q⟩
    | false =>
      refine decide_eq_false ?_;rintro ⟨e',as',ra',c',q'⟩;rw [PySem.SeqAt.Reads.unique e e' y as as' c ra ra',q'] at q;cases q
  induction h generalizing its with
  | nil=>cases r;exact ⟨(fun y hy=>nomatch hy),rfl⟩
  | @cons e v ds us he _ ih =>
    cases r with
    | cons rv rt =>
      obtain ⟨as,ra,_⟩:=Dat.reads I e v _ he rv;obtain ⟨h1,h2⟩:=ih rt fun e he=>hl e (aak _ he);have o:=one ra (hl e aat);refine ⟨fun y hy=>?_,?_⟩
      · rcases aai.mp hy with rfl|hy
        · exact ⟨e,aat,as,ra,o⟩
        · obtain ⟨e',m,r⟩:=h1 y hy;exact ⟨e',aak _ m,r⟩
      · rw [acf,acf,h2,o]
def wI (K:aaa) (neg:Bool):R2:=fun x y H Q=>∃ (d:PyData) (l:Addr) (us:List V) (ds:List PyData),Dat H d x∧y=.ref l∧SqL K H l us∧Paired (Dat H) ds us∧d.canLay0=true∧d.depth≤40∧(∀ e∈ds,e.canLay0=true)∧Q (.bl (if neg then !(ds.any fun e=>aaI e d) else ds.any fun e=>aaI e d)) H
theorem qi {X:Cx} {K:aaa} (hK:X.K=K) (hu:X.A.units+64 < cLine):OpR X (compareOp .NotIn) (wI K true):=by
  subst hK;intro pins s σ H x y v u Q I rx ry h;obtain ⟨d,l,us,ds,hd,rfl,hq,hds,cd,dd,hl,q⟩:=h;cases ry;obtain ⟨its,r,pl,hz⟩:=I.list hq;obtain ⟨bs,rb,_⟩:=Dat.reads I d x _ hd rx;obtain ⟨f,hf,ha⟩:=qA (d:=d) I hds r hl;refine PySem.SeqAt.notIn_listAt f pl.isList (fun w hw=>?_) ⟨.bl _,H,I,rfl,?_⟩
  · obtain ⟨e,me,as,ra,e2⟩:=hf w (by simpa using hw);rw [e2];exact PySem.SeqAt.eqAt_reads e d _ s w _ as bs ra rb (hl e me) cd (by show X.A.units+1+min e.depth d.depth < cLine;lia)
  · rw [show its.toArray.any f=its.any f by simp,ha];exact q
end L2
namespace L2
open PySem PySem.Spec PyProof.Rows PySem.SeqAt
theorem ft (b:Int) (u:Tok) (l:Addr) (c:Value) (es:Array DictEntry) (n:Nat) (dd:Option Addr) (sl:Array (Option Value)) :
    Meets (Builtin.«int.__eq__» ⟨[.int b u,.ref l],[]⟩) (fun _ R s=>s.heap.get? l=some { cls:=c,dict:=dd,data:=.dict es n,slots:=sl }∧R (.ok (.ret .notImplemented)) s) :=
  .of_wp fun prog w A R s h=>by obtain ⟨hp,g,d,tk,os⟩:=s;obtain ⟨hl,h⟩:=h;wp_walk using wpAny_loadPart' hl,wpAny_load hl;exact ⟨_,rfl,h⟩
theorem fu (l:Addr) (es:Array DictEntry) (n:Nat) (dd:Option Addr) (sl:Array (Option Value)) (b:Int) (u:Tok) :
    Meets (Builtin.«dict.__eq__» ⟨[.ref l,.int b u],[]⟩) (fun _ R s=>s.heap.get? l=some { cls:=.type "dict",dict:=dd,data:=.dict es n,slots:=sl }∧R (.ok (.ret .notImplemented)) s) :=
  .of_wp fun prog w A R s h=>by obtain ⟨hp,g,d,tk,os⟩:=s;obtain ⟨hl,h⟩:=h;have f1:=F.sub_int_dict;wp_walk using wpAny_loadPart' hl;exact ⟨_,rfl,h⟩
theorem dW (l b:Addr) (items:Array Value) (es:Array DictEntry) (n n2:Nat) (dd dd2:Option Addr) (sl sl2:Array (Option Value)) :
    Meets (Builtin.«tuple.__eq__» ⟨[.ref l,.ref b],[]⟩) (fun _ R s=>s.heap.get? l=some { cls:=.type "tuple",dict:=dd,data:=.seq items n,slots:=sl }∧s.heap.get? b=some { cls:=.type "dict",dict:=dd2,data:=.dict es n2,slots:=sl2 }∧R (.ok (.ret .notImplemented)) s) :=
  .of_wp fun prog w A R s h=>by obtain ⟨hp,g,d,tk,os⟩:=s;obtain ⟨hl,hb,h⟩:=h;have f1:=F.sub_dict_tuple;wp_walk using wpAny_loadPart' hl,wpAny_loadPart' hb;exact ⟨_,rfl,h⟩
theorem eM (l b:Addr) (items:Array Value) (es:Array DictEntry) (n n2:Nat) (dd dd2:Option Addr) (sl sl2:Array (Option Value)) :
    Meets (Builtin.«dict.__eq__» ⟨[.ref l,.ref b],[]⟩) (fun _ R s=>s.heap.get? l=some { cls:=.type "dict",dict:=dd,data:=.dict es n,slots:=sl }∧s.heap.get? b=some { cls:=.type "tuple",dict:=dd2,data:=.seq items n2,slots:=sl2 }∧R (.ok (.ret .notImplemented)) s) :=
  .of_wp fun prog w A R s h=>by obtain ⟨hp,g,d,tk,os⟩:=s;obtain ⟨hl,hb,h⟩:=h;have f1:=F.sub_tuple_dict;wp_walk using wpAny_loadPart' hl,wpAny_loadPart' hb;exact ⟨_,rfl,h⟩
section
variable {A:Around} {s:Shared} {l:Addr} {o:Obj} {es:Array DictEntry} {ep:Nat}
theorem jI (b:Int) (u:Tok) (ho:s.heap.get? l=some o) (hc:o.cls=.type "dict") (hd:o.data=.dict es ep) (hu:A.units < cLine):EqAt A s (.int b u) (.ref l) false:=fun prog w E Q h=>by
  unfold eqBool;refine wpAny_holding ?_;refine wpAny_ite_split (fun hab=>absurd (eq_of_beq hab) nofun) (fun _=>?_);obtain ⟨cls,dd,data,sl⟩:=o;simp only at hc hd;subst hc hd;exact wpAny_bind (rc_eq_decline_or (k:=false) (typeIs_int s b u) ⟨_,ho,rfl⟩ (by decide) F.sub_dict_int F.slot_int_eq acl
    (fun _ hq=>call_meets F.slot_int_eq (typeIs_int s b u) F.entry_int_eq (F.args_int_eq_2 _ _) (ft b u l (.type "dict") es ep dd sl) ⟨ho,hq⟩)
    (fun _ hq=>call_meets acl ⟨_,ho,rfl⟩ F.entry_dict_eq (F.args_dict_eq_2 _ _) (fu l es ep dd sl b u) ⟨ho,hq⟩)
    (fun _ hq=>wpAny_of_eq (rfl:isSame (.int b u) (.ref l)=pure false) hq) (.inr hu) (wpAny_truthy_bool h))
theorem iu {t:Addr} {items:Array Value} (ht:s.heap.IsTuple t items) (ho:s.heap.get? l=some o) (hc:o.cls=.type "dict") (hd:o.data=.dict es ep) (hu:A.units < cLine):EqAt A s (.ref t) (.ref l) false:=by
  obtain ⟨⟨cls2,dd2,data2,sl2⟩,ho2,hc2,n2,hd2⟩:=id ht;simp only at hc2 hd2;subst hc2 hd2;obtain ⟨cls,dd,data,sl⟩:=o;simp only at hc hd;subst hc hd;have hne:t≠l:=fun e=>by
    rw [e,ho] at ho2;injection ho2 with ho2
    injection ho2 with z
    exact absurd z (by simp)
  refine .of_refs hne fun prog w E Q h=>?_;exact (rc_eq_decline_or (k:=false) ⟨_,ho2,rfl⟩ ⟨_,ho,rfl⟩ (by decide) F.sub_dict_tuple F.slot_tuple_eq acl
    (fun _ hq=>call_meets F.slot_tuple_eq ⟨_,ho2,rfl⟩ F.entry_tuple_eq (F.args_tuple_eq_2 _ _) (dW t l items es n2 ep dd2 dd sl2 sl) ⟨ho2,ho,hq⟩)
    (fun _ hq=>call_meets acl ⟨_,ho,rfl⟩ F.entry_dict_eq (F.args_dict_eq_2 _ _) (eM l t items es ep n2 dd dd2 sl sl2) ⟨ho,ho2,hq⟩)
    (fun _ hq=>wpAny_isSame_ref_other' hne ho2 ho (by simp) hq) (.inr hu) h)
end
def wW:PyData→Bool
  | .int _=>true
  | .tuple _=>true
  | _=>false
def tu (K:aaa):R2:=fun x y H Q=>wI K true x y H Q∨∃ (a l:Addr) (us:List V) (ds:List PyData),x=.ref a∧H a=some (.dK [])∧y=.ref l∧SqL K H l us∧Paired (Dat H) ds us∧(∀ e∈ds,wW e=true)∧Q (.bl true) H
theorem t6 {X:Cx} {pins:List (Addr × Obj)} {σ:St} {H:Hp} {s:Shared} (I:Inv X pins σ H s):∀ {ds:List PyData} {us:List V} {its:List Value},Paired (Dat H) ds us→Vals us its→(∀ e∈ds,wW e=true)→∀ y∈its,(∃ i t,y=.int i t)∨∃ a xs,y=.ref a∧s.heap.IsTuple a xs:=by
  intro ds us its h r hl
  induction h generalizing its with
  | nil=>cases r;exact fun y hy=>nomatch hy
  | @cons e v ds us he _ ih =>
    cases r with
    | cons rv rt =>
      intro y hy;rcases aai.mp hy with rfl|hy
      · have:=hl e aat;cases e with
        | int i =>
          simp only [Dat] at he;subst he;obtain ⟨t,rfl⟩:=rv;exact .inl ⟨i,t,rfl⟩
        | tuple ds =>
          simp only [Dat] at he;obtain ⟨a,xs,rfl,ha,_⟩:=he;cases rv;obtain ⟨its,_,⟨o,e1,e2,n,e3⟩,_⟩:=I.tuple (SqT.of ha);exact .inr ⟨a,_,rfl,⟨o,e1,e2,n,e3⟩⟩
        | none=>cases this
        | bool _=>cases this
        | str _=>cases this
        | list _=>cases this
        | dict _=>cases this
      · exact ih rt (fun e he=>hl e (aak _ he)) y hy
theorem qh {X:Cx} {K:aaa} (hK:X.K=K) (hu:X.A.units+64 < cLine):OpR X (compareOp .NotIn) (tu K):=by
  intro pins s σ H x y v u Q I rx ry h;rcases h with h|⟨a,l,us,ds,rfl,ha,rfl,hq,hds,hl,q⟩
  · exact qi hK hu pins s σ H x y v u Q I rx ry h
  subst hK;cases ry;cases rx;obtain ⟨its,r,pl,hz⟩:=I.list hq;have hf:=t6 I hds r hl;obtain ⟨xs,rel,⟨ob,en,ep,g,c,dat,_⟩,_⟩:=gU I (a:=a) (es:=[]) (.inr (.inr ⟨ha,rfl⟩));refine notIn_listAt (fun _=>false) pl.isList (fun w hw=>?_) ⟨.bl _,H,I,rfl,?_⟩
  · rcases hf w (by simpa using hw) with ⟨i,t,rfl⟩|⟨t,ys,rfl,ht⟩
    · exact jI i t g c.1 dat (by show X.A.units+1 < cLine;lia)
    · exact iu ht g c.1 dat (by show X.A.units+1 < cLine;lia)
  · have e:(its.toArray.any fun _=>false)=false:=by simp
    rw [e];exact q
end L2
namespace Tim
open PySem PyProof.Rows
structure Ord (M:Model) (A:Around) (E:Value→Shared→Prop) (s:Shared) (κ:SortKind) (P:Keyed→Prop) (lt:Keyed→Keyed→Bool):Prop where
  ask:∀ {x y:Keyed} {st:SortSt} {Q:Option Bool→SortSt→Prop},P x→P y→kindOf st=κ→Q (some (lt x y)) st→wpS M A E s (lt' x y) Q st
  asym:∀ {x y:Keyed},P x→P y→lt x y=true→lt y x=false
  trans:∀ {x y z:Keyed},P x→P y→P z→lt y x=false→lt z y=false→lt z x=false
section
variable {M:Model} {A:Around} {E:Value→Shared→Prop} {s:Shared} {κ:SortKind} {P:Keyed→Prop} {lt:Keyed→Keyed→Bool}
structure Bnd (B:Nat→Bool) (n k:Nat):Prop where
  le:k≤n
  lo:∀ i,i < k→B i=true
  hi:∀ i,k≤i→i < n→B i=false
end
end Tim
namespace Tim
open PySem PyProof.Rows
def Le (lt:Keyed→Keyed→Bool) (x y:Keyed):Prop:=lt y x=false
structure Mg (lt:Keyed→Keyed→Bool) (a b out:List Keyed) (ia ib:Nat):Prop where
  ha:ia≤a.length
  hb:ib≤b.length
  perm:out.Perm (a.take ia++b.take ib)
  srt:out.Pairwise (Le lt)
  le:∀ x∈out,∀ y,(y∈a.drop ia∨y∈b.drop ib)→Le lt x y
section
variable {lt:Keyed→Keyed→Bool} {a b out:List Keyed} {ia ib:Nat}
end
structure SameS (st st':SortSt):Prop where
  arr:arrOf st'=arrOf st
  pend:pendingOf st'=pendingOf st
  kind:kindOf st'=kindOf st
  fail:failedOf st'=failedOf st
section
variable {M:Model} {A:Around} {E:Value→Shared→Prop} {s:Shared} {κ:SortKind} {P:Keyed→Prop} {lt:Keyed→Keyed→Bool}
end
end Tim
namespace Tim
open PySem PyProof.Rows
structure Mh (lt:Keyed→Keyed→Bool) (a b out:List Keyed) (na nb:Nat):Prop where
  ha:na≤a.length
  hb:nb≤b.length
  perm:out.Perm (a.drop na++b.drop nb)
  srt:out.Pairwise fun x y=>Le lt y x
  le:∀ x∈out,∀ y,(y∈a.take na∨y∈b.take nb)→Le lt y x
section
variable {lt:Keyed→Keyed→Bool} {a b out:List Keyed} {na nb:Nat}
end
section
variable {M:Model} {A:Around} {E:Value→Shared→Prop} {s:Shared} {κ:SortKind} {P:Keyed→Prop} {lt:Keyed→Keyed→Bool}
end
end Tim
namespace Tim
open PySem PyProof.Rows
def seg (L:List Keyed) (s n:Nat):List Keyed:=(L.drop s).take n
structure Mrgd (lt:Keyed→Keyed→Bool) (L L':List Keyed) (s n:Nat):Prop where
  ex:∃ R,R.Perm (seg L s n)∧R.Pairwise (Le lt)∧L'=L.take s++R++L.drop (s+n)
section
variable {M:Model} {A:Around} {E:Value→Shared→Prop} {s:Shared} {κ:SortKind} {P:Keyed→Prop} {lt:Keyed→Keyed→Bool}
end
end Tim
namespace Tim
open PySem PyProof.Rows
def vx (a:Array Keyed) (i:Nat):Keyed:=(a[i]?).getD (Value.none,Value.none)
section
variable (lt:Keyed→Keyed→Bool)
def Up (a:Array Keyed) (lo n:Nat):Prop:=∀ i j,i < j→j < n→Le lt (vx a (lo+i)) (vx a (lo+j))
end
structure Kp (a a':Array Keyed) (lo:Nat):Prop where
  perm:a'.Perm a
  low:∀ k,k < lo→a'[k]?=a[k]?
structure SameA (st st':SortSt):Prop where
  pend:pendingOf st'=pendingOf st
  kind:kindOf st'=kindOf st
  fail:failedOf st'=failedOf st
section
variable {M:Model} {A:Around} {E:Value→Shared→Prop} {s:Shared} {κ:SortKind} {P:Keyed→Prop} {lt:Keyed→Keyed→Bool}
end
end Tim
namespace Tim
open PySem PyProof.Rows
section
variable {M:Model} {A:Around} {E:Value→Shared→Prop} {s:Shared} {κ:SortKind} {P:Keyed→Prop} {lt:Keyed→Keyed→Bool}
end
def xq (lt:Keyed→Keyed→Bool) (a:Array Keyed):List (Nat × Nat × Nat)→Nat→Nat→Prop
  | [],f,t=>f=t
  | (s,n,_) :: r,f,t=>s=f∧1≤n∧Up lt a s n∧xq lt a r (s+n) t
section
variable {lt:Keyed→Keyed→Bool} {a a':Array Keyed}
end
end Tim
namespace Tim
open PySem PyProof.Rows
structure SI (κ:SortKind) (lt:Keyed→Keyed→Bool) (a₀:Array Keyed) (st:SortSt) (lo:Nat):Prop where
  kind:kindOf st=κ
  fail:failedOf st=none
  perm:(arrOf st).Perm a₀
  runs:xq lt (arrOf st) (pendingOf st).toList 0 lo
  le:lo≤a₀.size
section
variable {M:Model} {A:Around} {E:Value→Shared→Prop} {s:Shared} {κ:SortKind} {P:Keyed→Prop} {lt:Keyed→Keyed→Bool} {a₀:Array Keyed}
end
end Tim
namespace Tim
open PySem PyProof.Rows
section
variable {prog:Program} {w:World} {A:Around} {E:Value→Shared→Prop} {s:Shared}
end
end Tim
namespace L2
open PySem PySem.Spec PyProof.Rows
open PySem PySem.Spec PyProof.Rows
open PySem PySem.Spec PyProof.Rows
section
variable {prog:Program} {w:World} {A:Around} {E:Value→Shared→Prop} {s:Shared}
end
end L2
namespace L2
open PySem
def xr (xs:Array Nat):Prop:=xs.toList.Pairwise (· < ·)
def Okm (m:Nat):Prop:=m=7∨m=15∨m=31∨m=63∨m=127∨m=255∨m=511∨m=1023
def lp (m:Nat):Nat→Nat→Nat→Nat × Nat
  | 0,i,p=>(i,p)
  | L+1,i,p=>lp m L ((i * 5+1+p / 32) % (m+1)) (p / 32)
end L2
namespace L2
open PySem
end L2
namespace L2
open PySem
structure GT (n:Nat) (b:Bool) (t:SetTable):Prop where
  okm:Okm t.mask
  dum:t.dummies=#[]
  pl:t.plain=true
  rise:xr t.place
  size:t.place.size=n
  led:t.led=b
  room:n * 5 < t.mask * 3
structure GT1 (n:Nat) (b:Bool) (t:SetTable):Prop where
  okm:Okm t.mask
  dum:t.dummies=#[]
  pl:t.plain=true
  rise:xr t.place
  size:t.place.size=n
  led:t.led=b
  room:(n - 1) * 5 < t.mask * 3
open PySem PySem.Spec PyProof.Rows
section
variable {prog:Program} {w:World} {A:Around} {E:Value→Shared→Prop} {s:Shared}
end
end L2
set_option maxHeartbeats 3200000
namespace L2
open PySem PySem.Spec PyProof.Rows
section
variable {prog:Program} {w:World} {A:Around} {E:Value→Shared→Prop} {s:Shared}
variable {R:Result→Shared→Prop} {I:Addr} {fp wr:List Addr} {G:Array GenState→Array GenState→Prop} {n:Nat} {P:Nat→Value→Prop} {St:Nat→Shared→Prop}
end
section
variable {prog:Program} {w:World} {A:Around} {E:Value→Shared→Prop} {s:Shared}
end
open PySem PySem.Spec PyProof.Rows
section
variable {prog:Program} {w:World} {A:Around} {E:Value→Shared→Prop} {s:Shared}
end
end L2
namespace PySem.F
end PySem.F
namespace L2
open PySem PySem.Spec PyProof.Rows
section
variable {prog:Program} {w:World} {A:Around} {E:Value→Shared→Prop} {s:Shared}
end
open PySem PySem.Spec PyProof.Rows
section
variable {prog:Program} {w:World} {A:Around} {E:Value→Shared→Prop} {s:Shared}
end
open PySem PySem.Spec PyProof.Rows
end L2
namespace PySem.F
end PySem.F
namespace L2
open PySem PySem.Spec PyProof.Rows
structure SI (prog:Program) (w:World) (h:Heap) (a:Addr) (o:Obj) (es:Array (Int × Value)) (ep:Nat) (t:SetTable):Prop where
  at':h.get? a=some o
  ex:o.ExactSet
  dat:o.data=.set es ep t
  fit:t.fits es.size=true
  els:ElemsOf (intKind prog w) es.toList
  few:es.size < scanBound
section
variable {prog:Program} {w:World} {A:Around} {E:Value→Shared→Prop} {s:Shared}
end
open PySem PySem.Spec PyProof.Rows
section
variable {prog:Program} {w:World} {A:Around} {E:Value→Shared→Prop} {s:Shared}
end
open PySem PySem.Spec PyProof.Rows
section
variable {prog:Program} {w:World} {A:Around} {E:Value→Shared→Prop} {s:Shared}
end
open PySem PySem.Spec PyProof.Rows
section
variable {prog:Program} {w:World} {A:Around} {E:Value→Shared→Prop} {s:Shared}
end
open PySem PySem.Spec PyProof.Rows
section
variable {prog:Program} {w:World} {A:Around} {E:Value→Shared→Prop} {s:Shared}
end
open PySem PySem.Spec PyProof.Rows
section
variable {prog:Program} {w:World} {A:Around} {E:Value→Shared→Prop} {s:Shared}
end
open PySem PySem.Spec PyProof.Rows
open PySem PySem.Spec PyProof.Rows
open PySem PySem.Spec PyProof.Rows
open PySem PySem.Spec PyProof.Rows
def Itz (K:aaa) (a b:Addr):It :=
  ⟨fun i H=>∃ xs ys x y,SqL K H a xs∧SqL K H b ys∧xs[i]?=some x∧ys[i]?=some y,
   fun i H v H'=>∃ p x y,H p=none∧v=.ref p∧H'=upd H p (.tup [x,y])∧(∀ xs,SqL K H a xs→xs[i]?=some x)∧∀ ys,SqL K H b ys→ys[i]?=some y,
   fun i H=>∃ xs ys,SqL K H a xs∧SqL K H b ys∧(xs.length≤i∨ys.length≤i)⟩
theorem qL {P:Program} {w:World} {K:aaa} {elts:List Expr} {k:Nat} {pos:Pos} (a b z TI TO i1 i2:Addr) (D:ZipApart z TI TO i1 i2 a b):Turn P w K (.Tuple elts k pos) (Itz K a b) [z,TI,TO,i1,i2] z (fun i h=>IsZip h z TI TO .none∧IsPair h TI (.ref i1) (.ref i2)∧(∃ u v,IsPair h TO u v)∧h.IsListIter i1 a i∧h.IsListIter i2 b i) where
  mem:=by simp
  obj:=fun i h st c hc=>by
    obtain ⟨h1,h2,⟨u,v,h3⟩,⟨o4,e4,c4,d4⟩,o5,e5,c5,d5⟩:=st;simp only [aai,aaP,or_false] at hc;rcases hc with rfl|rfl|rfl|rfl|rfl
    · exact ⟨_,h1,fun v z=>by cases z⟩
    · exact ⟨_,h2,fun v z=>by cases z⟩
    · exact ⟨_,h3,fun v z=>by cases z⟩
    · exact ⟨o4,e4,fun v z=>by rw [d4] at z;cases z⟩
    · exact ⟨o5,e5,fun v z=>by rw [d5] at z;cases z⟩
  keep:=fun i h h' st kp=>by
    obtain ⟨h1,h2,⟨u,v,h3⟩,h4,h5⟩:=st;exact ⟨kp z (by simp) _ h1,kp TI (by simp) _ h2,⟨u,v,kp TO (by simp) _ h3⟩,h4.at fun o x=>kp i1 (by simp) o x,h5.at fun o x=>kp i2 (by simp) o x⟩
  item:=by
    intro X hP hw hK hc i pins s σ H E I hf st hg;subst hP hw hK;obtain ⟨xs,ys,x,y,hq,hq',hx,hy⟩:=hg;obtain ⟨its,rv,p,hz⟩:=I.list hq;obtain ⟨its',rv',p',hz'⟩:=I.list hq';obtain ⟨u,hu,ru⟩:=rv.get hx;obtain ⟨u',hu',ru'⟩:=rv'.get hy;obtain ⟨h1,h2,⟨c1,c2,h3⟩,h4,h5⟩:=st;have lz:z < s.heap.objs.size:=aaq h1;refine wpAny_pyNext_zip_item D h1 h2 h3 h4 h5 p.isList p'.isList (x:=u) (y:=u') (by simpa using hu) (by simpa using hu') fun h' a1 a2 a3 a4 a5 a6 hk=>?_;refine ⟨_,rfl,wpAny_letOwnedTupleGo_zip a1 fun h'' he' hs'=>?_⟩;have hs2:abg z h' h'':=hs';have keep:∀ b o,b∉[z,TI,TO,i1,i2]→s.heap.get? b=some o→h''.get? b=some o:=fun b o hb q=>by
      simp only [aai,aaP,or_false,not_or] at hb;exact (hs2.2 b hb.1).trans (hk b o hb.1 hb.2.2.1 hb.2.2.2.1 hb.2.2.2.2 q)
    have I1:Inv X pins σ H { s with heap:=h'',toks:=s.toks }:=I.turnedL keep hf;have gT:h''.get? s.heap.objs.size=some { cls:=.type "tuple",data:=.seq #[u,u'] }:=(hs2.2 _ (abA lz)).trans a5;have fresh:H s.heap.objs.size=none:=I.hok.fresh (aah _);have I2:=I1.adopt (a:=s.heap.objs.size) (o:=.tup [x,y]) fresh I.sz (abA I.lt) (fun y c e1=>by
        obtain ⟨v,q⟩:=I.cell y c e1;exact aaF q.lt) (fun q hq=>aaF (aaq (I.pin q hq).1)) ⟨by show 2≤sizeLine;decide,[u,u'],.cons ru (.cons ru' .nil),⟨_,gT,rfl,_,rfl⟩⟩
    have hTI':IsPair h'' TI (.ref i1) (.ref i2):=(hs2.2 _ D.TIz).trans (hk _ _ D.TIz D.TITO D.TIi1 D.TIi2 h2);refine ⟨.ref s.heap.objs.size,_,I2,rfl,⟨_,x,y,fresh,rfl,rfl,fun zs hy'=>by rw [I.list_inj hy' hq];exact hx,fun zs hy'=>by rw [I.list_inj hy' hq'];exact hy⟩,⟨he',hTI',⟨_,_,(hs2.2 _ D.TOz).trans a2⟩,a3.at fun o y=>(hs2.2 i1 D.i1z).trans y,a4.at fun o y=>(hs2.2 i2 D.i2z).trans y⟩,fun c hc=>?_⟩;rw [aq]
    · exact (hf c hc).1
    · have : ∀ {o},s.heap.get? c=some o→c≠s.heap.objs.size:=fun e=>aaF (aaq e);simp only [aai,aaP,or_false] at hc;rcases hc with rfl|rfl|rfl|rfl|rfl
      · exact this h1
      · exact this h2
      · exact this h3
      · obtain ⟨o,e,_⟩:=h4;exact this e
      · obtain ⟨o,e,_⟩:=h5;exact this e
  done:=by
    intro X hP hw hK hc i pins s σ H E I hf st hg;subst hP hw hK;obtain ⟨xs,ys,hq,hq',hx⟩:=hg;obtain ⟨its,rv,p,hz⟩:=I.list hq;obtain ⟨its',rv',p',hz'⟩:=I.list hq';obtain ⟨h1,h2,⟨c1,c2,h3⟩,h4,h5⟩:=st;have hl:=rv.length;have hl':=rv'.length;refine wpAny_pyNext_zip_end (I.ok.hd hc) D h1 h2 h3 h4 h5 p.isList p'.isList ?_ fun h' hk=>⟨rfl,I.turnedL (t':=s.toks) (fp:=[z,TI,TO,i1,i2]) (fun b o hb q=>?_) hf⟩
    · rcases hx with hx|hx
      · exact .inl (by simp;lia)
      · exact .inr (by simp;lia)
    · simp only [aai,aaP,or_false,not_or] at hb;exact hk b o hb.1 hb.2.2.1 hb.2.2.2.1 hb.2.2.2.2 q
  self:=fun _ _ _ _ _ st h=>wpAny_pyIter_zip st.1 h
def x5 (K:aaa) (ta:TA):TI:=fun σ H R=>ta σ H fun vs H1=>∃ a b,vs=[.ref a,.ref b]∧(∃ xs,SqL K H1 a xs)∧(∃ ys,SqL K H1 b ys)∧R (Itz K a b) H1
theorem uY {X:Cx} {elts:List Expr} {k:Nat} {tpos:Pos} {a b:Expr} {ta:TA} {p pos:Pos} (hg:Gl X "zip") (hm:X.mg "zip" = none) (ha:PA X [a,b] ta) (hs:starEach [a,b] X.env=(false,eval a X.env) :: starEach [b] X.env:=by rfl) (hpl:(backTo pos (starEach [b] X.env)).any (·.1)=false:=by rfl):PI X (.Tuple elts k tpos) (.Call (.Name "zip" p) [a,b] [] pos) (x5 X.K ta):=by
  intro pins s σ H R I h;refine Call_ (fq I hg hm boot_zip (abb (thn (ha pos pins s σ H _ I h) fun us s1 ⟨vs,H1,I1,r1,q1⟩=>?_) hs hpl));obtain ⟨l1,l2,e,⟨xs,hq⟩,⟨ys,hq'⟩,q⟩:=q1;subst e;obtain ⟨u1,u2,rfl,r1',r2'⟩:=oA r1;cases r1';cases r2';obtain ⟨its,rv,pl,hz⟩:=I1.list hq;obtain ⟨its',rv',pl',hz'⟩:=I1.list hq';have n1:l1 < s1.heap.objs.size:=by obtain ⟨o,e,_⟩:=pl.isList;exact aaq e
  have n2:l2 < s1.heap.objs.size:=by obtain ⟨o,e,_⟩:=pl'.isList;exact aaq e
  refine call_zip_2 pl.isList pl'.isList fun h' hz hTI hTO hi1 hi2 hsz hk=>?_;refine wpAny_pyIter_zip (s:={ s1 with heap:=h' }) hz ?_;have I2:Inv X pins σ H1 { s1 with heap:=h' }:=I1.kept (t':=s1.toks) hk;refine ⟨s1.heap.objs.size+4,[s1.heap.objs.size+4,s1.heap.objs.size+2,s1.heap.objs.size+3,s1.heap.objs.size,s1.heap.objs.size+1],_,_,H1,rfl,I2,qL l1 l2 _ _ _ _ _ (zipApart_new n1 n2),⟨hz,hTI,⟨_,_,hTO⟩,hi1,hi2⟩,fun c hc=>?_,q⟩;have hb2:s1.heap.objs.size≤c:=by
    simp only [aai,aaP,or_false] at hc;rcases hc with rfl|rfl|rfl|rfl|rfl
    · exact abY _ _
    · exact abY _ _
    · exact abY _ _
    · exact aah _
    · exact abY _ _
  exact I1.fpOk hb2 (I1.hok.fresh hb2)
theorem Trn.zip {K:aaa} {a b:Addr} {xs ys:List V} (hl:xs.length=ys.length):Trn (Itz K a b) xs.length (fun H=>SqL K H a xs∧SqL K H b ys) (fun i v H H'=>∃ p x y,H p=none∧v=.ref p∧H'=upd H p (.tup [x,y])∧xs[i]?=some x∧ys[i]?=some y) :=
  ⟨fun i H hi q=>⟨xs,ys,xs[i],ys[i]'(by lia),q.1,q.2,aac hi,aac (by lia)⟩,fun H q=>⟨xs,ys,q.1,q.2,.inl (aah _)⟩,fun i H v H' hi q y=>by
    obtain ⟨p,x,y,h1,h2,h3,h4,h5⟩:=y;exact ⟨p,x,y,h1,h2,h3,h4 xs q.1,h5 ys q.2⟩⟩
open PySem PySem.Spec PyProof.Rows
theorem oj {X:Cx} {K:aaa} (hK:X.K=K) (hc:X.calm=true):bQ X (.builtin "min") (fun xs H Q=>∃ (p:Addr) (ns:List Int),xs=[.ref p]∧SqL K H p (ns.map V.int)∧ns≠[]∧∀ m∈ns,(∀ x∈ns,m≤x)→Q (.int m) H):=by subst hK;exact dS hc
theorem om {X:Cx} {K:aaa} (hK:X.K=K) (hc:X.calm=true):bQ X (.builtin "max") (fun xs H Q=>∃ (p:Addr) (ns:List Int),xs=[.ref p]∧SqL K H p (ns.map V.int)∧ns≠[]∧∀ m∈ns,(∀ x∈ns,x≤m)→Q (.int m) H):=by subst hK;exact dU hc
open PySem PySem.Spec PyProof.Rows
theorem tK {X:Cx} {a:Expr} {ta:TE} {pos:Pos} (ha:PE X a ta):PE X (.UnaryOp .Not a pos) (fun σ H Q=>ta σ H fun x H'=>∃ k,vO X.K x H' k∧Q (.bl (!k)) H'):=by
  intro pins s σ H Q I h;refine UnaryOp_ (thn (ha pins s σ H _ I h) fun v s1 ⟨x,H1,I1,r1,k,tr,q1⟩=>?_);exact not_of (thn (qN pins s1 σ H1 x v _ I1 r1 ⟨k,tr,q1⟩) fun b s2 ⟨H2,I2,q2⟩=>⟨.bl (!b),H2,I2,rfl,q2⟩)
theorem Same.upd {H H1:Hp} {p:Addr} {o:HO} (a:Same H H1) (h:H p=none):Same H (L2.upd H1 p o):=fun b u q=>by
  rw [aq (ao q h)];exact a b u q
end L2
namespace Put
open PySem L2
def top (i:Nat):Stmt:=PySem.Challenge.pw_putsigns_k36_ways_shown_greatest.main.body.getD i (.Pass ⟨0,0,0,0⟩)
inductive Sg where
  | plus|minus|times
  deriving DecidableEq
def Sg.str:Sg→Str
  | .plus=>"+"
  | .minus=>"-"
  | .times=>"*"
inductive Wy where
  | num (i:Int)
  | node (g:Sg) (l r:Wy)
  deriving DecidableEq
def Wy.size:Wy→Nat
  | .num _=>1
  | .node _ l r=>l.size+r.size
theorem Wy.size_pos:∀ w:Wy,1≤w.size
  | .num _=>aah _
  | .node _ l r=>by have:=l.size_pos;show 1≤l.size+r.size;lia
def WyIn (H:Hp):Wy→V→Prop
  | .num i,v=>v=.int i
  | .node g l r,v=>∃ a vl vr,v=.ref a∧H a=some (.tup [.str g.str,vl,vr])∧WyIn H l vl∧WyIn H r vr
def Tups (H H':Hp):Prop:=∀ b xs,H b=some (.tup xs)→H' b=some (.tup xs)
theorem Tups.of {H H':Hp} (a:Same H H'):Tups H H':=fun b xs h=>a b _ h
theorem Tups.but {H H':Hp} {w:Addr} {xs:List V} (a:But w H H') (h:H w=some (.lst xs)):Tups H H':=fun b ys q=>a b _ (fun e=>by rw [e,h] at q;cases q) q
theorem Tups.trans {H H1 H2:Hp} (a:Tups H H1) (b:Tups H1 H2):Tups H H2:=fun c xs h=>b c xs (a c xs h)
theorem WyIn.mono {H H':Hp} (t:Tups H H'):∀ {w:Wy} {v:V},WyIn H w v→WyIn H' w v
  | .num _,_,h=>h
  | .node g l r,v,h=>by
    obtain ⟨a,vl,vr,e,h1,h2,h3⟩:=h;exact ⟨a,vl,vr,e,t _ _ h1,WyIn.mono t h2,WyIn.mono t h3⟩
def WyAll (H:Hp) (ws:List Wy) (vs:List V):Prop:=Paired (fun w v=>WyIn H w v) ws vs
theorem WyAll.mono {H H':Hp} (t:Tups H H') {ws:List Wy} {vs:List V} (p:WyAll H ws vs):WyAll H' ws vs:=by
  induction p with
  | nil=>exact .nil
  | cons a _ ih=>exact .cons (a.mono t) ih
theorem WyAll.length {H:Hp}:∀ {ws:List Wy} {vs:List V},WyAll H ws vs→ws.length=vs.length
  | _,_,.nil=>rfl
  | _,_,.cons _ b=>congrArg (·+1) (WyAll.length b)
structure Bu (K:aaa) (mg:Str→Option Value):Prop where
  ilen:mg "len" = none
  iisinstance : mg "isinstance" = none
  iint:mg "int" = none
  ibool:mg "bool" = none
  istr:mg "str" = none
  ituple:mg "tuple" = none
  ilist:mg "list" = none
  isorted:mg "sorted" = none
  irange:mg "range" = none
  irepr:mg "repr" = none
  ienumerate:mg "enumerate" = none
  isum:mg "sum" = none
  iall:mg "all" = none
  imin:mg "min" = none
  imax:mg "max" = none
  iabs:mg "abs" = none
  idivmod:mg "divmod" = none
  idict:mg "dict" = none
  iset:mg "set" = none
  ireversed:mg "reversed" = none
  iany:mg "any" = none
  izip:mg "zip" = none
structure Co (K:aaa) (mg:Str→Option Value) (tk:Tok) (aS:Addr):Prop where
  gMOST_NUMBERS:mg "MOST_NUMBERS" = some (.int 9 tk)
  gSIGNS:mg "SIGNS" = some (.ref aS)
  sSIGNS:∀ H,SqT K H aS [.str "+",.str "-",.str "*"]
section
variable {P:Program} {w:World} {K:aaa} {mg:Str→Option Value} {base:Heap} {f:Addr} {fd:FuncData}
def du (K:aaa):Sp:=fun vs H Q _=>∃ x n,vs=[x]∧TyOf K H x (.type n)∧Q (.bl (decide (n = "int"))) H
abbrev fQ:Stmt:=top 8
theorem lL:FnScope ["thing"] ["thing"] (am fQ):=⟨rfl,rfl,rfl,by decide +kernel,rfl,by decide +kernel,by decide +kernel⟩
theorem mj (F:Fun K "is_whole" "is_whole" fQ f fd) (B:Bu K mg):FnOk P w K mg base CX0 1 f fd ["thing"] (du K):=by
  refine F.ok lL (fun vs H Q E h=>?_) (fun cdv A outer s H vs Q E hr h=>?_)
  · obtain ⟨x,n,rfl,_⟩:=h;rfl
  obtain ⟨x,n,rfl,ty,q⟩:=h;refine ⟨_,(@ag _ _ _ (@ar _ _ _ _ (@b5 _ _ _ _ _ _ _ (@ak _ _ _ _ _ _ _ _ _ (@aN _ ("int")) rfl B.iisinstance aap (@aa _ _ _ _ _ (pv 0) (@aa _ _ _ _ _ (@bu _ _ (.ty "int") _ _ rfl B.iint aa3 rfl (by decide) (by decide)) ac (by rfl)) (by rfl)) (by decide) (by decide) (by rfl) (by rfl)) (@eK _ _ _ _ _ (@u9 _ _ _ _ (@ak _ _ _ _ _ _ _ _ _ (@aN _ ("bool")) rfl B.iisinstance aap (@aa _ _ _ _ _ (pv 0) (@aa _ _ _ _ _ (@bu _ _ (.ty "bool") _ _ rfl B.ibool ab3 rfl (by decide) (by decide)) ac (by rfl)) (by rfl)) (by decide) (by decide) (by rfl) (by rfl))))))),?_⟩;cases ty with
  | non=>exact ⟨_,rfl,_,_,false,rfl,.non,rfl,false,rfl,aB q⟩
  | bl y=>exact ⟨_,rfl,_,_,true,rfl,.bl y,rfl,true,rfl,aI ⟨_,rfl,_,_,true,rfl,.bl y,rfl,true,rfl,q⟩⟩
  | int i=>exact ⟨_,rfl,_,_,true,rfl,.int i,rfl,true,rfl,aI ⟨_,rfl,_,_,false,rfl,.int i,rfl,false,rfl,q⟩⟩
  | str y=>exact ⟨_,rfl,_,_,false,rfl,.str y,rfl,false,rfl,aB q⟩
  | flt y=>exact ⟨_,rfl,_,_,false,rfl,.flt y,rfl,false,rfl,aB q⟩
  | lst e=>exact ⟨_,rfl,_,_,false,rfl,.lst e,rfl,false,rfl,aB q⟩
  | frz e=>exact ⟨_,rfl,_,_,false,rfl,.frz e,rfl,false,rfl,aB q⟩
  | tup e=>exact ⟨_,rfl,_,_,false,rfl,.tup e,rfl,false,rfl,aB q⟩
  | dK e=>exact ⟨_,rfl,_,_,false,rfl,.dK e,rfl,false,rfl,aB q⟩
  | dT e=>exact ⟨_,rfl,_,_,false,rfl,.dT e,rfl,false,rfl,aB q⟩
def qw (z:Str):Bool:=inV (.str z) [.str "+",.str "-",.str "*"]
theorem jh (g:Sg):qw g.str=true:=by cases g <;> decide +kernel
def qR:Sp:=fun vs H Q _=>∃ z,vs=[.str z]∧Q (.bl (qw z)) H
abbrev fE:Stmt:=top 11
theorem iR:FnScope ["thing"] ["thing"] (am fE):=⟨rfl,rfl,rfl,by decide +kernel,rfl,by decide +kernel,by decide +kernel⟩
theorem nK {tk:Tok} {aS:Addr} (F:Fun K "is_sign" "is_sign" fE f fd) (B:Bu K mg) (B':Co K mg tk aS):FnOk P w K mg base CX0 1 f fd ["thing"] qR:=by
  refine F.ok iR (fun vs H Q E h=>?_) (fun cdv A outer s H vs Q E hr h=>?_)
  · obtain ⟨x,rfl,_⟩:=h;rfl
  obtain ⟨z,rfl,q⟩:=h;refine ⟨_,(ag (ar (b5 (ak (aN (n:="str")) rfl B.iisinstance aap (aa (pv 0) (aa (bu (v:=.ty "str") rfl B.istr aca rfl) ac))) (eK (aO fF (pv 0) (gp (v:=.ref aS) rfl B'.gSIGNS rfl) (by with_unfolding_all rfl)))))),?_⟩;exact ⟨_,rfl,_,_,true,rfl,.str z,rfl,true,rfl,aI ⟨_,rfl,aS,_,rfl,.inr (B'.sSIGNS H),rfl,rfl,q⟩⟩
open PySem L2
theorem tX {α:Type} (xs:List α) (x:α):(xs++[x])[(xs++[x]).length - 1]?=some x:=by simp
theorem vW (xs:List V) (x:V):(xs++[x]).dropLast=xs:=by simp
theorem cE {n:Nat} (h:n≤1000):n≤sizeLine:=abz (aA h)
abbrev iS:Stmt:=top 12
theorem dP:FnScope ["thing","waiting","numbers","part"] ["thing"] (am iS):=⟨rfl,rfl,rfl,by decide +kernel,rfl,by decide +kernel,by decide +kernel⟩
def Wy.nums:Wy→List Int
  | .num i=>[i]
  | .node _ l r=>l.nums++r.nums
theorem Wy.nums_len:∀ w:Wy,w.nums.length=w.size
  | .num _=>rfl
  | .node _ l r=>by show (l.nums++r.nums).length=l.size+r.size;rw [aaj,l.nums_len,r.nums_len]
def Wy.deep:Wy→Nat
  | .num _=>1
  | .node _ l r=>max l.deep r.deep+1
theorem Wy.deep_le:∀ w:Wy,w.deep≤w.size
  | .num _=>aah _
  | .node _ l r=>by have a:=l.deep_le;have b:=r.deep_le;have c:=l.size_pos;have d:=r.size_pos;show max l.deep r.deep+1≤l.size+r.size;lia
def km (n:Nat):Sp:=fun vs H Q _=>∃ w v,vs=[v]∧WyIn H w v∧w.size≤20∧w.deep≤n∧∀ p H',Same H H'→H p=none→H' p=some (.lst (w.nums.map V.int))→Q (.ref p) H'
abbrev df:Stmt:=top 18
theorem bR:FnScope ["way","sign","left","right"] ["way"] (am df):=⟨rfl,rfl,rfl,by decide +kernel,rfl,by decide +kernel,by decide +kernel⟩
theorem ip (F:Fun K "list_numbers" "list_numbers" df f fd) (bF:Binds K fd ["way"] []) (mF:mg "list_numbers" = some (.ref f)) (C_is_whole:Cal P w K mg base "is_whole" 1 ["thing"] (du K)) :
    ∀ n,FnOk P w K mg base CX0 (n+1) f fd ["way"] (km n):=by
  intro n
  induction n with
  | zero =>
    refine ⟨fun vs H Q E h=>?_,fun A outer s H args us vs Q E _ _ _ _ h=>?_⟩
    · obtain ⟨x,v,rfl,_⟩:=h;rfl
    · obtain ⟨wy,v,_,_,_,hd,_⟩:=h;cases wy <;> exact absurd hd (by simp [Wy.deep])
  | succ n ih =>
    have C_list_numbers:Cal P w K mg base "list_numbers" (n+1) ["way"] (km n):=⟨f,fd,ih,bF,F.kp,mF⟩
    refine F.ok bR (fun vs H Q E h=>?_) (fun cdv A outer s H vs Q E hr h=>?_)
    · obtain ⟨x,v,rfl,_⟩:=h;rfl
    obtain ⟨wy,v,rfl,hw,h20,hd,q⟩:=h;refine ⟨_,(@af _ _ _ _ _ (@aY _ _ _ _ _ _ _ _ (@bh _ _ _ (@ah _ _ _ _ _ _ _ _ _ _ _ C_is_whole hr (by lia) rfl (@aa _ _ _ _ _ (pv 0) ac (by rfl)) (by decide) (by rfl) (by rfl)) (by intro _;rfl)) (@ag _ _ _ (@ar _ _ _ _ (@aJ _ _ _ _ (@aa _ _ _ _ _ (pv 0) ac (by rfl))))) aG) (@af _ _ _ _ _ (@dE _ _ _ _ _ _ (pv 0) (@dF _ _ _ _ _ _ rfl (@aD _ _ _ _ _ (@aj _ _ (1) _ (bR).nd rfl (Or.inl rfl) (.inl rfl)) (@aD _ _ _ _ _ (@aj _ _ (2) _ (bR).nd rfl (Or.inl rfl) (.inl rfl)) (@aD _ _ _ _ _ (@aj _ _ (3) _ (bR).nd rfl (Or.inl rfl) (.inl rfl)) bX (by rfl)) (by rfl)) (by rfl)) (by rfl) (by rfl)) (by rfl) (by rfl) (by rfl)) (@ag _ _ _ (@ar _ _ _ _ (@ap _ _ _ _ _ _ _ _ fm (@ah _ _ _ _ _ _ _ _ _ _ _ C_list_numbers hr (by lia) rfl (@aa _ _ _ _ _ (pv 2) ac (by rfl)) (by decide) (by rfl) (by rfl)) (@ah _ _ _ _ _ _ _ _ _ _ _ C_list_numbers hr (by lia) rfl (@aa _ _ _ _ _ (pv 3) ac (by rfl)) (by decide) (by rfl) (by rfl))))))),?_⟩;cases wy with
    | num i =>
      cases hw;refine ⟨_,rfl,_,"int",rfl,.int i,true,rfl,aI ⟨_,rfl,(by show 1≤sizeLine;decide),fun p hp=>?_⟩⟩;exact q p _ (Same.new hp _) hp ad
    | node g l r =>
      obtain ⟨a,vl,vr,rfl,ha,hl,hr'⟩:=hw;refine ⟨_,rfl,_,"tuple",rfl,.tup ha,false,rfl,aB ?_⟩;have d:max l.deep r.deep+1≤n+1:=hd;have z:l.size+r.size≤20:=h20;have zl:=l.size_pos;have zr:=r.size_pos;refine ⟨_,rfl,a,_,rfl,SqT.of ha,rfl,_,_,rfl,_,_,rfl,_,_,rfl,rfl,?_⟩;refine ⟨_,rfl,l,vl,rfl,hl,by lia,by lia,fun p H1 g1 n1 e1=>?_⟩;refine ⟨_,rfl,r,vr,rfl,hr'.mono (Tups.of g1),by lia,by lia,fun p2 H2 g2 n2 e2=>?_⟩;refine ⟨p,p2,_,_,rfl,rfl,g2 _ _ e1,e2,cE (by rw [aab,aab,l.nums_len,r.nums_len];lia),fun p3 n3=>?_⟩;refine q p3 _ ((g1.trans g2).trans (Same.new n3 _)) ((g1.trans g2).free n3) ?_;rw [ad];show some (HO.lst (l.nums.map V.int++r.nums.map V.int))=some (HO.lst ((l.nums++r.nums).map V.int));rw [aaH]
def Wy.sgs:Wy→List Sg
  | .num _=>[]
  | .node g l r=>l.sgs++g :: r.sgs
def al:List Sg→Str
  | []=>""
  | g :: r=>g.str++al r
theorem lG (x:Str):("":Str)++x=x:=by
  cases x with|mk c=>show Str.mk (#[]++c)=_;simp
theorem jN (x y z:Str):x++y++z=x++(y++z):=by
  obtain ⟨a⟩:=x;obtain ⟨b⟩:=y;obtain ⟨c⟩:=z;show Str.mk ((a++b)++c)=Str.mk (a++(b++c));rw [Array.append_assoc]
theorem iN:∀ xs ys:List Sg,al (xs++ys)=al xs++al ys
  | [],ys=>(lG _).symm
  | g :: r,ys=>by show g.str++al (r++ys)=g.str++al r++al ys;rw [iN r ys,jN]
theorem m_ (g:Sg):g.str.length=1:=by cases g <;> rfl
theorem oF (x y:Str):(x++y).length=x.length+y.length:=by
  cases x;cases y;show (_++_:Array Nat).size=_;rw [Array.size_append];rfl
theorem d2:∀ xs:List Sg,(al xs).length=xs.length
  | []=>rfl
  | g :: r=>by show (g.str++al r).length=r.length+1;rw [oF,m_,d2 r];lia
theorem Wy.sgs_len:∀ w:Wy,w.sgs.length+1=w.size
  | .num _=>rfl
  | .node g l r=>by have a:=l.sgs_len;have b:=r.sgs_len;show (l.sgs++g :: r.sgs).length+1=l.size+r.size;rw [aaj,aaY];lia
def oG (n:Nat):Sp:=fun vs H Q _=>∃ w v,vs=[v]∧WyIn H w v∧w.size≤20∧w.deep≤n∧∀ H',Same H H'→Q (.str (al w.sgs)) H'
abbrev d9:Stmt:=top 19
theorem cB:FnScope ["way","sign","left","right"] ["way"] (am d9):=⟨rfl,rfl,rfl,by decide +kernel,rfl,by decide +kernel,by decide +kernel⟩
theorem jD (F:Fun K "join_signs" "join_signs" d9 f fd) (bF:Binds K fd ["way"] []) (mF:mg "join_signs" = some (.ref f)) (C_is_whole:Cal P w K mg base "is_whole" 1 ["thing"] (du K)) :
    ∀ n,FnOk P w K mg base CX0 (n+1) f fd ["way"] (oG n):=by
  intro n
  induction n with
  | zero =>
    refine ⟨fun vs H Q E h=>?_,fun A outer s H args us vs Q E _ _ _ _ h=>?_⟩
    · obtain ⟨x,v,rfl,_⟩:=h;rfl
    · obtain ⟨wy,v,_,_,_,hd,_⟩:=h;cases wy <;> exact absurd hd (by simp [Wy.deep])
  | succ n ih =>
    have C_join_signs:Cal P w K mg base "join_signs" (n+1) ["way"] (oG n):=⟨f,fd,ih,bF,F.kp,mF⟩
    refine F.ok cB (fun vs H Q E h=>?_) (fun cdv A outer s H vs Q E hr h=>?_)
    · obtain ⟨x,v,rfl,_⟩:=h;rfl
    obtain ⟨wy,v,rfl,hw,h20,hd,q⟩:=h;refine ⟨_,(@af _ _ _ _ _ (@aY _ _ _ _ _ _ _ _ (@bh _ _ _ (@ah _ _ _ _ _ _ _ _ _ _ _ C_is_whole hr (by lia) rfl (@aa _ _ _ _ _ (pv 0) ac (by rfl)) (by decide) (by rfl) (by rfl)) (by intro _;rfl)) (@ag _ _ _ (@ar _ _ _ _ bc)) aG) (@af _ _ _ _ _ (@dE _ _ _ _ _ _ (pv 0) (@dF _ _ _ _ _ _ rfl (@aD _ _ _ _ _ (@aj _ _ (1) _ (cB).nd rfl (Or.inl rfl) (.inl rfl)) (@aD _ _ _ _ _ (@aj _ _ (2) _ (cB).nd rfl (Or.inl rfl) (.inl rfl)) (@aD _ _ _ _ _ (@aj _ _ (3) _ (cB).nd rfl (Or.inl rfl) (.inl rfl)) bX (by rfl)) (by rfl)) (by rfl)) (by rfl) (by rfl)) (by rfl) (by rfl) (by rfl)) (@ag _ _ _ (@ar _ _ _ _ (@ap _ _ _ _ _ _ _ _ fY (@ap _ _ _ _ _ _ _ _ fY (@ah _ _ _ _ _ _ _ _ _ _ _ C_join_signs hr (by lia) rfl (@aa _ _ _ _ _ (pv 2) ac (by rfl)) (by decide) (by rfl) (by rfl)) (pv 1)) (@ah _ _ _ _ _ _ _ _ _ _ _ C_join_signs hr (by lia) rfl (@aa _ _ _ _ _ (pv 3) ac (by rfl)) (by decide) (by rfl) (by rfl))))))),?_⟩;cases wy with
    | num i =>
      cases hw;exact ⟨_,rfl,_,"int",rfl,.int i,true,rfl,aI (q H (Same.refl H))⟩
    | node g l r =>
      obtain ⟨a,vl,vr,rfl,ha,hl,hr'⟩:=hw;refine ⟨_,rfl,_,"tuple",rfl,.tup ha,false,rfl,aB ?_⟩;have d:max l.deep r.deep+1≤n+1:=hd;have z:l.size+r.size≤20:=h20;have zl:=l.size_pos;have zr:=r.size_pos;have sl:=l.sgs_len;have sr:=r.sgs_len;refine ⟨_,rfl,a,_,rfl,SqT.of ha,rfl,_,_,rfl,_,_,rfl,_,_,rfl,rfl,?_⟩;refine ⟨_,rfl,l,vl,rfl,hl,by lia,by lia,fun H1 g1=>?_⟩;refine ⟨_,rfl,_,_,rfl,rfl,cE (by rw [d2,m_];lia),?_⟩;refine ⟨_,rfl,r,vr,rfl,hr'.mono (Tups.of g1),by lia,by lia,fun H2 g2=>?_⟩;refine ⟨_,_,rfl,rfl,cE (by rw [oF,d2,m_,d2];lia),?_⟩;have e:al (l.sgs++g :: r.sgs)=al l.sgs++g.str++al r.sgs:=by rw [iN,jN];rfl
      have q':=q H2 (g1.trans g2);show Q (.str (al l.sgs++g.str++al r.sgs)) H2;rw [← e];exact q'
open PySem L2
theorem ig (x m:Int) (h:0 < m):0≤x % m∧x % m < m:=⟨Int.emod_nonneg x (by lia),Int.emod_lt_of_pos x h⟩
end
open PySem L2
def Pot (H:Hp) (w:Addr):Prop:=∃ a c k,H w=some (.lst [.int a,.int c,.int k])
theorem Pot.keep {H H':Hp} {w:Addr} (h:Pot H w) (s:Same H H'):Pot H' w:=by
  obtain ⟨a,c,k,e⟩:=h;exact ⟨a,c,k,s _ _ e⟩
theorem Pot.ne {w p:Addr} {H:Hp} (h:Pot H w) (n:H p=none):p≠w:=fun e=>by
  subst e;obtain ⟨_,_,_,z⟩:=h;rw [z] at n;cases n
theorem Pot.tups {w:Addr} {H H':Hp} (h:Pot H w) (b:But w H H'):Tups H H':=by
  obtain ⟨_,_,_,z⟩:=h;exact Tups.but b z
theorem Pot.free {w p:Addr} {H H':Hp} (h:Pot H' w) (b:But w H H') (n:H' p=none):H p=none:=by
  cases q:H p with
  | none=>rfl
  | some o=>rw [b p o (h.ne n) q] at n;cases n
section
variable {P:Program} {w:World} {K:aaa} {mg:Str→Option Value} {base:Heap} {f:Addr} {fd:FuncData}
def cL (ns:List Int):Prop:=∀ i∈ns,-1000000000000 < i∧i < 1000000000000
theorem rl {xs:List Int} {r:Int} (h0:0≤r) (h1:r < xs.length):∃ u:Int,atI (xs.map V.int) r=some (.int u)∧u∈xs:=by
  obtain ⟨j,rfl⟩:∃ j:Nat,r=(j:Int):=⟨r.toNat,by lia⟩
  have hj:j < xs.length:=by lia
  exact ⟨xs[j],cG (by rw [aao,aac hj];rfl),abx hj⟩
theorem pm {k:Int} (h0:0≤k) (h1:k < 2):∃ z:Int,atI [V.int 1,.int (-1)] k=some (.int z)∧(z=1∨z=-1):=by
  have : k=0∨k=1:=by lia
  rcases this with rfl|rfl
  · exact ⟨1,rfl,.inl rfl⟩
  · exact ⟨-1,rfl,.inr rfl⟩
def kz:List V:=[.str "+",.str "-",.str "*",.str "+-",.str "+*",.str "-*",.str "+-*"]
def cX (gs:List Sg):Prop:=inV (.str (al gs)) kz=true
theorem yh {k:Int} (h0:0≤k) (h1:k < 8):∃ gs:List Sg,atI [V.str "+",.str "-",.str "*",.str "+-",.str "+*",.str "-*",.str "+-*",.str "+-*"] k=some (.str (al gs))∧1≤gs.length∧gs.length≤3∧cX gs:=by
  have : k=0∨k=1∨k=2∨k=3∨k=4∨k=5∨k=6∨k=7:=by lia
  rcases this with rfl|rfl|rfl|rfl|rfl|rfl|rfl|rfl
  · exact ⟨[.plus],by rfl,by decide,by decide,by unfold cX;decide +kernel⟩
  · exact ⟨[.minus],by rfl,by decide,by decide,by unfold cX;decide +kernel⟩
  · exact ⟨[.times],by rfl,by decide,by decide,by unfold cX;decide +kernel⟩
  · exact ⟨[.plus,.minus],by rfl,by decide,by decide,by unfold cX;decide +kernel⟩
  · exact ⟨[.plus,.times],by rfl,by decide,by decide,by unfold cX;decide +kernel⟩
  · exact ⟨[.minus,.times],by rfl,by decide,by decide,by unfold cX;decide +kernel⟩
  · exact ⟨[.plus,.minus,.times],by rfl,by decide,by decide,by unfold cX;decide +kernel⟩
  · exact ⟨[.plus,.minus,.times],by rfl,by decide,by decide,by unfold cX;decide +kernel⟩
def kn:Sp:=fun vs H Q _=>∃ c k,vs=[.int c,.int k]∧∀ r,Q (.int r) H
abbrev eD:Stmt:=top 34
theorem dz:FnScope ["cell","k","number"] ["cell","k"] (am eD):=⟨rfl,rfl,rfl,by decide +kernel,rfl,by decide +kernel,by decide +kernel⟩
theorem rF (F:Fun K "_law_mixed" "_law_mixed" eD f fd):FnOk P w K mg base CX0 1 f fd ["cell","k"] kn:=by
  refine F.ok dz (fun vs H Q E h=>?_) (fun cdv A outer s H vs Q E hr h=>?_)
  · obtain ⟨c,k,rfl,_⟩:=h;rfl
  obtain ⟨c,k,rfl,q⟩:=h;refine ⟨_,(@af _ _ _ _ _ (@av _ _ (2) _ _ _ _ (dz).nd rfl (Or.inl rfl) (@ap _ _ _ _ _ _ _ _ cQ (@ap _ _ _ _ _ _ _ _ dq (@ap _ _ _ _ _ _ _ _ bf (@ap _ _ _ _ _ _ _ _ bf (@ap _ _ _ _ _ _ _ _ cQ (pv 0) ae) (@ap _ _ _ _ _ _ _ _ dq ae (pv 1))) ae) ae) ae) (by rfl) (by first|exact .inl rfl|exact .inr rfl|assumption)) (@af _ _ _ _ _ (@av _ _ (2) _ _ _ _ (dz).nd rfl (Or.inl rfl) (@ap _ _ _ _ _ _ _ _ cQ (@ap _ _ _ _ _ _ _ _ dq (pv 2) (pv 2)) ae) (by rfl) (by first|exact .inl rfl|exact .inr rfl|assumption)) (@ag _ _ _ (@ar _ _ _ _ (@ap _ _ _ _ _ _ _ _ iY (@ap _ _ _ _ _ _ _ _ cQ (@ap _ _ _ _ _ _ _ _ dq (@ap _ _ _ _ _ _ _ _ bf (pv 2) (@ap _ _ _ _ _ _ _ _ dq ae (@ap _ _ _ _ _ _ _ _ bf (pv 1) ae))) ae) ae) ae))))),?_⟩;have z:=ig ((c % 2147483647+7919 * k+1) * 48271) 2147483647 (by decide);refine ⟨_,rfl,_,_,rfl,rfl,(show (0:Int) < 2147483647 by decide),_,rfl,_,_,rfl,rfl,.inl ⟨by decide,by decide⟩,_,_,rfl,rfl,_,_,rfl,rfl,_,_,rfl,rfl,.inr ⟨by decide,by decide⟩,_,_,rfl,rfl,(show (0:Int) < 2147483647 by decide),?_⟩;refine ⟨_,rfl,_,rfl,_,_,rfl,rfl,.inl ⟨by lia,by lia⟩,_,_,rfl,rfl,(show (0:Int) < 2147483629 by decide),?_⟩;refine ⟨_,rfl,_,rfl,_,_,rfl,rfl,_,_,rfl,rfl,.inl ⟨by decide,by decide⟩,_,_,rfl,rfl,_,_,rfl,rfl,.inr ⟨by decide,by decide⟩,_,_,rfl,rfl,(show (0:Int) < 2147483579 by decide),_,_,rfl,rfl,⟨by decide,by decide⟩,?_⟩;exact q _
def qS:Sp:=fun vs H Q _=>∃ cell,vs=[.int cell]∧∀ p H',Same H H'→H p=none→Pot H' p→Q (.ref p) H'
theorem p50:((10:Int) ^ (50:Int).toNat).natAbs < 2 ^ 4000∧((10:Int) ^ (50:Int).toNat * 10 ^ (50:Int).toNat).natAbs < 2 ^ 4000∧((10:Int) ^ (50:Int).toNat * 10 ^ (50:Int).toNat * 10 ^ (50:Int).toNat).natAbs < 2 ^ 4000∧0 < ((10:Int) ^ (50:Int).toNat * 10 ^ (50:Int).toNat * 10 ^ (50:Int).toNat * 10 ^ (50:Int).toNat):=by decide +kernel
abbrev fU:Stmt:=top 35
theorem lO:FnScope ["cell"] ["cell"] (am fU):=⟨rfl,rfl,rfl,by decide +kernel,rfl,by decide +kernel,by decide +kernel⟩
theorem vp (F:Fun K "_law_pot" "_law_pot" fU f fd) (B:Bu K mg):FnOk P w K mg base CX0 1 f fd ["cell"] qS:=by
  refine F.ok lO (fun vs H Q E h=>?_) (fun cdv A outer s H vs Q E hr h=>?_)
  · obtain ⟨c,rfl,_⟩:=h;rfl
  obtain ⟨c,rfl,q⟩:=h;refine ⟨_,(@ag _ _ _ (@ar _ _ _ _ (@aJ _ _ _ _ (@aa _ _ _ _ _ (@ap _ _ _ _ _ _ _ _ dq (@ap _ _ _ _ _ _ _ _ cQ (pv 0) (@ap _ _ _ _ _ _ _ _ gt (@ap _ _ _ _ _ _ _ _ gt (@ap _ _ _ _ _ _ _ _ gt (@ap _ _ _ _ _ _ _ _ fk ae ae) (@ap _ _ _ _ _ _ _ _ fk ae ae)) (@ap _ _ _ _ _ _ _ _ fk ae ae)) (@ap _ _ _ _ _ _ _ _ fk ae ae))) (@bo _ _ _ _ _ _ _ _ _ cA rfl B.iint aa3 (@aa _ _ _ _ _ (@aO _ _ _ _ _ _ _ _ wN (pv 0) (@ap _ _ _ _ _ _ _ _ fk ae ae) (az _)) ac (by rfl)) (by decide) (by decide) (by rfl) (by rfl))) (@aa _ _ _ _ _ (pv 0) (@aa _ _ _ _ _ ae ac (by rfl)) (by rfl)) (by rfl))))),?_⟩;obtain ⟨b1,b2,b3,b4⟩:=p50;have cp:xw 10 50:=⟨by decide,by decide,by decide⟩
  refine ⟨_,rfl,_,_,rfl,rfl,cp,_,_,rfl,rfl,cp,_,_,rfl,rfl,⟨b1,b1⟩,_,_,rfl,rfl,cp,_,_,rfl,rfl,⟨b2,b1⟩,_,_,rfl,rfl,cp,_,_,rfl,rfl,⟨b3,b1⟩,_,_,rfl,rfl,b4,?_⟩;refine ⟨_,rfl,_,_,rfl,rfl,⟨by decide,by decide,by decide⟩,_,_,rfl,rfl,.inr ⟨_,rfl,_,_,rfl,rfl,.inr ?_,_,rfl,(by show 3≤sizeLine;decide),fun p hp=>q p _ (Same.new hp _) hp ⟨_,_,_,ad⟩⟩⟩;split <;> exact ⟨by decide,by decide⟩
def dX:Sp:=fun vs H Q _=>∃ w m,vs=[.ref w,.int m]∧0 < m∧m < 2 ^ 63∧Pot H w∧∀ r H',0≤r→r < m→But w H H'→Pot H' w→Q (.int r) H'
abbrev fc:Stmt:=top 36
theorem gg:FnScope ["pot","many","told"] ["pot","many"] (am fc):=⟨rfl,rfl,rfl,by decide +kernel,rfl,by decide +kernel,by decide +kernel⟩
theorem tQ (F:Fun K "_law_take" "_law_take" fc f fd) (C__law_mixed:Cal P w K mg base "_law_mixed" 1 ["cell","k"] kn):FnOk P w K mg base CX0 2 f fd ["pot","many"] dX:=by
  refine F.ok gg (fun vs H Q E h=>?_) (fun cdv A outer s H vs Q E hr h=>?_)
  · obtain ⟨w,m,rfl,_⟩:=h;rfl
  obtain ⟨wl,m,rfl,h0,h1,⟨a,c,k,e⟩,q⟩:=h;refine ⟨_,(@af _ _ _ _ _ (@dE _ _ _ _ _ _ (@ap _ _ _ _ _ _ _ _ bf (@aM _ _ _ _ _ _ _ aQ (pv 0) ae (fun _ _=>rfl)) ae) (@kF _ _ _ _ _ _ _ (pv 0) ae lI (by intro _;rfl)) (by rfl) (by rfl) (by rfl)) (@af _ _ _ _ _ (@aY _ _ _ _ _ _ _ _ (@aF _ _ _ _ _ _ _ _ uz (@aM _ _ _ _ _ _ _ aQ (pv 0) ae (fun _ _=>rfl)) ae (az _)) (@af _ _ _ _ _ (@av _ _ (2) _ _ _ _ (gg).nd rfl (Or.inl rfl) (@ap _ _ _ _ _ _ _ _ cQ (@aM _ _ _ _ _ _ _ aQ (pv 0) ae (fun _ _=>rfl)) (pv 1)) (by rfl) (by first|exact .inl rfl|exact .inr rfl|assumption)) (@af _ _ _ _ _ (@dE _ _ _ _ _ _ (@ap _ _ _ _ _ _ _ _ iY (@aM _ _ _ _ _ _ _ aQ (pv 0) ae (fun _ _=>rfl)) (pv 1)) (@kF _ _ _ _ _ _ _ (pv 0) ae lI (by intro _;rfl)) (by rfl) (by rfl) (by rfl)) (@ag _ _ _ (@ar _ _ _ _ (pv 2))))) aG) (@ag _ _ _ (@ar _ _ _ _ (@ap _ _ _ _ _ _ _ _ cQ (@ah _ _ _ _ _ _ _ _ _ _ _ C__law_mixed hr (by lia) rfl (@aa _ _ _ _ _ (@aM _ _ _ _ _ _ _ aQ (pv 0) ae (fun _ _=>rfl)) (@aa _ _ _ _ _ (@aM _ _ _ _ _ _ _ aQ (pv 0) ae (fun _ _=>rfl)) ac (by rfl)) (by rfl)) (by decide) (by rfl) (by rfl)) (pv 1)))))),?_⟩;refine ⟨_,rfl,wl,_,_,_,rfl,rfl,SqL.of e,rfl,_,_,rfl,rfl,_,rfl,wl,_,_,2,rfl,rfl,e,rfl,?_⟩;have e1:upd H wl (.lst (List.set [V.int a,.int c,.int k] 2 (.int (k+1)))) wl=some (.lst [.int a,.int c,.int (k+1)]):=ad;have b1:But wl H (upd H wl (.lst (List.set [V.int a,.int c,.int k] 2 (.int (k+1))))):=But.put;show (_:Hp→Prop) (upd H wl (.lst (List.set [V.int a,.int c,.int k] 2 (.int (k+1)))));generalize upd H wl (.lst (List.set [V.int a,.int c,.int k] 2 (.int (k+1))))=H1 at e1 b1 ⊢;refine ⟨_,rfl,wl,_,_,_,rfl,rfl,SqL.of e1,rfl,_,_,rfl,rfl,_,rfl,g_ (fun _=>?_) (fun _=>?_)⟩
  · refine ⟨_,rfl,wl,_,_,_,rfl,rfl,SqL.of e1,rfl,_,rfl,_,_,rfl,rfl,h0,?_⟩;refine ⟨_,rfl,wl,_,_,_,rfl,rfl,SqL.of e1,rfl,_,rfl,_,_,rfl,rfl,⟨h0,by lia⟩,_,rfl,wl,_,_,0,rfl,rfl,e1,rfl,?_⟩;refine ⟨_,rfl,?_⟩;have z:=ig a m h0;exact q _ _ z.1 z.2 (b1.trans But.put) ⟨_,_,_,ad⟩
  · refine ⟨_,rfl,wl,_,_,_,rfl,rfl,SqL.of e1,rfl,_,rfl,wl,_,_,_,rfl,rfl,SqL.of e1,rfl,_,_,rfl,fun r=>?_⟩;have z:=ig r m h0;exact ⟨_,rfl,_,_,rfl,rfl,h0,q _ _ z.1 z.2 b1 ⟨_,_,_,e1⟩⟩
def iH:Sp:=fun vs H Q _=>∃ w y,vs=[.ref w,.int y]∧0≤y∧y < 6∧Pot H w∧∀ r H',-1000000000000 < r→r < 1000000000000→But w H H'→Pot H' w→Q (.int r) H'
abbrev dC:Stmt:=top 37
theorem de:FnScope ["pot","way","far","some"] ["pot","way"] (am dC):=⟨rfl,rfl,rfl,by decide +kernel,rfl,by decide +kernel,by decide +kernel⟩
theorem qk (F:Fun K "_law_number" "_law_number" dC f fd) (C__law_take:Cal P w K mg base "_law_take" 2 ["pot","many"] dX):FnOk P w K mg base CX0 3 f fd ["pot","way"] iH:=by
  refine F.ok de (fun vs H Q E h=>?_) (fun cdv A outer s H vs Q E hr h=>?_)
  · obtain ⟨w,m,rfl,_⟩:=h;rfl
  obtain ⟨wl,y,rfl,y0,y6,hp,q⟩:=h;refine ⟨_,(@af _ _ _ _ _ (@av _ _ (2) _ _ _ _ (de).nd rfl (Or.inl rfl) (@ap _ _ _ _ _ _ _ _ bf (@ap _ _ _ _ _ _ _ _ dq (@ah _ _ _ _ _ _ _ _ _ _ _ C__law_take hr (by lia) rfl (@aa _ _ _ _ _ (pv 0) (@aa _ _ _ _ _ (@ap _ _ _ _ _ _ _ _ fk ae ae) ac (by rfl)) (by rfl)) (by decide) (by rfl) (by rfl)) (@ap _ _ _ _ _ _ _ _ fk ae ae)) (@ah _ _ _ _ _ _ _ _ _ _ _ C__law_take hr (by lia) rfl (@aa _ _ _ _ _ (pv 0) (@aa _ _ _ _ _ (@ap _ _ _ _ _ _ _ _ fk ae ae) ac (by rfl)) (by rfl)) (by decide) (by rfl) (by rfl))) (by rfl) (by first|exact .inl rfl|exact .inr rfl|assumption)) (@af _ _ _ _ _ (@av _ _ (3) _ _ _ _ (de).nd rfl (Or.inl rfl) (@aJ _ _ _ _ (@aa _ _ _ _ _ (@ap _ _ _ _ _ _ _ _ cQ (pv 2) ae) (@aa _ _ _ _ _ (@ap _ _ _ _ _ _ _ _ dn (@ap _ _ _ _ _ _ _ _ cQ (pv 2) ae) ae) (@aa _ _ _ _ _ (@ap _ _ _ _ _ _ _ _ dn (@ap _ _ _ _ _ _ _ _ cQ (pv 2) ae) ae) (@aa _ _ _ _ _ (@ap _ _ _ _ _ _ _ _ dq (pv 2) (@aM _ _ _ _ _ _ _ aQ (@aJ _ _ _ _ (@aa _ _ _ _ _ ae (@aa _ _ _ _ _ (@h_ _ _ _ _ _ _ eV ae) ac (by rfl)) (by rfl))) (@ah _ _ _ _ _ _ _ _ _ _ _ C__law_take hr (by lia) rfl (@aa _ _ _ _ _ (pv 0) (@aa _ _ _ _ _ ae ac (by rfl)) (by rfl)) (by decide) (by rfl) (by rfl)) (fun _ _=>rfl))) (@aa _ _ _ _ _ (@ap _ _ _ _ _ _ _ _ cQ (pv 2) ae) (@aa _ _ _ _ _ (@ap _ _ _ _ _ _ _ _ bf ae (@ap _ _ _ _ _ _ _ _ cQ (pv 2) ae)) ac (by rfl)) (by rfl)) (by rfl)) (by rfl)) (by rfl)) (by rfl))) (by rfl) (by first|exact .inl rfl|exact .inr rfl|assumption)) (@ag _ _ _ (@ar _ _ _ _ (@aM _ _ _ _ _ _ _ aQ (pv 3) (pv 1) (fun _ _=>rfl)))))),?_⟩;have p6:(10:Int) ^ (6:Int).toNat=1000000:=by decide
  refine ⟨_,rfl,10,6,rfl,rfl,⟨by decide,by decide,by decide⟩,wl,_,rfl,(by decide),(by decide),hp,fun r1 H1 a1 c1 b1 w1=>⟨10,6,rfl,rfl,⟨by decide,by decide,by decide⟩,_,_,rfl,rfl,.inr ⟨by decide,by decide⟩,?_⟩⟩;refine ⟨_,rfl,10,6,rfl,rfl,⟨by decide,by decide,by decide⟩,wl,_,rfl,(by decide),(by decide),w1,fun r2 H2 a2 c2 b2 w2=>⟨_,_,rfl,rfl,?_⟩⟩;have r1b:r1 < 1000000:=c1;have r2b:r2 < 1000000:=c2;have f0:0≤(r1 * 10 ^ (6:Int).toNat+r2)∧(r1 * 10 ^ (6:Int).toNat+r2) < 1000000000000:=by rw [p6];lia
  have m10:=ig (r1 * 10 ^ (6:Int).toNat+r2) 10 (by decide);have m3:=ig (r1 * 10 ^ (6:Int).toNat+r2) 3 (by decide);have m101:=ig (r1 * 10 ^ (6:Int).toNat+r2) 101 (by decide);have m2:=ig (r1 * 10 ^ (6:Int).toNat+r2) 2 (by decide);have m9:=ig (r1 * 10 ^ (6:Int).toNat+r2) 9 (by decide);refine ⟨_,rfl,_,_,rfl,rfl,(show (0:Int) < 10 by decide),_,rfl,_,_,rfl,rfl,(show (0:Int) < 3 by decide),_,_,rfl,rfl,_,rfl,_,_,rfl,rfl,(show (0:Int) < 101 by decide),_,_,rfl,rfl,_,rfl,_,rfl,(by show 2≤sizeLine;decide),fun p3 n3=>?_⟩;have s3:=Same.new n3 (.lst [V.int 1,.int (-1)]);have e3:upd H2 p3 (.lst [V.int 1,.int (-1)]) p3=some (.lst [V.int 1,.int (-1)]):=ad;have w3:=w2.keep s3;have n3w:=w2.ne n3;have b3:But wl H2 _:=But.of s3;generalize upd H2 p3 (.lst [V.int 1,.int (-1)])=H3 at s3 e3 w3 b3 ⊢;refine ⟨_,rfl,wl,2,rfl,by decide,by decide,w3,fun r3 H4 a3 c3 b4 w4=>?_⟩;obtain ⟨s1,hs1,vs1⟩:=pm a3 c3;refine ⟨p3,_,_,_,rfl,rfl,SqL.of (b4 _ _ n3w e3),hs1,_,_,rfl,rfl,.inl ⟨by lia,by lia⟩,?_⟩;refine ⟨_,rfl,_,_,rfl,rfl,(show (0:Int) < 2 by decide),_,rfl,_,_,rfl,rfl,(show (0:Int) < 9 by decide),_,_,rfl,rfl,(by show 6≤sizeLine;decide),fun p5 n5=>?_⟩;have s5:=Same.new n5 (.lst (([(r1 * 10 ^ (6:Int).toNat+r2) % 10,(r1 * 10 ^ (6:Int).toNat+r2) % 3 - 1,(r1 * 10 ^ (6:Int).toNat+r2) % 101 - 50,(r1 * 10 ^ (6:Int).toNat+r2) * s1,(r1 * 10 ^ (6:Int).toNat+r2) % 2,1+(r1 * 10 ^ (6:Int).toNat+r2) % 9]:List Int).map V.int));obtain ⟨el,hel,mel⟩:=rl (xs:=[(r1 * 10 ^ (6:Int).toNat+r2) % 10,(r1 * 10 ^ (6:Int).toNat+r2) % 3 - 1,(r1 * 10 ^ (6:Int).toNat+r2) % 101 - 50,(r1 * 10 ^ (6:Int).toNat+r2) * s1,(r1 * 10 ^ (6:Int).toNat+r2) % 2,1+(r1 * 10 ^ (6:Int).toNat+r2) % 9]) y0 y6;refine ⟨_,rfl,_,rfl,p5,_,_,_,rfl,rfl,SqL.of ad,hel,?_⟩;have sb:-1000000000000 < el∧el < 1000000000000:=by
    simp only [aai,aaP,or_false] at mel;rcases mel with rfl|rfl|rfl|rfl|rfl|rfl
    · lia
    · lia
    · lia
    · rcases vs1 with rfl|rfl <;> lia
    · lia
    · lia
  exact q el _ sb.1 sb.2 ((((b1.trans b2).trans b3).trans b4).trans (But.of s5)) (w4.keep s5)
def mX:Sp:=fun vs H Q _=>∃ w n,vs=[.ref w,.int n]∧1≤n∧n≤20∧Pot H w ∧
  ∀ p ns H',But w H H'→Pot H' w→H p=none→H' p=some (.lst (ns.map V.int))→(ns.length:Int)=n→cL ns→Q (.ref p) H'
abbrev fS:Stmt:=top 38
theorem bK:FnScope ["pot","many","way","found","k","kind"] ["pot","many"] (am fS):=⟨rfl,rfl,rfl,by decide +kernel,rfl,by decide +kernel,by decide +kernel⟩
theorem vn (F:Fun K "_law_row" "_law_row" fS f fd) (B:Bu K mg) (C__law_take:Cal P w K mg base "_law_take" 2 ["pot","many"] dX) (C__law_number:Cal P w K mg base "_law_number" 3 ["pot","way"] iH):FnOk P w K mg base CX0 4 f fd ["pot","many"] mX:=by
  refine F.ok bK (fun vs H Q E h=>?_) (fun cdv A outer s H vs Q E hr h=>?_)
  · obtain ⟨w,m,rfl,_⟩:=h;rfl
  obtain ⟨wl,n,rfl,h1,h20,hp,q⟩:=h;refine ⟨_,(@af _ _ _ _ _ (@av _ _ (2) _ _ _ _ (bK).nd rfl (Or.inl rfl) (@ah _ _ _ _ _ _ _ _ _ _ _ C__law_take hr (by lia) rfl (@aa _ _ _ _ _ (pv 0) (@aa _ _ _ _ _ ae ac (by rfl)) (by rfl)) (by decide) (by rfl) (by rfl)) (by rfl) (by first|exact .inl rfl|exact .inr rfl|assumption)) (@af _ _ _ _ _ (@av _ _ (3) _ _ _ _ (bK).nd rfl (Or.inl rfl) (@aJ _ _ _ _ ac) (by rfl) (by first|exact .inl rfl|exact .inr rfl|assumption)) (@af _ _ _ _ _ (@bb _ _ _ _ _ _ _ _ aaz rfl (@bz _ _ _ _ _ _ rfl B.irange (@aa _ _ _ _ _ (pv 1) ac (by rfl)) (by rfl)) (@aj _ _ (4) _ (bK).nd rfl (Or.inl rfl) (.inl rfl)) (@af _ _ _ _ _ (@av _ _ (5) _ _ _ _ (bK).nd rfl (Or.inl rfl) (pv 2) (by rfl) (by first|exact .inl rfl|exact .inr rfl|assumption)) (@gm _ _ _ _ _ (@aY _ _ _ _ _ _ _ _ (@aF _ _ _ _ _ _ _ _ uz (pv 2) ae (az _)) (@ag _ _ _ (@av _ _ (5) _ _ _ _ (bK).nd rfl (Or.inl rfl) (@ah _ _ _ _ _ _ _ _ _ _ _ C__law_take hr (by lia) rfl (@aa _ _ _ _ _ (pv 0) (@aa _ _ _ _ _ ae ac (by rfl)) (by rfl)) (by decide) (by rfl) (by rfl)) (by rfl) (by first|exact .inl rfl|exact .inr rfl|assumption))) aG) (@ag _ _ _ (@bS _ _ _ _ (@iW _ _ _ _ _ _ _ _ _ _ _ _ aa5 acq acr g0 (pv 3) (@aa _ _ _ _ _ (@ah _ _ _ _ _ _ _ _ _ _ _ C__law_number hr (by lia) rfl (@aa _ _ _ _ _ (pv 0) (@aa _ _ _ _ _ (pv 5) ac (by rfl)) (by rfl)) (by decide) (by rfl) (by rfl)) ac (by rfl)) (by rfl) (by rfl) (by rfl) (by rfl) (by rfl)) (by rfl))))) (by intro _;rfl)) (@gm _ _ _ _ _ (@aY _ _ _ _ _ _ _ _ (@aF _ _ _ _ _ _ _ _ bw (pv 2) ae (az _)) (@ag _ _ _ (@av _ _ (3) _ _ _ _ (bK).nd rfl (Or.inl rfl) (@ap _ _ _ _ _ _ _ _ kJ (@dj _ _ _ _ _ _ _ _ _ _ ge (pv 3) eI (@eF _ _ _ ae)) (pv 1)) (by rfl) (by first|exact .inl rfl|exact .inr rfl|assumption))) aG) (@ag _ _ _ (@ar _ _ _ _ (pv 3))))))),?_⟩;refine ⟨_,rfl,wl,9,rfl,by decide,by decide,hp,fun y H1 y0 y9 b1 w1=>?_⟩;refine ⟨(by show 0≤sizeLine;decide),fun pf nf=>?_⟩;have nfw:=w1.ne nf;have hfree:H pf=none:=w1.free b1 nf;refine ⟨_,rfl,n,rfl,by lia,by lia,bq (n:=n.toNat) (fun j σ H'=>∃ (ns:List Int) (c4 c5:Option V),σ=[some (.ref wl),some (.int n),some (.int y),some (.ref pf),c4,c5]∧H' pf=some (.lst (ns.map V.int))∧ns.length=j∧cL ns∧But wl H1 H'∧Pot H' wl) ⟨[],_,_,rfl,ad,rfl,(fun _ z=>nomatch z),But.new nf _,w1.keep (Same.new nf _)⟩ ?_ ?_⟩
  · rintro j σ H2 hj ⟨ns,c4,c5,rfl,ef,hl,hs,b2,w2⟩;refine ⟨_,rfl,fun σ H3=>∃ kd,σ=[some (.ref wl),some (.int n),some (.int y),some (.ref pf),some (.int (0+(j:Int))),some (.int kd)]∧0≤kd∧kd < 6∧But wl H2 H3∧Pot H3 wl,?_,?_⟩
    · refine ⟨_,rfl,_,_,rfl,rfl,_,rfl,g_ (fun c=>?_) (fun c=>?_)⟩
      · exact ⟨_,rfl,wl,6,rfl,by decide,by decide,w2,fun r H3 a3 c3 b3 w3=>⟨r,rfl,a3,c3,b3,w3⟩⟩
      · have c:¬ (5 < y):=fun z=>c (decide_eq_true z);exact ⟨y,rfl,y0,by lia,But.refl,w2⟩
    · rintro σ H3 ⟨kd,rfl,k0,k6,b3,w3⟩;have ef3:=b3 _ _ nfw ef;refine ⟨_,rfl,.inl ⟨rfl,_,SqL.of ef3⟩,_,rfl,_,rfl,wl,kd,rfl,k0,k6,w3,fun r H4 r1 r2 b4 w4=>?_⟩;have ef4:=b4 _ _ nfw ef3;refine ⟨pf,_,_,rfl,rfl,ef4,aA (by rw [aab];lia),?_⟩;refine ⟨ns++[r],_,_,rfl,by rw [ad,aaH];rfl,by rw [aaj,hl];rfl,fun x hx=>(aav.mp hx).elim (hs x) fun z=>by rw [aaM.mp z];exact ⟨r1,r2⟩,fun c o nc hc=>?_,?_⟩
      · by_cases z:c=pf
        · subst z;rw [nf] at hc;cases hc
        · rw [aq z];exact ((b2.trans b3).trans b4) c o nc hc
      · obtain ⟨wa,wb,wc,we⟩:=w4;exact ⟨wa,wb,wc,by rw [aq (abS nfw)];exact we⟩
  · rintro σ H2 ⟨ns,c4,c5,rfl,ef,hl,hs,b2,w2⟩;have lns:(ns.length:Int)=n:=by lia
    refine ⟨fun σ H3=>∃ pr ms,σ=[some (.ref wl),some (.int n),some (.int y),some (.ref pr),c4,c5]∧H3 pr=some (.lst (ms.map V.int))∧ms.length=ns.length∧cL ms∧But wl H2 H3∧Pot H3 wl∧H pr=none,?_,?_⟩
    · refine ⟨_,rfl,rfl,_,rfl,g_ (fun c=>?_) (fun c=>?_)⟩
      · refine ⟨_,rfl,1,rfl,pf,_,rfl,SqL.of ef,fun p3 n3=>?_⟩;have s3:=Same.new n3 (.lst (fw (ns.map V.int) none (some 1)));obtain ⟨x0,r0,rfl⟩:∃ x0 r0,ns=x0 :: r0:=by
          cases ns with
          | nil=>simp at lns;lia
          | cons x r=>exact ⟨x,r,rfl⟩
        have ec:fw ((x0 :: r0).map V.int) none (some 1)=[V.int x0]:=by
          unfold fw HT.sIx;simp
        rw [ec] at s3 ⊢;refine ⟨_,rfl,p3,n,_,rfl,rfl,ad,by lia,by lia,cE (by simp;lia),fun p4 n4=>?_⟩;have s4:=Same.new n4 (.lst (aaQ n.toNat [V.int x0]).flatten);have er:(aaQ n.toNat [V.int x0]).flatten=(aaQ n.toNat x0).map V.int:=by simp
        have S4:=s3.trans s4;refine ⟨p4,aaQ n.toNat x0,rfl,by rw [ad,er],by rw [List.length_replicate];lia,fun x hx=>?_,But.of S4,w2.keep S4,?_⟩
        · rw [List.eq_of_mem_replicate hx];exact hs x0 aat
        · have n4':H2 p4=none:=s3.free n4;have n41:H1 p4=none:=by
            cases e:H1 p4 with
            | none=>rfl
            | some o=>rw [b2 _ _ (w2.ne n4') e] at n4';cases n4'
          exact w1.free b1 n41
      · exact ⟨pf,ns,rfl,ef,rfl,hs,But.refl,w2,hfree⟩
    · rintro σ H3 ⟨pr,ms,rfl,er,lm,hm,b3,w3,fr⟩;exact ⟨_,rfl,q pr ms H3 ((b1.trans b2).trans b3) w3 fr er (by lia) hm⟩
def iG:Sp:=fun vs H Q _=>∃ w,vs=[.ref w]∧Pot H w∧∀ gs H',1≤gs.length→gs.length≤3→cX gs→But w H H'→Pot H' w→Q (.str (al gs)) H'
abbrev eA:Stmt:=top 39
theorem jA:FnScope ["pot"] ["pot"] (am eA):=⟨rfl,rfl,rfl,by decide +kernel,rfl,by decide +kernel,by decide +kernel⟩
theorem kN (F:Fun K "_law_signs" "_law_signs" eA f fd) (C__law_take:Cal P w K mg base "_law_take" 2 ["pot","many"] dX):FnOk P w K mg base CX0 3 f fd ["pot"] iG:=by
  refine F.ok jA (fun vs H Q E h=>?_) (fun cdv A outer s H vs Q E hr h=>?_)
  · obtain ⟨x,rfl,_⟩:=h;rfl
  obtain ⟨wl,rfl,hw,q⟩:=h;refine ⟨_,(@ag _ _ _ (@ar _ _ _ _ (@aM _ _ _ _ _ _ _ aQ (@aJ _ _ _ _ (@aa _ _ _ _ _ bc (@aa _ _ _ _ _ bc (@aa _ _ _ _ _ bc (@aa _ _ _ _ _ bc (@aa _ _ _ _ _ bc (@aa _ _ _ _ _ bc (@aa _ _ _ _ _ bc (@aa _ _ _ _ _ bc ac (by rfl)) (by rfl)) (by rfl)) (by rfl)) (by rfl)) (by rfl)) (by rfl)) (by rfl))) (@ah _ _ _ _ _ _ _ _ _ _ _ C__law_take hr (by lia) rfl (@aa _ _ _ _ _ (pv 0) (@aa _ _ _ _ _ ae ac (by rfl)) (by rfl)) (by decide) (by rfl) (by rfl)) (fun _ _=>rfl)))),?_⟩;refine ⟨(by show 8≤sizeLine;decide),fun p1 n1=>?_⟩;have w1:=hw.keep (Same.new n1 (.lst [.str "+",.str "-",.str "*",.str "+-",.str "+*",.str "-*",.str "+-*",.str "+-*"]));refine ⟨_,rfl,wl,8,rfl,by decide,by decide,w1,fun r1 H1 a1 b1 g1 w2=>?_⟩;obtain ⟨gs,hg,l1,l2,l3⟩:=yh a1 b1;exact ⟨p1,_,_,_,rfl,rfl,SqL.of (g1 _ _ (hw.ne n1) ad),hg,q gs H1 l1 l2 l3 ((But.new n1 _).trans g1) w2⟩
end
open PySem L2
structure Cp (K:aaa) (mg:Str→Option Value) (tk:Tok) (aP:Addr):Prop where
  gMOST_NUMBERS:mg "MOST_NUMBERS" = some (.int 9 tk)
  gSIGNS_TO_PUT:mg "SIGNS_TO_PUT" = some (.ref aP)
  sSIGNS_TO_PUT:∀ H,SqT K H aP kz
theorem PairsIn.mono {H H':Hp} (t:Tups H H') {ps:List (Int × Int)} {vs:List V} (p:PairsIn H ps vs):PairsIn H' ps vs:=by
  induction p with
  | nil=>exact .nil
  | cons z _ ih=>obtain ⟨a,e,h⟩:=z;exact .cons ⟨a,e,t _ _ h⟩ ih
theorem PairsIn.app {H:Hp} {ps qs:List (Int × Int)} {vs us:List V} (a:PairsIn H ps vs) (b:PairsIn H qs us):PairsIn H (ps++qs) (vs++us):=by
  induction a with
  | nil=>exact b
  | cons x _ ih=>exact .cons x ih
theorem PairsIn.snoc {H:Hp} {ps:List (Int × Int)} {vs:List V} {p:Int × Int} {v:V} (h:PairsIn H ps vs) (x:PairIn H p v):PairsIn H (ps++[p]) (vs++[v]):=PairsIn.app h (.cons x .nil)
def sfR (n m:Nat):List (Int × Int):=(aa0 (n - m)).map fun (f:Nat)=>((f:Int),((f+m:Nat):Int))
def sfl (n i:Nat):List (Int × Int):=(aa0 i).flatMap fun m=>sfR n m
theorem lH (n i:Nat):sfl n (i+1)=sfl n i++sfR n i:=by
  unfold sfl;rw [List.range_succ,acm];simp
theorem kx (n i:Nat):(sfl n i).length≤i * n:=by
  induction i with
  | zero=>simp [sfl]
  | succ i ih =>
    rw [lH,aaj];have : (sfR n i).length≤n:=by simp [sfR]
    rw [Nat.succ_mul];lia
theorem oK (n:Nat) (a b:Nat) (h1:a≤b) (h2:b < n):((a:Int),(b:Int))∈sfl n n:=by
  unfold sfl sfR;rw [abn];refine ⟨b - a,aaN.mpr (by lia),?_⟩;rw [List.mem_map];refine ⟨a,aaN.mpr (by lia),?_⟩;have : a+(b - a)=b:=by lia
  rw [this]
section
variable {P:Program} {w:World} {K:aaa} {mg:Str→Option Value} {base:Heap} {f:Addr} {fd:FuncData}
def kq:Sp:=fun vs H Q _=>∃ (a:Addr) (ns:List Int),vs=[.ref a]∧H a=some (.lst (ns.map V.int))∧1≤ns.length∧ns.length≤9∧∀ H',Same H H'→Q (.bl true) H'
abbrev iT:Stmt:=top 9
theorem qc:FnScope ["thing"] ["thing"] (am iT):=⟨rfl,rfl,rfl,by decide +kernel,rfl,by decide +kernel,by decide +kernel⟩
theorem ql {tk:Tok} {aP:Addr} (F:Fun K "is_row" "is_row" iT f fd) (B:Bu K mg) (B3:Cp K mg tk aP) (C_is_whole:Cal P w K mg base "is_whole" 1 ["thing"] (du K)):FnOk P w K mg base CX0 2 f fd ["thing"] kq:=by
  refine F.ok qc (fun vs H Q E h=>?_) (fun cdv A outer s H vs Q E hr h=>?_)
  · obtain ⟨x,v,rfl,_⟩:=h;rfl
  obtain ⟨a,ns,rfl,ea,h1,h2,q⟩:=h;refine ⟨_,(@af _ _ _ _ _ (@aY _ _ _ _ _ _ _ _ (@PW.pt _ _ _ (@gj _ _ _ _ _ _ _ (@bT _ _ _ _ (@bh _ _ _ (@ak _ _ _ _ _ _ _ _ _ (@aN _ ("list")) rfl B.iisinstance aap (@aa _ _ _ _ _ (pv 0) (@aa _ _ _ _ _ (@bu _ _ (.ty "list") _ _ rfl B.ilist acC rfl (by decide) (by decide)) ac (by rfl)) (by rfl)) (by decide) (by decide) (by rfl) (by rfl)) (by intro _;rfl))) (@fi _ _ _ _ (@bT _ _ _ _ (@rf _ _ _ _ _ _ _ _ _ _ _ _ ic ic ae (@ak _ _ _ _ _ _ _ _ _ ay rfl B.ilen aaO (@aa _ _ _ _ _ (pv 0) ac (by rfl)) (by decide) (by decide) (by rfl) (by rfl)) (@gp _ _ (.int 9) _ _ rfl B3.gMOST_NUMBERS ⟨_,rfl⟩ (by decide)) (by with_unfolding_all rfl)))))) (@ag _ _ _ (@ar _ _ _ _ cJ)) aG) (@ag _ _ _ (@ar _ _ _ _ (@ak _ _ _ _ _ _ _ _ _ (@fB _ rfl) rfl B.iall abI (@aa _ _ _ _ _ (@bZ _ _ _ _ _ _ _ _ (["number"]) ([none]) _ _ _ _ rfl (@cV _ _ _ _ (pv 0)) rfl trivial trivial (fun _ _ _ _=>⟨(@aj _ _ (0) _ (show aaX (["number"]:List Str) by decide +kernel) rfl (Or.inl rfl) (.inr rfl)),aH,(@ah _ _ _ _ _ _ _ _ _ _ _ C_is_whole hr (by lia) rfl (@aa _ _ _ _ _ (pv 0) ac (by rfl)) (by decide) (by rfl) (by rfl))⟩) (by rfl) (by rfl) (by rfl) (by rfl) (by intro _;rfl)) ac (by rfl)) (by decide) (by decide) (by rfl) (by rfl))))),?_⟩;have hl:(ns.map V.int).length=ns.length:=aab _;refine ⟨_,rfl,_,_,true,rfl,.lst ea,rfl,true,rfl,aB ?_⟩;refine ⟨_,rfl,a,_,rfl,.inl (SqL.of ea),_,_,rfl,rfl,true,congrArg V.bl (decide_eq_true (by lia)),aI ?_⟩;refine ⟨_,_,rfl,rfl,true,congrArg V.bl (decide_eq_true (by lia)),aB ?_⟩;refine ⟨_,rfl,a,rfl,⟨_,SqL.of ea⟩,?_⟩;refine b_ (Trn.list (xs:=ns.map V.int)) (fun i ys H'=>H'=H∧ys=(aaQ i true).map V.bl) ⟨rfl,rfl⟩ (fun i ys H' hi p=>by rw [p.1,p.2];exact ⟨SqL.of ea,aA (by simp;lia)⟩) (fun i x ys H1 H' hi hx p Nx nx=>?_) (fun ys H' p p5 n5=>?_)
  · obtain ⟨rfl,rfl⟩:=p;obtain ⟨rfl,hx⟩:=hx;rw [aao] at hx;obtain ⟨c,_,rfl⟩:=aa7.mp hx;refine ⟨_,rfl,_,_,rfl,.int c,nx _ _ ⟨rfl,?_⟩⟩;rw [List.replicate_succ',aaH];rfl
  obtain ⟨rfl,rfl⟩:=p;refine ⟨p5,_,rfl,SqL.of ad,?_⟩;have e:((aaQ (ns.map V.int).length true).all id)=true:=by simp
  rw [e];exact q _ (Same.new n5 _)
def gG:Sp:=fun vs H Q _=>∃ (a:Addr) (ns:List Int),vs=[.ref a]∧H a=some (.lst (ns.map V.int))∧1≤ns.length∧ns.length≤9∧∀ H',Same H H'→Q .non H'
abbrev fP:Stmt:=top 13
theorem lK:FnScope ["thing"] ["thing"] (am fP):=⟨rfl,rfl,rfl,by decide +kernel,rfl,by decide +kernel,by decide +kernel⟩
theorem md (F:Fun K "need_row" "need_row" fP f fd) (C_is_row:Cal P w K mg base "is_row" 2 ["thing"] kq):FnOk P w K mg base CX0 3 f fd ["thing"] gG:=by
  refine F.ok lK (fun vs H Q E h=>?_) (fun cdv A outer s H vs Q E hr h=>?_)
  · obtain ⟨x,v,rfl,_⟩:=h;rfl
  obtain ⟨a,ns,rfl,ea,h1,h2,q⟩:=h;refine ⟨_,(@ag _ _ _ (@aY _ _ _ _ _ _ _ _ (@bT _ _ _ _ (@bh _ _ _ (@ah _ _ _ _ _ _ _ _ _ _ _ C_is_row hr (by lia) rfl (@aa _ _ _ _ _ (pv 0) ac (by rfl)) (by decide) (by rfl) (by rfl)) (by intro _;rfl))) (@ag _ _ _ lY) aG)),?_⟩;exact ⟨_,rfl,a,ns,rfl,ea,h1,h2,fun H' hS=>⟨true,rfl,aB (q H' hS)⟩⟩
def tm:Sp:=fun vs H Q _=>∃ n:Nat,vs=[.int n]∧n≤9∧∀ p us H',Same H H'→H p=none→H' p=some (.lst us)→PairsIn H' (sfl n n) us→Q (.ref p) H'
abbrev cN:Stmt:=top 15
theorem gN:FnScope ["many"] ["many"] (am cN):=⟨rfl,rfl,rfl,by decide +kernel,rfl,by decide +kernel,by decide +kernel⟩
theorem gX (F:Fun K "shorter_first" "shorter_first" cN f fd) (B:Bu K mg):FnOk P w K mg base CX0 1 f fd ["many"] tm:=by
  refine F.ok gN (fun vs H Q E h=>?_) (fun cdv A outer s H vs Q E hr h=>?_)
  · obtain ⟨l,rfl,_⟩:=h;rfl
  obtain ⟨n,rfl,h9,q⟩:=h;refine ⟨_,(@ag _ _ _ (@ar _ _ _ _ (@vb _ _ _ _ _ _ _ _ _ _ _ (["more","first","many"]) ([none,none,some 0]) _ _ _ _ _ _ _ rfl (@bz _ _ _ _ _ _ rfl B.irange (@aa _ _ _ _ _ (pv 0) ac (by rfl)) (by rfl)) rfl ⟨rfl,trivial⟩ ⟨⟨rfl,Or.inl rfl,Or.inl rfl⟩,trivial⟩ (fun _ _ _ _=>⟨(@aj _ _ (0) _ (show aaX (["more","first","many"]:List Str) by decide +kernel) rfl (Or.inl rfl) (.inr rfl)),aH,(@bz _ _ _ _ _ _ rfl B.irange (@aa _ _ _ _ _ (@ap _ _ _ _ _ _ _ _ dn (pv 2) (pv 0)) ac (by rfl)) (by rfl)),(@aj _ _ (1) _ (show aaX (["more","first","many"]:List Str) by decide +kernel) rfl (Or.inl rfl) (.inr rfl)),aH,(@au _ _ _ _ _ (@aa _ _ _ _ _ (pv 1) (@aa _ _ _ _ _ (@ap _ _ _ _ _ _ _ _ bf (pv 1) (pv 0)) ac (by rfl)) (by rfl)))⟩) (by rfl) (by rfl) (by rfl) (by rfl) (by intro _;rfl) (by intro _ _;rfl)))),?_⟩;refine ⟨_,rfl,n,rfl,by lia,by lia,?_⟩;refine vA (Trn.range (lo:=0) (n:=(n:Int).toNat)) (fun i ys H'=>Same H H'∧PairsIn H' (sfl n i) ys) ⟨Same.refl _,.nil⟩ (fun i ys H' hi p=>trivial) (fun i x ys H1 H' hi hx p Nx nx=>?_) (fun ys H' p p5 n5=>?_)
  · obtain ⟨rfl,rfl⟩:=hx;obtain ⟨S,hp⟩:=p;have hl:=hp.length;have hb:=kx n i;have hn:(n:Int).toNat=n:=by lia
    have hin:i < n:=by lia
    have hb2:i * n≤9 * 9:=acj (by lia) h9;have en:((n:Int) - (0+(i:Int))).toNat=n - i:=by lia
    refine ⟨_,rfl,_,rfl,_,_,rfl,rfl,(n:Int) - (0+(i:Int)),rfl,by lia,by lia,?_⟩;refine vv (Trn.range (lo:=0) (n:=((n:Int) - (0+(i:Int))).toNat)) (fun j zs σ H2=>Same H H2∧(∃ c,σ=[some (.int (0+(i:Int))),c,some (.int n)])∧PairsIn H2 (sfl n i++(sfR n i).take j) zs) ⟨S,⟨_,rfl⟩,by simpa using hp⟩ (fun j zs σ H2 hj p=>⟨trivial,aA (by have:=p.2.2.length;rw [← this,aaj,aax];lia)⟩) (fun j x zs σ H2 H3 hj hx p Ny ny=>?_) (fun zs σ H2 p=>?_)
    · obtain ⟨rfl,rfl⟩:=hx;obtain ⟨S2,⟨c,rfl⟩,hp2⟩:=p;refine ⟨_,rfl,_,rfl,_,rfl,_,_,rfl,rfl,(by show 2≤sizeLine;decide),fun t ht=>ny _ _ _ ⟨S2.trans (Same.new ht _),⟨_,rfl⟩,?_⟩⟩;have s3:=Same.new ht (.tup [.int (0+(j:Int)),.int (0+(j:Int)+(0+(i:Int)))]);have e:(sfR n i).take (j+1)=(sfR n i).take j++[(((j:Nat):Int),((j+i:Nat):Int))]:=by
        rw [aay];have : (sfR n i)[j]?=some (((j:Nat):Int),((j+i:Nat):Int)):=by
          unfold sfR;rw [aao,aa4 (by lia)];rfl
        rw [this];rfl
      rw [e,← aaA];refine PairsIn.snoc (PairsIn.mono (Tups.of s3) hp2) ⟨t,rfl,?_⟩;rw [ad];have e1:(0:Int)+(j:Int)=((j:Nat):Int):=by lia
      have e2:(0:Int)+(j:Int)+(0+(i:Int))=((j+i:Nat):Int):=by lia
      show some (HO.tup [V.int (0+(j:Int)),V.int (0+(j:Int)+(0+(i:Int)))])=some (HO.tup [V.int ((j:Nat):Int),V.int ((j+i:Nat):Int)]);rw [e2,e1]
    · obtain ⟨S2,⟨c,rfl⟩,hp2⟩:=p;refine nx _ _ ⟨S2,?_⟩;rw [en,aa1 (by simp [sfR]),← lH] at hp2;exact hp2
  · obtain ⟨S,hp⟩:=p;have hn:(n:Int).toNat=n:=by lia
    rw [hn] at hp;have s5:=Same.new n5 (.lst ys);exact q p5 ys _ (S.trans s5) (S.free n5) ad (PairsIn.mono (Tups.of s5) hp)
def gI:Sp:=fun vs H Q _=>∃ gs,vs=[.str (al gs)]∧cX gs∧Q (.bl true) H
abbrev fR:Stmt:=top 10
theorem lM:FnScope ["thing"] ["thing"] (am fR):=⟨rfl,rfl,rfl,by decide +kernel,rfl,by decide +kernel,by decide +kernel⟩
theorem ml {tk:Tok} {aP:Addr} (F:Fun K "is_signs" "is_signs" fR f fd) (B:Bu K mg) (B3:Cp K mg tk aP):FnOk P w K mg base CX0 1 f fd ["thing"] gI:=by
  refine F.ok lM (fun vs H Q E h=>?_) (fun cdv A outer s H vs Q E hr h=>?_)
  · obtain ⟨x,rfl,_⟩:=h;rfl
  obtain ⟨gs,rfl,hs,q⟩:=h;refine ⟨_,(@ag _ _ _ (@ar _ _ _ _ (@b5 _ _ _ _ _ _ _ (@ak _ _ _ _ _ _ _ _ _ (@aN _ ("str")) rfl B.iisinstance aap (@aa _ _ _ _ _ (pv 0) (@aa _ _ _ _ _ (@bu _ _ (.ty "str") _ _ rfl B.istr aca rfl (by decide) (by decide)) ac (by rfl)) (by rfl)) (by decide) (by decide) (by rfl) (by rfl)) (@eK _ _ _ _ _ (@aO _ _ _ _ _ _ _ _ fF (pv 0) (@gp _ _ (.ref aP) _ _ rfl B3.gSIGNS_TO_PUT rfl (by decide)) (by with_unfolding_all rfl)))))),?_⟩;refine ⟨_,rfl,_,_,true,rfl,.str _,rfl,true,rfl,aI ⟨_,rfl,aP,_,rfl,.inr (B3.sSIGNS_TO_PUT H),rfl,rfl,?_⟩⟩;show Q (.bl (inV (.str (al gs)) kz)) H;rw [show inV (.str (al gs)) kz=true from hs];exact q
def eX:Sp:=fun vs H Q _=>∃ gs,vs=[.str (al gs)]∧cX gs∧Q .non H
abbrev d3:Stmt:=top 14
theorem jx:FnScope ["thing"] ["thing"] (am d3):=⟨rfl,rfl,rfl,by decide +kernel,rfl,by decide +kernel,by decide +kernel⟩
theorem jB (F:Fun K "need_signs" "need_signs" d3 f fd) (C_is_signs:Cal P w K mg base "is_signs" 1 ["thing"] gI):FnOk P w K mg base CX0 2 f fd ["thing"] eX:=by
  refine F.ok jx (fun vs H Q E h=>?_) (fun cdv A outer s H vs Q E hr h=>?_)
  · obtain ⟨x,rfl,_⟩:=h;rfl
  obtain ⟨gs,rfl,hs,q⟩:=h;refine ⟨_,(@ag _ _ _ (@aY _ _ _ _ _ _ _ _ (@bT _ _ _ _ (@bh _ _ _ (@ah _ _ _ _ _ _ _ _ _ _ _ C_is_signs hr (by lia) rfl (@aa _ _ _ _ _ (pv 0) ac (by rfl)) (by decide) (by rfl) (by rfl)) (by intro _;rfl))) (@ag _ _ _ lY) aG)),?_⟩;exact ⟨_,rfl,gs,rfl,hs,true,rfl,aB q⟩
end
open PySem L2
def wl (s:Nat) (L:List Int) (n l:Nat):Int:=(s:Int) * L.getD l 0 * L.getD (n - l) 0
def cl (s:Nat):Nat→List Int
  | 0=>[0,1]
  | k+1=>cl s k++[((aa0 (k+1)).map fun j=>wl s (cl s k) (k+2) (1+j)).sum]
def cn (s n:Nat):Int:=(cl s 8).getD n 0
section
variable {P:Program} {w:World} {K:aaa} {mg:Str→Option Value} {base:Heap} {f:Addr} {fd:FuncData}
end
open PySem L2
def ky (p:Int × Int):List Key:=[Sum.inl p.1,Sum.inl p.2]
theorem nU {p q:Int × Int} (h:ky p=ky q):p=q:=by
  obtain ⟨a,b⟩:=p;obtain ⟨c,d⟩:=q;simp [ky] at h;rw [h.1,h.2]
theorem PairIn.key {H:Hp} {p:Int × Int} {v:V} (h:PairIn H p v):∃ b,v=.ref b∧H b=some (.tup ((ky p).map kV)):=h
def CutIn (H:Hp) (p:Int × Int) (c:Int) (v:V):Prop:=∃ a x y,v=.ref a∧H a=some (.tup [x,y])∧PairIn H (p.1,c) x∧PairIn H (c+1,p.2) y
theorem PairIn.mono {H H':Hp} {p:Int × Int} {v:V} (t:Tups H H') (h:PairIn H p v):PairIn H' p v:=by
  obtain ⟨a,e,h⟩:=h;exact ⟨a,e,t _ _ h⟩
theorem CutIn.mono {H H':Hp} {p:Int × Int} {c:Int} {v:V} (t:Tups H H') (h:CutIn H p c v):CutIn H' p c v:=by
  obtain ⟨a,x,y,e,h1,h2,h3⟩:=h;exact ⟨a,x,y,e,t _ _ h1,PairIn.mono t h2,PairIn.mono t h3⟩
def bj (p:Int × Int):List Int:=(aa0 (p.2 - p.1).toNat).map fun (k:Nat)=>p.1+(k:Int)
theorem Paired.snoc {α β:Type} {F:α→β→Prop} {as:List α} {us:List β} {a:α} {u:β} (h:Paired F as us) (x:F a u):Paired F (as++[a]) (us++[u]):=by
  induction h with
  | nil=>exact .cons x .nil
  | cons y _ ih=>exact .cons y ih
theorem Paired.at {α β:Type} {F:α→β→Prop} {as:List α} {us:List β} (p:Paired F as us):∀ {j:Nat} {x:β},us[j]?=some x→∃ a,as[j]?=some a∧F a x:=by
  induction p with
  | nil=>intro j x h;cases h
  | cons a b ih =>
    intro j x h;cases j with
    | zero=>cases h;exact ⟨_,rfl,a⟩
    | succ j=>exact ih (j:=j) h
def Sg.op:Sg→Int→Int→Int
  | .plus,a,b=>a+b
  | .minus,a,b=>a - b
  | .times,a,b=>a * b
theorem mT (x y:Str):(x++y).cps.toList=x.cps.toList++y.cps.toList:=by
  obtain ⟨a⟩:=x;obtain ⟨b⟩:=y;show (a++b).toList=_;rw [Array.toList_append]
def Sg.code:Sg→Nat
  | .plus=>43
  | .minus=>45
  | .times=>42
theorem bJ (g:Sg):g.str=⟨#[g.code]⟩:=by cases g <;> rfl
theorem cU:∀ gs:List Sg,(al gs).cps.toList=gs.map Sg.code
  | []=>rfl
  | g :: r=>by
    show (g.str++al r).cps.toList=g.code :: r.map Sg.code;rw [mT,cU r,bJ];rfl
theorem cj (gs:List Sg):(al gs).cps.all (· < 128)=true:=by
  rw [← Array.all_toList,cU,aaV];intro c hc;obtain ⟨g,_,rfl⟩:=aan.mp hc;cases g <;> decide
theorem jO {gs:List Sg} {i c:Nat} (h:(al gs).cps[i]?=some c):∃ g,gs[i]?=some g∧c=g.code:=by
  have h2:(al gs).cps.toList[i]?=some c:=by simpa using h
  rw [cU,aao] at h2;obtain ⟨g,hg,e⟩:=aa7.mp h2;exact ⟨g,hg,e.symm⟩
theorem dZ (gs:List Sg):(al gs).cps.size=gs.length:=by
  have:=congrArg acF (cU gs);simpa using this
section
variable {P:Program} {w:World} {K:aaa} {mg:Str→Option Value} {base:Heap} {f:Addr} {fd:FuncData}
def mY:Sp:=fun vs H Q _=>∃ p v,vs=[v]∧PairIn H p v∧0≤p.1∧p.1≤p.2∧p.2 < 100∧∀ a us H',Same H H'→H a=none→H' a=some (.lst us)→Paired (CutIn H' p) (bj p) us→Q (.ref a) H'
abbrev gQ:Stmt:=top 17
theorem fN:FnScope ["stretch","first","last"] ["stretch"] (am gQ):=⟨rfl,rfl,rfl,by decide +kernel,rfl,by decide +kernel,by decide +kernel⟩
theorem nN (F:Fun K "cuts_of" "cuts_of" gQ f fd) (B:Bu K mg):FnOk P w K mg base CX0 1 f fd ["stretch"] mY:=by
  refine F.ok fN (fun vs H Q E h=>?_) (fun cdv A outer s H vs Q E hr h=>?_)
  · obtain ⟨p,v,rfl,_⟩:=h;rfl
  obtain ⟨p,v,rfl,⟨a,rfl,ha⟩,h1,h2,h3,q⟩:=h;refine ⟨_,(@af _ _ _ _ _ (@dE _ _ _ _ _ _ (pv 0) (@dF _ _ _ _ _ _ rfl (@aD _ _ _ _ _ (@aj _ _ (1) _ (fN).nd rfl (Or.inr rfl) (.inl rfl)) (@aD _ _ _ _ _ (@aj _ _ (2) _ (fN).nd rfl (Or.inr rfl) (.inl rfl)) bX (by rfl)) (by rfl)) (by rfl) (by rfl)) (by rfl) (by rfl) (by rfl)) (@ag _ _ _ (@ar _ _ _ _ (@bZ _ _ _ _ _ _ _ _ (["cut","first","last"]) ([none,some 1,some 2]) _ _ _ _ rfl (@cu _ _ _ _ _ _ _ rfl B.irange (@aa _ _ _ _ _ (pv 1) (@aa _ _ _ _ _ (pv 2) ac (by rfl)) (by rfl)) (by rfl) (by rfl)) rfl ⟨rfl,⟨rfl,trivial⟩⟩ ⟨⟨rfl,Or.inl rfl,Or.inl rfl⟩,⟨⟨rfl,Or.inl rfl,Or.inl rfl⟩,trivial⟩⟩ (fun _ _ _ _=>⟨(@aj _ _ (0) _ (show aaX (["cut","first","last"]:List Str) by decide +kernel) rfl (Or.inl rfl) (.inr rfl)),aH,(@au _ _ _ _ _ (@aa _ _ _ _ _ (@au _ _ _ _ _ (@aa _ _ _ _ _ (pv 1) (@aa _ _ _ _ _ (pv 0) ac (by rfl)) (by rfl))) (@aa _ _ _ _ _ (@au _ _ _ _ _ (@aa _ _ _ _ _ (@ap _ _ _ _ _ _ _ _ bf (pv 0) ae) (@aa _ _ _ _ _ (pv 2) ac (by rfl)) (by rfl))) ac (by rfl)) (by rfl)))⟩) (by rfl) (by rfl) (by rfl) (by rfl) (by intro _;rfl))))),?_⟩;refine ⟨_,rfl,a,_,rfl,SqT.of ha,rfl,_,_,rfl,_,_,rfl,rfl,?_⟩;refine ⟨_,rfl,_,rfl,p.1,p.2,rfl,⟨by lia,by lia,by lia,by lia⟩,?_⟩;refine b_ (Trn.range (lo:=p.1) (n:=(p.2 - p.1).toNat)) (fun i ys H'=>Same H H'∧Paired (CutIn H' p) ((bj p).take i) ys) ⟨Same.refl _,.nil⟩ (fun i ys H' hi z=>⟨trivial,aA (by have:=z.2.length;rw [← this,aax];lia)⟩) (fun i x ys H0 H' hi hx z Nx nx=>?_) (fun ys H' z p5 n5=>?_)
  · obtain ⟨rfl,rfl⟩:=hx;obtain ⟨S,hp⟩:=z;have t2:(2:Nat)≤sizeLine:=by decide
    refine ⟨_,rfl,_,rfl,t2,fun t ht=>?_⟩;have st:=Same.new ht (.tup [.int p.1,.int (p.1+(i:Int))]);refine ⟨_,rfl,_,_,rfl,rfl,_,rfl,t2,fun u hu=>⟨t2,fun v hv=>nx _ _ ?_⟩⟩;have su:=Same.new hu (.tup [.int (p.1+(i:Int)+1),.int p.2]);have sv:=Same.new hv (.tup [.ref t,.ref u]);have S3:=(st.trans su).trans sv;refine ⟨S.trans S3,?_⟩;have e:(bj p).take (i+1)=(bj p).take i++[p.1+(i:Int)]:=by
      rw [aay];have : (bj p)[i]?=some (p.1+(i:Int)):=by
        unfold bj;rw [aao,aa4 hi];rfl
      rw [this];rfl
    rw [e];exact Paired.snoc (Paired.mapP hp fun _ _ h=>CutIn.mono (Tups.of S3) h) ⟨v,_,_,rfl,ad,⟨t,rfl,sv _ _ (su _ _ ad)⟩,⟨u,rfl,sv _ _ ad⟩⟩
  · obtain ⟨S,hp⟩:=z;rw [aa1 (by simp [bj])] at hp;have s5:=Same.new n5 (.lst ys);exact q p5 ys _ (S.trans s5) (S.free n5) ad (Paired.mapP hp fun _ _ h=>CutIn.mono (Tups.of s5) h)
def fC:Sp:=fun vs H Q _=>∃ a g b,vs=[.int a,.str (Sg.str g),.int b]∧a.natAbs < 2 ^ 4000∧b.natAbs < 2 ^ 4000∧Q (.int (g.op a b)) H
abbrev fO:Stmt:=top 24
theorem lJ:FnScope ["left","sign","right"] ["left","sign","right"] (am fO):=⟨rfl,rfl,rfl,by decide +kernel,rfl,by decide +kernel,by decide +kernel⟩
theorem ma (F:Fun K "put_sign" "put_sign" fO f fd):FnOk P w K mg base CX0 1 f fd ["left","sign","right"] fC:=by
  refine F.ok lJ (fun vs H Q E h=>?_) (fun cdv A outer s H vs Q E hr h=>?_)
  · obtain ⟨a,g,b,rfl,_⟩:=h;rfl
  obtain ⟨a,g,b,rfl,ha,hb,q⟩:=h;refine ⟨_,(@af _ _ _ _ _ (@aY _ _ _ _ _ _ _ _ (@aF _ _ _ _ _ _ _ _ bw (pv 1) bc (az _)) (@ag _ _ _ (@ar _ _ _ _ (@ap _ _ _ _ _ _ _ _ bf (pv 0) (pv 2)))) aG) (@af _ _ _ _ _ (@aY _ _ _ _ _ _ _ _ (@aF _ _ _ _ _ _ _ _ bw (pv 1) bc (az _)) (@ag _ _ _ (@ar _ _ _ _ (@ap _ _ _ _ _ _ _ _ dn (pv 0) (pv 2)))) aG) (@ag _ _ _ (@ar _ _ _ _ (@ap _ _ _ _ _ _ _ _ gt (pv 0) (pv 2)))))),?_⟩;cases g with
  | plus=>exact ⟨_,rfl,rfl,_,rfl,ij rfl ⟨_,rfl,_,rfl,_,_,rfl,rfl,q⟩⟩
  | minus=>exact ⟨_,rfl,rfl,_,rfl,fJ (by decide +kernel) ⟨_,rfl,rfl,_,rfl,ij rfl ⟨_,rfl,_,rfl,_,_,rfl,rfl,q⟩⟩⟩
  | times=>exact ⟨_,rfl,rfl,_,rfl,fJ (by decide +kernel) ⟨_,rfl,rfl,_,rfl,fJ (by decide +kernel) ⟨_,rfl,_,rfl,_,_,rfl,rfl,⟨ha,hb⟩,q⟩⟩⟩
end
open PySem L2
mutual
def szX:PyData→Nat
  | .list ds=>szXs ds+1
  | .tuple ds=>szXs ds+1
  | .none=>1
  | .bool _=>1
  | .int _=>1
  | .str _=>1
  | .dict kvs=>szKv kvs+1
def szXs:List PyData→Nat
  | []=>0
  | d :: ds=>szX d+szXs ds
def szKv:List (PyData × PyData)→Nat
  | []=>0
  | (k,d) :: r=>szX k+szX d+szKv r
end
mutual
def OkX:PyData→Prop
  | .none=>True
  | .bool _=>True
  | .int i=>i.natAbs < 10 ^ 280
  | .str x=>(reprText x).length≤3000
  | .list ds=>OkXs ds
  | .tuple ds=>OkXs ds
  | .dict kvs=>OkKv kvs
def OkXs:List PyData→Prop
  | []=>True
  | d :: ds=>OkX d∧OkXs ds
def OkKv:List (PyData × PyData)→Prop
  | []=>True
  | (k,d) :: r=>OkX k∧OkX d∧OkKv r
end
mutual
theorem gu : ∀ d:PyData,OkX d→d.showable=true
  | .none,h=>by simp [abC]
  | .bool _,h=>by simp [abC]
  | .int i,h=>by
    simp only [OkX] at h;have z:(10:Nat) ^ 280 < 2 ^ 940:=by decide +kernel
    have : i.natAbs.log2 < 940:=by
      by_cases c:i.natAbs=0
      · rw [c];decide
      · exact (Nat.log2_lt c).mpr (Nat.lt_trans h z)
    simp only [abC];exact decide_eq_true (by lia)
  | .str _,h=>by simp [abC]
  | .list ds,h=>by simp only [OkX] at h;simp only [abC];exact ok_showAll ds h
  | .tuple ds,h=>by simp only [OkX] at h;simp only [abC];exact ok_showAll ds h
  | .dict kvs,h=>by simp only [OkX] at h;simp only [abC];exact ok_showKv kvs h
theorem ok_showAll:∀ ds:List PyData,OkXs ds→PyData.showableAll ds=true
  | [],h=>by simp [PyData.showableAll]
  | d :: ds,h=>by
    simp only [OkXs] at h;simp only [PyData.showableAll,gu d h.1,ok_showAll ds h.2,Bool.and_self]
theorem ok_showKv:∀ kvs:List (PyData × PyData),OkKv kvs→PyData.showableKv kvs=true
  | [],h=>by simp [PyData.showableKv]
  | (k,d) :: r,h=>by
    simp only [OkKv] at h;simp only [PyData.showableKv,gu k h.1,gu d h.2.1,ok_showKv r h.2.2,Bool.and_self]
end
mutual
theorem kL:∀ d:PyData,OkX d→d.shown.length+5≤3010 * szX d
  | .none,h=>by show 4+5≤3010 * szX .none;simp [szX]
  | .bool b,h=>by cases b <;> (simp only [szX];decide)
  | .int i,h=>by
    simp only [OkX] at h;have e:=int_text_length_le10 (a:=i) (k:=280) (by decide) h;simp only [szX];show (abi (toString i)).length+5≤3010;rw [ofString_length];lia
  | .str x,h=>by
    simp only [OkX] at h;simp only [szX,PyData.shown];lia
  | .list ds,h=>by
    simp only [OkX] at h;have a:=ok_lenAll ds h;have b:=listText_len_le (acx ds);have c:=PyData.shownAll_length ds;simp only [szX,PyData.shown];lia
  | .tuple ds,h=>by
    simp only [OkX] at h;have a:=ok_lenAll ds h;have b:=tupleText_len_le (acx ds);have c:=PyData.shownAll_length ds;simp only [szX,PyData.shown];lia
  | .dict kvs,h=>by
    simp only [OkX] at h;have a:=ok_lenKv kvs h;have b:=dictText_len_le (PyData.shownKv kvs);have c:=PyData.shownKv_length kvs;simp only [szX,PyData.shown];lia
theorem ok_lenAll:∀ ds:List PyData,OkXs ds→((acx ds).map (·.length)).sum+5 * ds.length≤3010 * szXs ds
  | [],h=>by simp [acx,szXs]
  | d :: ds,h=>by
    simp only [OkXs] at h;have a:=kL d h.1;have b:=ok_lenAll ds h.2;simp only [acx,szXs,aae,List.sum_cons,aaY];lia
theorem ok_lenKv:∀ kvs:List (PyData × PyData),OkKv kvs→((PyData.shownKv kvs).map (·.length)).sum+5 * kvs.length≤3010 * szKv kvs
  | [],h=>by simp [PyData.shownKv,szKv]
  | (k,d) :: r,h=>by
    simp only [OkKv] at h;have a:=kL k h.1;have b:=kL d h.2.1;have c:=ok_lenKv r h.2.2;have e2:(k.shown ++ ": " ++ d.shown).length=k.shown.length+2+d.shown.length:=by
      rw [strLen_append,strLen_append];rfl
    simp only [PyData.shownKv,szKv,aae,List.sum_cons,aaY];lia
end
theorem oT {d:PyData} (h:OkX d) (hs:szX d≤5000):d.shown.length≤sizeLine:=by
  have:=kL d h;exact aaE (show _≤15050000 by lia) (by rw [sizeLine_eq];decide)
def bi:PyData→Bool
  | .int _=>true
  | _=>false
theorem mE (d:PyData):decide (qK d = "int")=bi d:=by cases d <;> rfl
def a8:PyData→Bool
  | .tuple [a,b]=>bi a && bi b
  | _=>false
theorem xn {H:Hp} {ds:List PyData} {xs:List V} (h:DatAll H ds xs) (h2:xs.length=2):∃ l r y z,ds=[l,r]∧xs=[y,z]∧Dat H l y∧Dat H r z:=by
  have hl:=h.len;cases ds with
  | nil=>simp at hl;lia
  | cons l ds=>cases ds with
    | nil=>simp at hl;lia
    | cons r ds=>cases ds with
      | cons _ _=>simp at hl;lia
      | nil =>
        simp only [DatAll] at h;obtain ⟨y,_,rfl,h1,z,_,rfl,h2',rfl⟩:=h;exact ⟨l,r,y,z,rfl,rfl,h1,h2'⟩
theorem tN {dd:PyData} (c1:a8 dd=true):∃ i j,dd=.tuple [.int i,.int j]:=by
  cases dd with
  | tuple l =>
    match l with
    | [a,b] =>
      cases a <;> cases b <;> first|exact ⟨_,_,rfl⟩|simp [a8,bi] at c1
    | []=>simp [a8] at c1
    | [_]=>simp [a8] at c1
    | _ :: _ :: _ :: _=>simp [a8] at c1
  | _=>simp [a8] at c1
def prD:PyData→Option (Int × Int)
  | .tuple [.int a,.int b]=>some (a,b)
  | _=>none
theorem rh (d:PyData):a8 d=(prD d).isSome:=by
  cases c:a8 d with
  | true=>obtain ⟨i,j,rfl⟩:=tN c;rfl
  | false =>
    cases e:prD d with
    | none=>rfl
    | some q =>
      unfold prD at e;split at e
      · exact absurd c (by simp [a8,bi])
      · cases e
theorem lZ {d:PyData} {q:Int × Int} (h:prD d=some q):d=.tuple [.int q.1,.int q.2]:=by
  unfold prD at h;split at h
  · cases h;rfl
  · cases h
theorem uX {d:PyData} {q:Int × Int} {H:Hp} {v:V} (h:prD d=some q) (hd:Dat H d v):PairIn H q v:=by
  rw [lZ h] at hd;simp only [Dat,DatAll] at hd;obtain ⟨a,xs,rfl,ha,_,_,rfl,rfl,_,_,rfl,rfl,rfl⟩:=hd;exact ⟨a,rfl,ha⟩
section
variable {P:Program} {w:World} {K:aaa} {mg:Str→Option Value} {base:Heap} {f:Addr} {fd:FuncData}
def gJ:Sp:=fun vs H Q _=>∃ d v,vs=[v]∧Dat H d v∧Q (.bl (a8 d)) H
abbrev gO:Stmt:=top 20
theorem ni:FnScope ["thing"] ["thing"] (am gO):=⟨rfl,rfl,rfl,by decide +kernel,rfl,by decide +kernel,by decide +kernel⟩
theorem nM (F:Fun K "is_pair" "is_pair" gO f fd) (B:Bu K mg) (C_is_whole:Cal P w K mg base "is_whole" 1 ["thing"] (du K)):FnOk P w K mg base CX0 2 f fd ["thing"] gJ:=by
  refine F.ok ni (fun vs H Q E h=>?_) (fun cdv A outer s H vs Q E hr h=>?_)
  · obtain ⟨p,v,rfl,_⟩:=h;rfl
  obtain ⟨d,v,rfl,hd,q⟩:=h;refine ⟨_,(@ag _ _ _ (@ar _ _ _ _ (@b5 _ _ _ _ _ _ _ (@ak _ _ _ _ _ _ _ _ _ (@aN _ ("tuple")) rfl B.iisinstance aap (@aa _ _ _ _ _ (pv 0) (@aa _ _ _ _ _ (@bu _ _ (.ty "tuple") _ _ rfl B.ituple abm rfl (by decide) (by decide)) ac (by rfl)) (by rfl)) (by decide) (by decide) (by rfl) (by rfl)) (@b5 _ _ _ _ _ _ _ (@aO _ _ _ _ _ _ _ _ bw (@ak _ _ _ _ _ _ _ _ _ ay rfl B.ilen aaO (@aa _ _ _ _ _ (pv 0) ac (by rfl)) (by decide) (by decide) (by rfl) (by rfl)) ae (az _)) (@b5 _ _ _ _ _ _ _ (@ah _ _ _ _ _ _ _ _ _ _ _ C_is_whole hr (by lia) rfl (@aa _ _ _ _ _ (@aM _ _ _ _ _ _ _ bP (pv 0) ae (fun _ _=>rfl)) ac (by rfl)) (by decide) (by rfl) (by rfl)) (@eK _ _ _ _ _ (@ah _ _ _ _ _ _ _ _ _ _ _ C_is_whole hr (by lia) rfl (@aa _ _ _ _ _ (@aM _ _ _ _ _ _ _ bP (pv 0) ae (fun _ _=>rfl)) ac (by rfl)) (by decide) (by rfl) (by rfl)))))))),?_⟩;cases d with
  | tuple ds =>
    have ty:=hd.ty (K:=K);simp only [Dat] at hd;obtain ⟨a,xs,rfl,ha,hxs⟩:=hd;refine ⟨_,rfl,_,_,true,rfl,ty,rfl,true,rfl,aI ⟨_,rfl,a,_,rfl,.inr (SqT.of ha),rfl,decide (V.int (xs.length:Nat)=V.int 2),rfl,?_⟩⟩;have lx:=hxs.len;by_cases c:xs.length=2
    · obtain ⟨l,r,y,z,rfl,rfl,h1,h2⟩:=xn hxs c;refine ij rfl ⟨_,rfl,a,_,_,_,rfl,rfl,SqT.of ha,rfl,_,_,rfl,h1.ty,_,rfl,?_⟩;have e:a8 (.tuple [l,r])=(bi l && bi r):=rfl;rw [mE];rw [e] at q;cases c1:bi l with
      | true =>
        rw [c1,abk] at q;refine aI ⟨_,rfl,a,_,_,_,rfl,rfl,SqT.of ha,rfl,_,_,rfl,h2.ty,?_⟩;rw [mE];exact q
      | false =>
        rw [c1,abZ] at q;exact aB q
    · refine fJ (fun e=>c (by injection e with e;lia)) ?_;have e:a8 (.tuple ds)=false:=by
        match ds,lx with
        | [],_=>rfl
        | [_],_=>rfl
        | [_,_],lx=>exact absurd lx.symm (by intro z;exact c z)
        | _ :: _ :: _ :: _,_=>rfl
      rw [e] at q;exact q
  | none=>exact ⟨_,rfl,_,_,false,rfl,hd.ty,rfl,false,rfl,aB q⟩
  | bool b=>exact ⟨_,rfl,_,_,false,rfl,hd.ty,rfl,false,rfl,aB q⟩
  | int i=>exact ⟨_,rfl,_,_,false,rfl,hd.ty,rfl,false,rfl,aB q⟩
  | str i=>exact ⟨_,rfl,_,_,false,rfl,hd.ty,rfl,false,rfl,aB q⟩
  | list ds=>exact ⟨_,rfl,_,_,false,rfl,hd.ty,rfl,false,rfl,aB q⟩
  | dict ds=>exact ⟨_,rfl,_,_,false,rfl,hd.ty,rfl,false,rfl,aB q⟩
def gH:Sp:=fun vs H Q _=>∃ d v,vs=[v]∧Dat H d v∧∀ H',Same H H'→Q (.bl (a8 d)) H'
abbrev dh:Stmt:=top 44
theorem im:FnScope ["thing"] ["thing"] (am dh):=⟨rfl,rfl,rfl,by decide +kernel,rfl,by decide +kernel,by decide +kernel⟩
theorem mh (F:Fun K "_law_is_pair" "_law_is_pair" dh f fd) (B:Bu K mg):FnOk P w K mg base CX0 1 f fd ["thing"] gH:=by
  refine F.ok im (fun vs H Q E h=>?_) (fun cdv A outer s H vs Q E hr h=>?_)
  · obtain ⟨p,v,rfl,_⟩:=h;rfl
  obtain ⟨d,v,rfl,hd,q⟩:=h;refine ⟨_,(@af _ _ _ _ _ (@aY _ _ _ _ _ _ _ _ (@PW.pt _ _ _ (@gj _ _ _ _ _ _ _ (@bT _ _ _ _ (@bh _ _ _ (@ak _ _ _ _ _ _ _ _ _ (@aN _ ("tuple")) rfl B.iisinstance aap (@aa _ _ _ _ _ (pv 0) (@aa _ _ _ _ _ (@bu _ _ (.ty "tuple") _ _ rfl B.ituple abm rfl (by decide) (by decide)) ac (by rfl)) (by rfl)) (by decide) (by decide) (by rfl) (by rfl)) (by intro _;rfl))) (@fi _ _ _ _ (@aF _ _ _ _ _ _ _ _ rD (@ak _ _ _ _ _ _ _ _ _ ay rfl B.ilen aaO (@aa _ _ _ _ _ (pv 0) ac (by rfl)) (by decide) (by decide) (by rfl) (by rfl)) ae (az _))))) (@ag _ _ _ (@ar _ _ _ _ cJ)) aG) (@ag _ _ _ (@ar _ _ _ _ (@aO _ _ _ _ _ _ _ _ (@nF _ hr.units) (@bZ _ _ _ _ _ _ _ _ (["one"]) ([none]) _ _ _ _ rfl (@eJ _ _ _ _ (pv 0)) rfl trivial trivial (fun _ _ _ _=>⟨(@aj _ _ (0) _ (show aaX (["one"]:List Str) by decide +kernel) rfl (Or.inl rfl) (.inr rfl)),(@iV _ _ _ (@PW.pt _ _ _ (@gj _ _ _ _ _ _ _ (@bT _ _ _ _ (@bh _ _ _ (@ak _ _ _ _ _ _ _ _ _ (@eQ _ _ ("int") rfl) rfl B.iisinstance aap (@aa _ _ _ _ _ (pv 0) (@aa _ _ _ _ _ (@bu _ _ (.ty "int") _ _ rfl B.iint aa3 rfl (by decide) (by decide)) ac (by rfl)) (by rfl)) (by decide) (by decide) (by rfl) (by rfl)) (by intro _;rfl))) (@fi _ _ _ _ (@bh _ _ _ (@ak _ _ _ _ _ _ _ _ _ (@eQ _ _ ("bool") rfl) rfl B.iisinstance aap (@aa _ _ _ _ _ (pv 0) (@aa _ _ _ _ _ (@bu _ _ (.ty "bool") _ _ rfl B.ibool ab3 rfl (by decide) (by decide)) ac (by rfl)) (by rfl)) (by decide) (by decide) (by rfl) (by rfl)) (by intro _;rfl)))))),(pv 0)⟩) (by rfl) (by rfl) (by rfl) (by rfl) (by intro _;rfl)) (@aJ _ _ _ _ ac) (az _))))),?_⟩;have r0:=q H (Same.refl _);cases d with
  | tuple ds =>
    have ty:=hd.ty (K:=K);simp only [Dat] at hd;obtain ⟨a,xs,rfl,ha,hxs⟩:=hd;refine ⟨_,rfl,_,_,true,rfl,ty,rfl,true,rfl,aB ⟨_,rfl,a,_,rfl,.inr (SqT.of ha),rfl,_,rfl,?_⟩⟩;have lx:=hxs.len;by_cases c:xs.length=2
    · obtain ⟨l,r,y,z,rfl,rfl,h1,h2⟩:=xn hxs c;refine rS rfl ?_;refine ⟨_,rfl,a,rfl,⟨_,SqT.of ha⟩,?_⟩;have e0:a8 (.tuple [l,r])=([l,r].all bi):=by
        show (bi l && bi r)=(bi l && (bi r && true));rw [acb]
      have hel:∀ (i:Nat) (x:V),[y,z][i]?=some x→∃ d,[l,r][i]?=some d∧Dat H d x:=fun i x hx=>by
        match i,hx with
        | 0,hx=>cases hx;exact ⟨l,rfl,h1⟩
        | 1,hx=>cases hx;exact ⟨r,rfl,h2⟩
        | _+2,hx=>cases hx
      refine b_ (Trn.tup (xs:=[y,z])) (fun i ys H'=>H'=H∧ys.length≤i∧(ys.length=0↔([l,r].take i).all bi=true)) ⟨rfl,aaU _,by simp⟩ (fun i ys H' hi p=>⟨by rw [p.1];exact SqT.of ha,aa2 (aaE p.2.1 hi) (show 2 < sizeLine by rw [sizeLine_eq];decide)⟩) (fun i x ys H0 H' hi hx p Nx nx=>?_) (fun ys H' p p5 n5=>?_)
      · obtain ⟨eH,l0,z0⟩:=p;obtain ⟨eH',hx⟩:=hx
        replace eH':=(eH'.trans eH).symm
        subst eH';clear eH;obtain ⟨d,hd,hdx⟩:=hel i x hx;have et:([l,r].take (i+1)).all bi=(([l,r].take i).all bi && bi d):=by
          rw [aay,hd,List.all_append];show (_ && (bi d && true))=_;rw [acb]
        have yes:bi d=true→Nx ys H:=fun c1=>nx _ _ ⟨rfl,by lia,by rw [et,c1,acb];exact z0⟩;have no:∀ v,bi d=false→Nx (ys++[v]) H:=fun v c1=>nx _ _ ⟨rfl,by rw [aaj];exact Nat.succ_le_succ l0,by rw [et,c1,acH,aaj];simp⟩;cases d with
        | int k=>exact ⟨_,rfl,_,_,true,rfl,hdx.ty,rfl,true,rfl,aB ⟨_,rfl,_,_,false,rfl,hdx.ty,rfl,false,rfl,aB (yes rfl)⟩⟩
        | bool k=>exact ⟨_,rfl,_,_,true,rfl,hdx.ty,rfl,true,rfl,aB ⟨_,rfl,_,_,true,rfl,hdx.ty,rfl,true,rfl,aI ⟨_,rfl,no _ rfl⟩⟩⟩
        | none=>exact ⟨_,rfl,_,_,false,rfl,hdx.ty,rfl,false,rfl,aI (aI ⟨_,rfl,no _ rfl⟩)⟩
        | str k=>exact ⟨_,rfl,_,_,false,rfl,hdx.ty,rfl,false,rfl,aI (aI ⟨_,rfl,no _ rfl⟩)⟩
        | list k=>exact ⟨_,rfl,_,_,false,rfl,hdx.ty,rfl,false,rfl,aI (aI ⟨_,rfl,no _ rfl⟩)⟩
        | tuple k=>exact ⟨_,rfl,_,_,false,rfl,hdx.ty,rfl,false,rfl,aI (aI ⟨_,rfl,no _ rfl⟩)⟩
        | dict k=>exact ⟨_,rfl,_,_,false,rfl,hdx.ty,rfl,false,rfl,aI (aI ⟨_,rfl,no _ rfl⟩)⟩
      · obtain ⟨rfl,l0,z0⟩:=p;have z0:ys.length=0↔[l,r].all bi=true:=z0;have s6:=Same.new n5 (.lst ys);refine ⟨aaU _,fun p6 n6=>⟨0,p5,p6,ys,[],by decide,rfl,rfl,SqL.of ((Same.new n6 _) _ _ ad),SqL.of ad,?_⟩⟩;have S6:=s6.trans (Same.new n6 (.lst []));have qq:=q _ S6;rw [e0] at qq;cases c1:[l,r].all bi with
        | true =>
          rw [c1] at qq;have h0:=abl.mp (z0.mpr c1);subst h0;exact .inr ⟨fun _=>true,rfl,(fun j x y h=>by simp at h),qq⟩
        | false =>
          rw [c1] at qq;exact .inl ⟨(fun e=>by rw [z0.mp e] at c1;cases c1),qq⟩
    · have e:a8 (.tuple ds)=false:=by
        match ds,lx with
        | [],_=>rfl
        | [_],_=>rfl
        | [_,_],lx=>exact absurd lx.symm (by intro z;exact c z)
        | _ :: _ :: _ :: _,_=>rfl
      rw [e] at r0;rw [decide_eq_false (fun e=>c (by injection e with e;lia))];exact aI r0
  | none=>exact ⟨_,rfl,_,_,false,rfl,hd.ty,rfl,false,rfl,aI r0⟩
  | bool b=>exact ⟨_,rfl,_,_,false,rfl,hd.ty,rfl,false,rfl,aI r0⟩
  | int i=>exact ⟨_,rfl,_,_,false,rfl,hd.ty,rfl,false,rfl,aI r0⟩
  | str i=>exact ⟨_,rfl,_,_,false,rfl,hd.ty,rfl,false,rfl,aI r0⟩
  | list ds=>exact ⟨_,rfl,_,_,false,rfl,hd.ty,rfl,false,rfl,aI r0⟩
  | dict ds=>exact ⟨_,rfl,_,_,false,rfl,hd.ty,rfl,false,rfl,aI r0⟩
end
open PySem L2
theorem aZ {α β:Type} {l:List α} {f:α→List β} {i:Nat} {x:α} (h:l[i]?=some x):(l.take (i+1)).flatMap f=(l.take i).flatMap f++f x:=by
  rw [aay,h,acm];simp
theorem iB {q:Int × Int} {c:Int} (h:c∈bj q):q.1≤c∧c < q.2:=by
  unfold bj at h;obtain ⟨k,hk,rfl⟩:=aan.mp h;have:=aaN.mp hk;lia
theorem iP (n:Nat):∀ p∈sfl n n,0≤p.1∧p.1≤p.2∧p.2 < n:=fun p hp=>by
  unfold sfl sfR at hp;rw [abn] at hp;obtain ⟨m,hm,hp⟩:=hp;rw [List.mem_map] at hp;obtain ⟨f,hf,rfl⟩:=hp;rw [List.mem_range] at hf;simp only;lia
theorem pZ:∀ n,n≤9→(sfl n n).Nodup:=by decide +kernel
theorem ng {n:Nat} {q:Int × Int} (h0:0≤q.1) (h1:q.1≤q.2) (h2:q.2 < n):q∈sfl n n:=by
  have:=oK n q.1.toNat q.2.toNat (by lia) (by lia)
  rwa [show ((q.1.toNat:Nat):Int)=q.1 by lia,show ((q.2.toNat:Nat):Int)=q.2 by lia] at this
def two (p:Int × Int):List Int:=[p.1,p.2]
def fA (E:Int × Int→Int × Int) (gs:List Sg) (q:Int × Int):List Int:=(bj q).flatMap fun c=>(two (E (q.1,c))).flatMap fun a=>(two (E (c+1,q.2))).flatMap fun b=>gs.map fun g=>g.op a b
theorem mem_corn {E:Int × Int→Int × Int} {gs:List Sg} {q:Int × Int} {v:Int}:v∈fA E gs q↔∃ c∈bj q,∃ g∈gs,∃ a b,(a=(E (q.1,c)).1∨a=(E (q.1,c)).2)∧(b=(E (c+1,q.2)).1∨b=(E (c+1,q.2)).2)∧g.op a b=v:=by
  unfold fA two;simp only [abn,List.mem_map,aai,aaP,or_false];constructor
  · rintro ⟨c,hc,a,ha,b,hb,g,hg,e⟩;exact ⟨c,hc,g,hg,a,b,ha,hb,e⟩
  · rintro ⟨c,hc,g,hg,a,b,ha,hb,e⟩;exact ⟨c,hc,a,ha,b,hb,g,hg,e⟩
def jeX (E:Int × Int→Int × Int) (q:Int × Int) (c:Int) (g:Sg) (x:Int):List Int:=(two (E (c+1,q.2))).map fun y=>g.op x y
def jeG (E:Int × Int→Int × Int) (q:Int × Int) (c:Int) (g:Sg):List Int:=(two (E (q.1,c))).flatMap (jeX E q c g)
def jeC (E:Int × Int→Int × Int) (gs:List Sg) (q:Int × Int) (c:Int):List Int:=gs.flatMap (jeG E q c)
def jeL (E:Int × Int→Int × Int) (gs:List Sg) (q:Int × Int):List Int:=(bj q).flatMap (jeC E gs q)
theorem mem_je {E:Int × Int→Int × Int} {gs:List Sg} {q:Int × Int} {v:Int}:v∈jeL E gs q↔v∈fA E gs q:=by
  rw [mem_corn];unfold jeL jeC jeG jeX two;simp only [abn,List.mem_map,aai,aaP,or_false];constructor
  · rintro ⟨c,hc,g,hg,a,ha,b,hb,e⟩;exact ⟨c,hc,g,hg,a,b,ha,hb,e⟩
  · rintro ⟨c,hc,g,hg,a,b,ha,hb,e⟩;exact ⟨c,hc,g,hg,a,ha,b,hb,e⟩
def wiL (E:Int × Int→Int × Int) (ns:List Int) (gs:List Sg) (q:Int × Int):List Int:=if q.1=q.2 then [ns.getD q.1.toNat 0] else jeL E gs q
abbrev PPa:=List (MK × PyData)
def lkP (ps:PPa) (q:Int × Int):Option PyData:=(ps.find? fun p=>decide (p.1=.tup [q.1,q.2])).map (·.2)
def PaIn (w:World) (H:Hp) (a:Addr) (ps:PPa):Prop:=∃ es,Pd w H a es∧Paired (fun (p:MK × PyData) (e:MK × V)=>p.1=e.1∧Dat H p.2 e.2) ps es
theorem PaIn.mono {w:World} {H H':Hp} {a:Addr} {ps:PPa} (g:Same H H') (h:PaIn w H a ps):PaIn w H' a ps:=by
  obtain ⟨es,h1,h2⟩:=h;exact ⟨es,h1.mono g,Paired.mapP h2 fun _ _ z=>⟨z.1,Dat.mono g _ _ z.2⟩⟩
theorem nC {H:Hp} {ps:PPa} {es:List (MK × V)} (h:Paired (fun (p:MK × PyData) (e:MK × V)=>p.1=e.1∧Dat H p.2 e.2) ps es) (q:Int × Int) :
    (lkP ps q=none∧bB es (.tup [q.1,q.2])=none)∨∃ d v,lkP ps q=some d∧bB es (.tup [q.1,q.2])=some v∧Dat H d v:=by
  induction h with
  | nil=>exact .inl ⟨rfl,rfl⟩
  | @cons p e ps es h t ih =>
    by_cases c:p.1=.tup [q.1,q.2]
    · right;exact ⟨p.2,e.2,by simp [lkP,aa9,c],db (h.1.symm.trans c),h.2⟩
    · have e1:lkP (p :: ps) q=lkP ps q:=by simp [lkP,aa9,c]
      rw [e1,dc (fun z=>c (h.1.trans z))];exact ih
def ThIn (w:World) (K:aaa) (H:Hp) (t:Option PPa) (v:V):Prop:=match t with
  | some ps=>∃ a,v=.ref a∧PaIn w H a ps
  | none=>∃ n,TyOf K H v (.type n)∧abN K (.type n) (.type "dict")=some false
theorem TyOf.same {K:aaa} {H H':Hp} {v:V} {t:Value} (g:Same H H') (h:TyOf K H v t):TyOf K H' v t:=by
  cases h with
  | non=>exact .non
  | bl x=>exact .bl x
  | int i=>exact .int i
  | str x=>exact .str x
  | flt x=>exact .flt x
  | lst e=>exact .lst (g _ _ e)
  | frz e=>exact .frz (g _ _ e)
  | tup e=>exact .tup (g _ _ e)
  | dK e=>exact .dK (g _ _ e)
  | dT e=>exact .dT (g _ _ e)
  | ins e a b c d f=>exact .ins (g _ _ e) a b c d f
theorem ThIn.mono {w:World} {K:aaa} {H H':Hp} {t:Option PPa} {v:V} (g:Same H H') (h:ThIn w K H t v):ThIn w K H' t v:=by
  cases t with
  | some ps=>obtain ⟨a,e,h⟩:=h;exact ⟨a,e,h.mono g⟩
  | none=>obtain ⟨n,h1,h2⟩:=h;exact ⟨n,TyOf.same g h1,h2⟩
def ir (n:Nat):Option PPa→Bool
  | none=>false
  | some ps=>decide (ps.length=(sfl n n).length) && (sfl n n).all fun q=>(lkP ps q).isSome
theorem cy (n:Nat) (ps:PPa):ir n (some ps)=(decide (ps.length=(sfl n n).length) && (sfl n n).all fun q=>(lkP ps q).isSome):=rfl
theorem jv {α:Type} {l:List α} {f:α→Bool} {i:Nat} {x:α} (h:l[i]?=some x):(l.take (i+1)).map f=(l.take i).map f++[f x]:=by
  rw [aay,h,aaH];rfl
section
variable {P:Program} {w:World} {K:aaa} {mg:Str→Option Value} {base:Heap} {f:Addr} {fd:FuncData}
def iK (w:World) (K:aaa):Sp:=fun vs H Q _=>∃ (t:Option PPa) (v:V) (n:Nat),vs=[v,.int n]∧n≤9∧ThIn w K H t v∧∀ H',Same H H'→Q (.bl (ir n t)) H'
abbrev bN:Stmt:=top 16
theorem cH:FnScope ["thing","many","stretches"] ["thing","many"] (am bN):=⟨rfl,rfl,rfl,by decide +kernel,rfl,by decide +kernel,by decide +kernel⟩
theorem fo (F:Fun K "has_all_stretches" "has_all_stretches" bN f fd) (B:Bu K mg) (C_shorter_first:Cal P w K mg base "shorter_first" 1 ["many"] tm):FnOk P w K mg base CX0 2 f fd ["thing","many"] (iK w K):=by
  refine F.ok cH (fun vs H Q E h=>?_) (fun cdv A outer s H vs Q E hr h=>?_)
  · obtain ⟨t,v,n,rfl,_⟩:=h;rfl
  obtain ⟨t,v,n,rfl,h9,ht,q⟩:=h;refine ⟨_,(@af _ _ _ _ _ (@av _ _ (2) _ _ _ _ (cH).nd rfl (Or.inl rfl) (@ah _ _ _ _ _ _ _ _ _ _ _ C_shorter_first hr (by lia) rfl (@aa _ _ _ _ _ (pv 1) ac (by rfl)) (by decide) (by rfl) (by rfl)) (by rfl) (by first|exact .inl rfl|exact .inr rfl|assumption)) (@af _ _ _ _ _ (@aY _ _ _ _ _ _ _ _ (@PW.pt _ _ _ (@gj _ _ _ _ _ _ _ (@bT _ _ _ _ (@bh _ _ _ (@ak _ _ _ _ _ _ _ _ _ (@gB _ ("dict") (w) _ rfl rfl) rfl B.iisinstance aap (@aa _ _ _ _ _ (pv 0) (@aa _ _ _ _ _ (@bu _ _ (.ty "dict") _ _ rfl B.idict acB rfl (by decide) (by decide)) ac (by rfl)) (by rfl)) (by decide) (by decide) (by rfl) (by rfl)) (by intro _;rfl))) (@fi _ _ _ _ (@aF _ _ _ _ _ _ _ _ rD (@ak _ _ _ _ _ _ _ _ _ (@jZ _ (w) rfl) rfl B.ilen aaO (@aa _ _ _ _ _ (pv 0) ac (by rfl)) (by decide) (by decide) (by rfl) (by rfl)) (@ak _ _ _ _ _ _ _ _ _ ay rfl B.ilen aaO (@aa _ _ _ _ _ (pv 2) ac (by rfl)) (by decide) (by decide) (by rfl) (by rfl)) (az _))))) (@ag _ _ _ (@ar _ _ _ _ cJ)) aG) (@ag _ _ _ (@ar _ _ _ _ (@ak _ _ _ _ _ _ _ _ _ (@fB _ rfl) rfl B.iall abI (@aa _ _ _ _ _ (@bZ _ _ _ _ _ _ _ _ (["stretch","thing"]) ([none,some 0]) _ _ _ _ rfl (@cV _ _ _ _ (pv 2)) rfl ⟨rfl,trivial⟩ ⟨⟨rfl,Or.inl rfl,Or.inl rfl⟩,trivial⟩ (fun _ _ _ _=>⟨(@aj _ _ (0) _ (show aaX (["stretch","thing"]:List Str) by decide +kernel) rfl (Or.inl rfl) (.inr rfl)),aH,(@u_ _ _ _ _ _ _ (w) rfl (u1 hr.units) (pv 0) (pv 1) (by with_unfolding_all rfl))⟩) (by rfl) (by rfl) (by rfl) (by rfl) (by intro _;rfl)) ac (by rfl)) (by decide) (by decide) (by rfl) (by rfl)))))),?_⟩;refine ⟨_,rfl,n,rfl,h9,fun p us H1 s1 np ep hp=>?_⟩;have ht1:=ht.mono s1;have q1:∀ H',Same H1 H'→Q (.bl (ir n t)) H':=fun H' g=>q H' (s1.trans g);clear q;cases t with
  | none =>
    obtain ⟨nm,ty,hk⟩:=ht1;exact ⟨_,rfl,_,_,false,rfl,.inl ty,hk,false,rfl,aI (q1 _ (Same.refl _))⟩
  | some ps =>
    obtain ⟨a,rfl,es,pd,hes⟩:=ht1;refine ⟨_,rfl,_,_,true,rfl,.inr ⟨a,es,rfl,pd,rfl⟩,rfl,true,rfl,aB ⟨_,rfl,a,es,rfl,pd,_,rfl,p,us,rfl,.inl (SqL.of ep),rfl,_,rfl,?_⟩⟩;have le:es.length=ps.length:=(aaC hes).symm;have lu:us.length=(sfl n n).length:=hp.length.symm;by_cases c:ps.length=(sfl n n).length
    · refine rS (by rw [le,lu,c]) ?_;refine ⟨_,rfl,p,rfl,⟨_,SqL.of ep⟩,?_⟩;have l81:=kx n n;have l81':n * n≤9 * 9:=acj h9 h9;refine b_ (Trn.list (xs:=us)) (fun i ys H'=>H'=H1∧ys=(((sfl n n).take i).map fun q=>(lkP ps q).isSome).map V.bl) ⟨rfl,rfl⟩ (fun i ys H' hi z=>⟨by rw [z.1];exact SqL.of ep,by rw [z.2,aab,aab,aax];exact aA (by lia)⟩) (fun i x ys H0 H' hi hx z Nx nx=>?_) (fun ys H' z p5 n5=>?_)
      · obtain ⟨rfl,rfl⟩:=z;obtain ⟨rfl,hx⟩:=hx;obtain ⟨q1',hq1,hpx⟩:=l_ hp hx;obtain ⟨b,rfl,eb⟩:=PairIn.key hpx;have eo:(bB es (.tup [q1'.1,q1'.2])).isSome=(lkP ps q1').isSome:=by
          rcases nC hes q1' with ⟨e1,e2⟩|⟨d,v,e1,e2,_⟩
          · rw [e1,e2];rfl
          · rw [e1,e2];rfl
        refine ⟨_,rfl,_,rfl,a,_,rfl,⟨es,_,pd,MkIn.pair eb,rfl⟩,nx _ _ ⟨rfl,?_⟩⟩;rw [eo,jv hq1,aaH];rfl
      · obtain ⟨rfl,rfl⟩:=z;refine ⟨p5,_,rfl,SqL.of ad,?_⟩;have e:((((sfl n n).take us.length).map fun q=>(lkP ps q).isSome).all id)=ir n (some ps):=by
          rw [lu,aaZ,List.all_map];rw [cy,decide_eq_true c,abk];rfl
        rw [e];exact q1 _ (Same.new n5 _)
    · have e:ir n (some ps)=false:=by rw [cy,decide_eq_false c,abZ]
      rw [e] at q1;rw [decide_eq_false (fun z=>c (by have:=V.int.inj z;lia))];exact aI (q1 _ (Same.refl _))
def GtE (E:Int × Int→Int × Int) (w:World) (H:Hp) (a:Addr) (n:Nat):Prop:=∃ es,Pd w H a es∧∀ q:Int × Int,0≤q.1→q.1≤q.2→q.2 < n→∃ t,bB es (.tup [q.1,q.2])=some (.ref t)∧H t=some (.tup [.int (E q).1,.int (E q).2])
theorem GtE.mono {E:Int × Int→Int × Int} {w:World} {H H':Hp} {a:Addr} {n:Nat} (g:Same H H') (h:GtE E w H a n):GtE E w H' a n:=by
  obtain ⟨es,h1,h2⟩:=h;exact ⟨es,h1.mono g,fun q a b c=>by obtain ⟨t,e1,e2⟩:=h2 q a b c;exact ⟨t,e1,g _ _ e2⟩⟩
def uO (w:World):Sp:=fun vs H Q _=>∃ (d:Addr) (E:Int × Int→Int × Int) (n:Nat) (gs:List Sg) (q:Int × Int) (v:V),vs=[.ref d,.str (al gs),v]∧PairIn H q v∧0≤q.1∧q.1≤q.2∧q.2 < n∧n≤9∧gs.length≤3∧GtE E w H d n ∧
  (∀ q:Int × Int,0≤q.1→q.1≤q.2→q.2 < n→(E q).1.natAbs < 2 ^ 4000∧(E q).2.natAbs < 2 ^ 4000) ∧
  ∀ p H',Same H H'→H p=none→H' p=some (.lst ((jeL E gs q).map V.int))→Q (.ref p) H'
abbrev eZ:Stmt:=top 31
theorem kE:FnScope ["paper","signs","stretch"] ["paper","signs","stretch"] (am eZ):=⟨rfl,rfl,rfl,by decide +kernel,rfl,by decide +kernel,by decide +kernel⟩
theorem kQ (F:Fun K "join_ends" "join_ends" eZ f fd) (C_cuts_of:Cal P w K mg base "cuts_of" 1 ["stretch"] mY) (C_put_sign:Cal P w K mg base "put_sign" 1 ["left","sign","right"] fC):FnOk P w K mg base CX0 2 f fd ["paper","signs","stretch"] (uO w):=by
  refine F.ok kE (fun vs H Q E h=>?_) (fun cdv A outer s H vs Q E hr h=>?_)
  · obtain ⟨d,E0,n,gs,q,v,rfl,_⟩:=h;rfl
  obtain ⟨d,En0,n,gs,q,v,rfl,hv,q0,q1,q2,n9,g3,⟨es0,pd0,hG⟩,hB,qq⟩:=h;refine ⟨_,(@ag _ _ _ (@ar _ _ _ _ (@va _ _ _ _ _ _ _ _ _ _ _ _ _ _ _ _ _ (["before","behind","sign","left","right","signs","paper"]) ([none,none,none,none,none,some 1,some 0]) _ _ _ _ _ _ _ _ _ _ _ _ _ rfl (@cV _ _ _ _ (@ah _ _ _ _ _ _ _ _ _ _ _ C_cuts_of hr (by lia) rfl (@aa _ _ _ _ _ (pv 2) ac (by rfl)) (by decide) (by rfl) (by rfl))) rfl ⟨rfl,⟨rfl,trivial⟩⟩ ⟨⟨rfl,Or.inl rfl,Or.inl rfl⟩,⟨⟨rfl,Or.inl rfl,Or.inl rfl⟩,trivial⟩⟩ (fun _ _ _ _=>⟨(@oP _ _ _ _ _ _ (2) rfl rfl (@aD _ _ _ _ _ (@aj _ _ (0) _ (show aaX (["before","behind","sign","left","right","signs","paper"]:List Str) by decide +kernel) rfl (Or.inl rfl) (.inr rfl)) (@aD _ _ _ _ _ (@aj _ _ (1) _ (show aaX (["before","behind","sign","left","right","signs","paper"]:List Str) by decide +kernel) rfl (Or.inl rfl) (.inr rfl)) bX (by rfl)) (by rfl)) (by rfl) (by rfl)),aH,(@gR _ _ _ _ (pv 5)),(@aj _ _ (2) _ (show aaX (["before","behind","sign","left","right","signs","paper"]:List Str) by decide +kernel) rfl (Or.inl rfl) (.inr rfl)),aH,(@ix _ _ _ _ _ rfl (@bY _ _ _ _ _ _ (w) rfl (u1 hr.units) (pv 6) (pv 0) (fun _ _=>rfl))),(@aj _ _ (3) _ (show aaX (["before","behind","sign","left","right","signs","paper"]:List Str) by decide +kernel) rfl (Or.inl rfl) (.inr rfl)),aH,(@ix _ _ _ _ _ rfl (@bY _ _ _ _ _ _ (w) rfl (u1 hr.units) (pv 6) (pv 1) (fun _ _=>rfl))),(@aj _ _ (4) _ (show aaX (["before","behind","sign","left","right","signs","paper"]:List Str) by decide +kernel) rfl (Or.inl rfl) (.inr rfl)),aH,(@ah _ _ _ _ _ _ _ _ _ _ _ C_put_sign hr (by lia) rfl (@aa _ _ _ _ _ (pv 3) (@aa _ _ _ _ _ (pv 2) (@aa _ _ _ _ _ (pv 4) ac (by rfl)) (by rfl)) (by rfl)) (by decide) (by rfl) (by rfl))⟩) (by rfl) (by rfl) (by rfl) (by rfl) (by intro _;rfl) (by intro _ _;rfl) (by intro _ _;rfl) (by intro _ _;rfl)))),?_⟩;refine ⟨_,rfl,q,v,rfl,hv,q0,q1,by lia,fun pc us H1 s1 npc epc hcut=>⟨pc,rfl,⟨_,SqL.of epc⟩,?_⟩⟩;have pd1:=pd0.mono s1;have hG1:∀ q:Int × Int,0≤q.1→q.1≤q.2→q.2 < n→∃ t,bB es0 (.tup [q.1,q.2])=some (.ref t)∧H1 t=some (.tup [.int (En0 q).1,.int (En0 q).2]):=fun q a b c=>by
    obtain ⟨t,e1,e2⟩:=hG q a b c;exact ⟨t,e1,s1 _ _ e2⟩
  have lc:=aaC hcut;have l8:(bj q).length≤8:=by unfold bj;rw [aab,List.length_range];lia
  refine vz (Trn.list (xs:=us)) (fun i ys H'=>H'=H1∧ys.length≤12 * i∧ys=(((bj q).take i).flatMap (jeC En0 gs q)).map V.int) ⟨rfl,aaU _,rfl⟩ (fun i ys H' hi z=>by rw [z.1];exact SqL.of epc) (fun i x ys H0 H' hi hx z Nx nx=>?_) (fun ys H' z p5 n5=>?_)
  · obtain ⟨eH,l0,z0⟩:=z;obtain ⟨eH',hx⟩:=hx
    replace eH':=(eH'.trans eH).symm
    subst eH';clear eH;obtain ⟨c,hc,t,xb,yb,rfl,et,hxb,hyb⟩:=Paired.at hcut hx;obtain ⟨bx,rfl,ebx⟩:=PairIn.key hxb;obtain ⟨byy,rfl,eby⟩:=PairIn.key hyb;have hcm:=iB (aas hc);obtain ⟨t1,v1,e1⟩:=hG1 (q.1,c) q0 hcm.1 (by simp only;lia);obtain ⟨t2,v2,e2⟩:=hG1 (c+1,q.2) (by simp only;lia) (by simp only;lia) q2;have bs:=hB (q.1,c) q0 hcm.1 (by simp only;lia);have bt:=hB (c+1,q.2) (by simp only;lia) (by simp only;lia) q2;refine ⟨t,_,rfl,SqT.of et,rfl,_,_,rfl,_,_,rfl,rfl,?_⟩;refine ⟨_,rfl,_,rfl,cj gs,?_⟩;refine oW (Trn.str (z:=al gs)) (fun a ys' σ' H'=>∃ c2 c3 c4,σ'=[some (.ref bx),some (.ref byy),c2,c3,c4,some (.str (al gs)),some (.ref d)]∧H'=H1∧ys'.length≤12 * i+4 * a∧ys'=(((bj q).take i).flatMap (jeC En0 gs q)++(gs.take a).flatMap (jeG En0 q c)).map V.int) ⟨_,_,_,rfl,rfl,by lia,by simpa using z0⟩ (fun _ _ _ _ _ _=>trivial) (fun a x ys1 σ1 H2 H2' ha it z Nx1 nx1=>?_) (fun ys1 σ1 H2 z=>?_)
    · obtain ⟨c2,c3,c4,rfl,eH,l1,z1⟩:=z;obtain ⟨eH',cc,hcc,rfl⟩:=it
      replace eH':=(eH'.trans eH).symm
      subst eH';clear eH;obtain ⟨g,hg,rfl⟩:=jO hcc;have ha3:a < 3:=by rw [dZ] at ha;lia
      refine ⟨_,rfl,_,rfl,d,.ref t1,rfl,⟨es0,_,pd1,MkIn.pair ebx,v1.symm⟩,t1,rfl,⟨_,SqT.of e1⟩,?_⟩;refine oW (Trn.tup (xs:=[V.int (En0 (q.1,c)).1,V.int (En0 (q.1,c)).2])) (fun b ys' σ' H'=>∃ c3 c4,σ'=[some (.ref bx),some (.ref byy),some (.str ⟨#[g.code]⟩),c3,c4,some (.str (al gs)),some (.ref d)]∧H'=H1∧ys'.length≤12 * i+4 * a+2 * b∧ys'=(((bj q).take i).flatMap (jeC En0 gs q)++(gs.take a).flatMap (jeG En0 q c)++((two (En0 (q.1,c))).take b).flatMap (jeX En0 q c g)).map V.int) ⟨_,_,rfl,rfl,by lia,by simpa using z1⟩ (fun b ys' σ' H' hb z=>by obtain ⟨_,_,_,rfl,_⟩:=z;exact SqT.of e1) (fun b x ys2 σ2 H3 H3' hb it z Nx2 nx2=>?_) (fun ys2 σ2 H3 z=>?_)
      · obtain ⟨c3,c4,rfl,eH,l2,z2⟩:=z;obtain ⟨eH',hx2⟩:=it
        replace eH':=(eH'.trans eH).symm
        subst eH';clear eH;have hb2:b < 2:=hb;obtain ⟨xv,hxv,rfl,bxv⟩:∃ xv,(two (En0 (q.1,c)))[b]?=some xv∧x=V.int xv∧xv.natAbs < 2 ^ 4000:=by
          have : b=0∨b=1:=by lia
          rcases this with rfl|rfl
          · exact ⟨_,rfl,(aal hx2).symm,bs.1⟩
          · exact ⟨_,rfl,(aal hx2).symm,bs.2⟩
        refine ⟨_,rfl,_,rfl,d,.ref t2,rfl,⟨es0,_,pd1,MkIn.pair eby,v2.symm⟩,t2,rfl,⟨_,SqT.of e2⟩,?_⟩;refine tU (Trn.tup (xs:=[V.int (En0 (c+1,q.2)).1,V.int (En0 (c+1,q.2)).2])) (fun u ys' σ' H'=>∃ c4,σ'=[some (.ref bx),some (.ref byy),some (.str ⟨#[g.code]⟩),some (.int xv),c4,some (.str (al gs)),some (.ref d)]∧H'=H1∧ys'.length≤12 * i+4 * a+2 * b+u∧ys'=(((bj q).take i).flatMap (jeC En0 gs q)++(gs.take a).flatMap (jeG En0 q c)++((two (En0 (q.1,c))).take b).flatMap (jeX En0 q c g)++((two (En0 (c+1,q.2))).take u).map fun y=>g.op xv y).map V.int) ⟨_,rfl,rfl,by lia,by simpa using z2⟩ (fun u ys' σ' H' hu z=>?_) (fun u y ys3 σ3 H4 H4' hu it z Nx3 nx3=>?_) (fun ys3 σ3 H4 z=>?_)
        · obtain ⟨_,_,rfl,l3,_⟩:=z;have hu2:u≤2:=hu;exact ⟨SqT.of e2,aA (by lia)⟩
        · obtain ⟨c4,rfl,eH,l3,z3⟩:=z;obtain ⟨eH',hy3⟩:=it
          replace eH':=(eH'.trans eH).symm
          subst eH';clear eH;have hu2:u < 2:=hu;obtain ⟨yv,hyv,rfl,byv⟩:∃ yv,(two (En0 (c+1,q.2)))[u]?=some yv∧y=V.int yv∧yv.natAbs < 2 ^ 4000:=by
            have : u=0∨u=1:=by lia
            rcases this with rfl|rfl
            · exact ⟨_,rfl,(aal hy3).symm,bt.1⟩
            · exact ⟨_,rfl,(aal hy3).symm,bt.2⟩
          refine ⟨_,rfl,_,rfl,_,rfl,xv,g,yv,by rw [bJ];rfl,bxv,byv,nx3 _ _ _ ⟨_,rfl,rfl,by rw [aaj];simp only [aaY,List.length_nil];lia,?_⟩⟩;rw [z3,aay,hyv];simp
        · obtain ⟨c4,rfl,rfl,l3,z3⟩:=z;refine nx2 _ _ _ ⟨_,_,rfl,rfl,by have : [V.int (En0 (c+1,q.2)).1,V.int (En0 (c+1,q.2)).2].length=2:=rfl;lia,?_⟩;rw [z3,aZ (f:=jeX En0 q c g) hxv,← aaA];rfl
      · obtain ⟨c3,c4,rfl,rfl,l2,z2⟩:=z;refine nx1 _ _ _ ⟨_,_,_,rfl,rfl,by have : [V.int (En0 (q.1,c)).1,V.int (En0 (q.1,c)).2].length=2:=rfl;lia,?_⟩;rw [z2,aZ (f:=jeG En0 q c) hg,← aaA];rfl
    · obtain ⟨c2,c3,c4,rfl,rfl,l1,z1⟩:=z;rw [dZ] at l1 z1;refine nx _ _ ⟨rfl,by lia,?_⟩;rw [z1,aZ (f:=jeC En0 gs q) hc,aaZ];rfl
  · obtain ⟨rfl,_,rfl⟩:=z;rw [← lc,aaZ];have s5:=Same.new n5 (.lst ((jeL En0 gs q).map V.int));exact qq p5 _ (s1.trans s5) (s1.free n5) ad
end
open PySem L2
theorem pJ {E:Int × Int→Int × Int} {gs:List Sg} {q:Int × Int} (hq:q.1 < q.2) (hg:gs≠[]):fA E gs q≠[]:=fun z=>by
  obtain ⟨g,hg⟩:∃ g,g∈gs:=List.exists_mem_of_ne_nil _ hg;have hc:q.1∈bj q:=by
    unfold bj;exact aan.mpr ⟨0,aaN.mpr (by lia),by simp⟩
  have : g.op (E (q.1,q.1)).1 (E (q.1+1,q.2)).1∈fA E gs q:=mem_corn.mpr ⟨q.1,hc,g,hg,_,_,.inl rfl,.inl rfl,rfl⟩;rw [z] at this;simp at this
theorem vV {E:Int × Int→Int × Int} {ns:List Int} {gs:List Sg} {q:Int × Int} (hg:gs≠[]) (h:q.1≤q.2):wiL E ns gs q≠[]:=by
  unfold wiL;by_cases e:q.1=q.2
  · rw [if_pos e];simp
  · rw [if_neg e];intro z;obtain ⟨x,hx⟩:=List.exists_mem_of_ne_nil _ (pJ (E:=E) (q:=q) (by lia) hg);have:=mem_je.mpr hx;rw [z] at this;cases this
def fI (ns:List Int) (gs:List Sg) (E:Int × Int→Int × Int) (q:Int × Int):Bool:=(wiL E ns gs q).all fun m=>decide ((E q).1≤m) && decide (m≤(E q).2)
def EP (ps:PPa) (q:Int × Int):Int × Int:=((lkP ps q).bind prD).getD (0,0)
def cT (ns:List Int) (gs:List Sg) (ps:PPa):Bool:=ir ns.length (some ps) && ps.all (fun p=>(prD p.2).isSome) && (sfl ns.length ns.length).all (fI ns gs (EP ps))
def cI (ns:List Int) (gs:List Sg):Option PPa→Option (Int × Int)
  | none=>none
  | some ps=>if cT ns gs ps=true then some (EP ps (0,(ns.length:Int) - 1)) else none
theorem fD {ns:List Int} {gs:List Sg} {ps:PPa} (h:cT ns gs ps=false):cI ns gs (some ps)=none:=by
  show (if cT ns gs ps=true then _ else none)=none;rw [h];rfl
theorem lQ {ns:List Int} {gs:List Sg} {ps:PPa} (h:cT ns gs ps=true):cI ns gs (some ps)=some (EP ps (0,(ns.length:Int) - 1)):=by
  show (if cT ns gs ps=true then some _ else none)=_;rw [if_pos h]
theorem gA {ps:PPa} {q:Int × Int} {d:PyData} (h:lkP ps q=some d):(MK.tup [q.1,q.2],d)∈ps:=by
  unfold lkP at h;obtain ⟨p,hp,rfl⟩:=aa7.mp h;have h1:=List.mem_of_find?_eq_some hp;have h2:=List.find?_some hp;have h2:p.1=MK.tup [q.1,q.2]:=of_decide_eq_true h2;rw [← h2];exact h1
mutual
theorem Dat.keep {H H':Hp} (g:∀ c ob,(∀ k,ob≠.dT k)→(∀ φ,ob≠.ext φ)→H c=some ob→H' c=some ob):∀ (d:PyData) (v:V),Dat H d v→Dat H' d v
  | .none,v,h=>by simp only [Dat] at h ⊢;exact h
  | .bool b,v,h=>by simp only [Dat] at h ⊢;exact h
  | .int i,v,h=>by simp only [Dat] at h ⊢;exact h
  | .str x,v,h=>by simp only [Dat] at h ⊢;exact h
  | .list ds,v,h=>by
    simp only [Dat] at h ⊢;obtain ⟨a,xs,e,h1,h2⟩:=h;exact ⟨a,xs,e,g _ _ (fun _ z=>nomatch z) (fun _ z=>nomatch z) h1,DatAll.keep g ds xs h2⟩
  | .tuple ds,v,h=>by
    simp only [Dat] at h ⊢;obtain ⟨a,xs,e,h1,h2⟩:=h;exact ⟨a,xs,e,g _ _ (fun _ z=>nomatch z) (fun _ z=>nomatch z) h1,DatAll.keep g ds xs h2⟩
  | .dict kvs,v,h=>by
    simp only [Dat] at h ⊢;obtain ⟨a,xs,e,h1,h2⟩:=h;exact ⟨a,xs,e,g _ _ (fun _ z=>nomatch z) (fun _ z=>nomatch z) h1,DatKv.keep g kvs xs h2⟩
theorem DatAll.keep {H H':Hp} (g:∀ c ob,(∀ k,ob≠.dT k)→(∀ φ,ob≠.ext φ)→H c=some ob→H' c=some ob):∀ (ds:List PyData) (vs:List V),DatAll H ds vs→DatAll H' ds vs
  | [],vs,h=>by simp only [DatAll] at h ⊢;exact h
  | d :: ds,vs,h=>by
    simp only [DatAll] at h ⊢;obtain ⟨v,r,e,h1,h2⟩:=h;exact ⟨v,r,e,Dat.keep g d v h1,DatAll.keep g ds r h2⟩
theorem DatKv.keep {H H':Hp} (g:∀ c ob,(∀ k,ob≠.dT k)→(∀ φ,ob≠.ext φ)→H c=some ob→H' c=some ob):∀ (kvs:List (PyData × PyData)) (ks:List (Key × V)),DatKv H kvs ks→DatKv H' kvs ks
  | [],ks,h=>by simp only [DatKv] at h ⊢;exact h
  | (k,d) :: r,ks,h=>by
    simp only [DatKv] at h ⊢;obtain ⟨q,v,t,e1,e2,h1,h2⟩:=h;exact ⟨q,v,t,e1,e2,Dat.keep g d v h1,DatKv.keep g r t h2⟩
end
def OkP (ps:PPa):Prop:=∀ p∈ps,OkX p.2
theorem tO:(10:Nat) ^ 280 < 2 ^ 4000∧0 < (10:Nat) ^ 280:=by decide +kernel
theorem uF {ps:PPa} (h:OkP ps) (q:Int × Int):(EP ps q).1.natAbs < 2 ^ 4000∧(EP ps q).2.natAbs < 2 ^ 4000:=by
  have key:(EP ps q).1.natAbs < 10 ^ 280∧(EP ps q).2.natAbs < 10 ^ 280:=by
    have z:EP ps q=(0,0)→(EP ps q).1.natAbs < 10 ^ 280∧(EP ps q).2.natAbs < 10 ^ 280:=fun e=>by rw [e];exact ⟨tO.2,tO.2⟩
    cases e:lkP ps q with
    | none=>exact z (by unfold EP;rw [e];rfl)
    | some d =>
      have e1:EP ps q=(prD d).getD (0,0):=by unfold EP;rw [e];rfl
      cases e2:prD d with
      | none=>exact z (by rw [e1,e2];rfl)
      | some x =>
        have e3:EP ps q=x:=by rw [e1,e2];rfl
        have:=h _ (gA e);rw [show (MK.tup [q.1,q.2],d).2=d from rfl,lZ e2] at this;simp only [OkX,OkXs] at this;rw [e3];exact ⟨this.1,this.2.1⟩
  exact ⟨Nat.lt_trans key.1 tO.1,Nat.lt_trans key.2 tO.1⟩
theorem rY {w:World} {H:Hp} {a:Addr} {ps:PPa} {n:Nat} (hp:PaIn w H a ps) (h1:ir n (some ps)=true) (h2:ps.all (fun p=>(prD p.2).isSome)=true):GtE (EP ps) w H a n:=by
  obtain ⟨es,pd,hes⟩:=hp;refine ⟨es,pd,fun q q0 q1 q2=>?_⟩;rw [cy,aaS,aaV] at h1;have hs:=h1.2 q (ng q0 q1 q2);rcases nC hes q with ⟨e1,_⟩|⟨d,v,e1,e2,hd⟩
  · rw [e1] at hs;cases hs
  · have hpr:=aaV.mp h2 _ (gA e1);obtain ⟨x,hx⟩:=acp.mp hpr;have hx:prD d=some x:=hx;obtain ⟨t,rfl,ht⟩:=uX hx hd;refine ⟨t,e2,?_⟩;have : EP ps q=x:=by unfold EP;rw [e1];show (prD d).getD (0,0)=x;rw [hx];rfl
    rw [this];exact ht
section
variable {P:Program} {w:World} {K:aaa} {mg:Str→Option Value} {base:Heap} {f:Addr} {fd:FuncData}
def iF (w:World):Sp:=fun vs H Q _=>∃ (r d:Addr) (E:Int × Int→Int × Int) (ns:List Int) (gs:List Sg) (q:Int × Int) (v:V),vs=[.ref r,.str (al gs),.ref d,v]∧H r=some (.lst (ns.map V.int))∧PairIn H q v∧0≤q.1∧q.1≤q.2∧q.2 < ns.length∧ns.length≤9∧gs.length≤3∧gs≠[]∧GtE E w H d ns.length ∧
  (∀ q:Int × Int,0≤q.1→q.1≤q.2→q.2 < ns.length→(E q).1.natAbs < 2 ^ 4000∧(E q).2.natAbs < 2 ^ 4000)∧∀ H',Same H H'→Q (.bl (fI ns gs E q)) H'
abbrev e_:Stmt:=top 30
theorem bM:FnScope ["row","signs","paper","stretch","low","high","first","last","worths"] ["row","signs","paper","stretch"] (am e_):=⟨rfl,rfl,rfl,by decide +kernel,rfl,by decide +kernel,by decide +kernel⟩
theorem kR (F:Fun K "is_within" "is_within" e_ f fd) (B:Bu K mg) (C_join_ends:Cal P w K mg base "join_ends" 2 ["paper","signs","stretch"] (uO w)):FnOk P w K mg base CX0 3 f fd ["row","signs","paper","stretch"] (iF w):=by
  refine F.ok bM (fun vs H Q E h=>?_) (fun cdv A outer s H vs Q E hr h=>?_)
  · obtain ⟨r,d,E0,ns,gs,q,v,rfl,_⟩:=h;rfl
  obtain ⟨r,d,E0,ns,gs,q,v,rfl,er,hv,q0,q1,q2,n9,g3,gne,⟨es,pd,hG⟩,hB,qq⟩:=h;refine ⟨_,(@af _ _ _ _ _ (@dE _ _ _ _ _ _ (@bY _ _ _ _ _ _ (w) rfl (u1 hr.units) (pv 2) (pv 3) (fun _ _=>rfl)) (@dF _ _ _ _ _ _ rfl (@aD _ _ _ _ _ (@aj _ _ (4) _ (bM).nd rfl (Or.inl rfl) (.inl rfl)) (@aD _ _ _ _ _ (@aj _ _ (5) _ (bM).nd rfl (Or.inl rfl) (.inl rfl)) bX (by rfl)) (by rfl)) (by rfl) (by rfl)) (by rfl) (by rfl) (by rfl)) (@af _ _ _ _ _ (@dE _ _ _ _ _ _ (pv 3) (@dF _ _ _ _ _ _ rfl (@aD _ _ _ _ _ (@aj _ _ (6) _ (bM).nd rfl (Or.inl rfl) (.inl rfl)) (@aD _ _ _ _ _ (@aj _ _ (7) _ (bM).nd rfl (Or.inl rfl) (.inl rfl)) bX (by rfl)) (by rfl)) (by rfl) (by rfl)) (by rfl) (by rfl) (by rfl)) (@gm _ _ _ _ _ (@av _ _ (8) _ _ _ _ (bM).nd rfl (Or.inl rfl) (@rq _ _ _ _ _ _ _ _ (@aF _ _ _ _ _ _ _ _ bw (pv 6) (pv 7) (az _)) (@aJ _ _ _ _ (@aa _ _ _ _ _ (@aM _ _ _ _ _ _ _ aQ (pv 0) (pv 6) (fun _ _=>rfl)) ac (by rfl))) (@ah _ _ _ _ _ _ _ _ _ _ _ C_join_ends hr (by lia) rfl (@aa _ _ _ _ _ (pv 2) (@aa _ _ _ _ _ (pv 1) (@aa _ _ _ _ _ (pv 3) ac (by rfl)) (by rfl)) (by rfl)) (by decide) (by rfl) (by rfl))) (by rfl) (by first|exact .inl rfl|exact .inr rfl|assumption)) (@ag _ _ _ (@ar _ _ _ _ (@b5 _ _ _ _ _ _ _ (@aO _ _ _ _ _ _ _ _ ic (pv 4) (@ak _ _ _ _ _ _ _ _ _ (@dS _ rfl) rfl B.imin abv (@aa _ _ _ _ _ (pv 8) ac (by rfl)) (by decide) (by decide) (by rfl) (by rfl)) (az _)) (@eK _ _ _ _ _ (@aO _ _ _ _ _ _ _ _ ic (@ak _ _ _ _ _ _ _ _ _ (@dU _ rfl) rfl B.imax abJ (@aa _ _ _ _ _ (pv 8) ac (by rfl)) (by decide) (by decide) (by rfl) (by rfl)) (pv 5) (az _))))))))),?_⟩;obtain ⟨b,rfl,eb⟩:=PairIn.key hv;have eb2:H b=some (.tup [.int q.1,.int q.2]):=eb;obtain ⟨t,v1,e1⟩:=hG q q0 q1 q2;have wne:=vV (E:=E0) (ns:=ns) gne q1;refine ⟨_,rfl,_,rfl,d,.ref t,rfl,⟨es,_,pd,MkIn.pair eb2,v1.symm⟩,t,_,rfl,SqT.of e1,rfl,_,_,rfl,_,_,rfl,rfl,?_⟩;refine ⟨_,rfl,b,_,rfl,SqT.of eb2,rfl,_,_,rfl,_,_,rfl,rfl,?_⟩;refine ⟨fun σ H'=>∃ p,σ=[some (.ref r),some (.str (al gs)),some (.ref d),some (.ref b),some (.int (E0 q).1),some (.int (E0 q).2),some (.int q.1),some (.int q.2),some (.ref p)]∧Same H H'∧H' p=some (.lst ((wiL E0 ns gs q).map V.int)),?_,?_⟩
  · by_cases c:q.1=q.2
    · have hix:q.1.toNat < ns.length:=by lia
      have eat:atI (ns.map V.int) q.1=some (.int (ns.getD q.1.toNat 0)):=by
        have h:atI (ns.map V.int) ((q.1.toNat:Nat):Int)=some (.int (ns.getD q.1.toNat 0)):=cG (by rw [aao,aac hix,aaG,aac hix];rfl)
        rwa [show ((q.1.toNat:Nat):Int)=q.1 by lia] at h
      refine ⟨_,rfl,_,rfl,rfl,_,rfl,ij (congrArg V.int c) ⟨_,rfl,_,rfl,r,_,_,_,rfl,rfl,SqL.of er,eat,(by show 1≤sizeLine;decide),fun p np=>⟨p,rfl,Same.new np _,?_⟩⟩⟩;rw [ad];unfold wiL;rw [if_pos c];rfl
    · refine ⟨_,rfl,_,rfl,rfl,_,rfl,fJ (fun z=>c (V.int.inj z)) ⟨_,rfl,_,rfl,_,rfl,d,E0,ns.length,gs,q,.ref b,rfl,hv,q0,q1,q2,n9,g3,⟨es,pd,hG⟩,hB,fun p H' s' np ep=>⟨p,rfl,s',?_⟩⟩⟩;rw [ep];unfold wiL;rw [if_neg c]
  · rintro σ H' ⟨p,rfl,S,ep⟩;refine ⟨_,rfl,_,rfl,p,_,rfl,SqL.of ep,wne,fun m hm hmin=>⟨_,_,rfl,rfl,_,rfl,?_⟩⟩;have q3:=qq _ S;by_cases c1:(E0 q).1≤m
    · rw [decide_eq_true c1];refine aI ⟨_,rfl,p,_,rfl,SqL.of ep,wne,fun M hM hmax=>⟨_,rfl,_,_,rfl,rfl,?_⟩⟩;show Q (V.bl (decide (M≤(E0 q).2))) H';have e:fI ns gs E0 q=decide (M≤(E0 q).2):=by
        unfold fI;rw [abB,aaV,decide_eq_true_eq];constructor
        · intro h;have:=h M hM;rw [aaS,decide_eq_true_eq,decide_eq_true_eq] at this;exact this.2
        · intro h x hx;rw [aaS,decide_eq_true_eq,decide_eq_true_eq];exact ⟨Int.le_trans c1 (hmin x hx),Int.le_trans (hmax x hx) h⟩
      rw [← e];exact q3
    · rw [decide_eq_false c1];have e:fI ns gs E0 q=false:=by
        unfold fI;rw [List.all_eq_false];exact ⟨m,hm,by rw [decide_eq_false c1,abZ];exact aad⟩
      rw [e] at q3;exact aB q3
def oH (w:World) (K:aaa):Sp:=fun vs H Q _=>∃ (r:Addr) (ns:List Int) (gs:List Sg) (t:Option PPa) (v:V),vs=[.ref r,.str (al gs),v]∧H r=some (.lst (ns.map V.int))∧1≤ns.length∧ns.length≤9∧1≤gs.length∧gs.length≤3∧cX gs∧ThIn w K H t v∧(∀ ps,t=some ps→OkP ps) ∧
  ∀ H',Same H H'→(cI ns gs t=none→Q .non H')∧(∀ e tt,cI ns gs t=some e→H' tt=some (.tup [.int e.1,.int e.2])→Q (.ref tt) H')
abbrev ee:Stmt:=top 27
theorem jy:FnScope ["row","signs","thing"] ["row","signs","thing"] (am ee):=⟨rfl,rfl,rfl,by decide +kernel,rfl,by decide +kernel,by decide +kernel⟩
theorem jF (F:Fun K "bounds_say" "bounds_say" ee f fd) (B:Bu K mg) (C_need_row:Cal P w K mg base "need_row" 3 ["thing"] gG) (C_need_signs:Cal P w K mg base "need_signs" 2 ["thing"] eX) (C_has_all_stretches:Cal P w K mg base "has_all_stretches" 2 ["thing","many"] (iK w K))
    (C_is_pair:Cal P w K mg base "is_pair" 2 ["thing"] gJ) (C_is_within:Cal P w K mg base "is_within" 3 ["row","signs","paper","stretch"] (iF w)) (C_shorter_first:Cal P w K mg base "shorter_first" 1 ["many"] tm):FnOk P w K mg base CX0 4 f fd ["row","signs","thing"] (oH w K):=by
  refine F.ok jy (fun vs H Q E h=>?_) (fun cdv A outer s H vs Q E hr h=>?_)
  · obtain ⟨r,ns,gs,t,v,rfl,_⟩:=h;rfl
  obtain ⟨r,ns,gs,t,v,rfl,er,n1,n9,g1,g3,hs,ht,hok,qq⟩:=h;refine ⟨_,(@af _ _ _ _ _ (@bS _ _ _ _ (@ah _ _ _ _ _ _ _ _ _ _ _ C_need_row hr (by lia) rfl (@aa _ _ _ _ _ (pv 0) ac (by rfl)) (by decide) (by rfl) (by rfl)) (by rfl)) (@af _ _ _ _ _ (@bS _ _ _ _ (@ah _ _ _ _ _ _ _ _ _ _ _ C_need_signs hr (by lia) rfl (@aa _ _ _ _ _ (pv 1) ac (by rfl)) (by decide) (by rfl) (by rfl)) (by rfl)) (@af _ _ _ _ _ (@aY _ _ _ _ _ _ _ _ (@PW.pt _ _ _ (@gj _ _ _ _ _ _ _ (@bT _ _ _ _ (@bh _ _ _ (@ah _ _ _ _ _ _ _ _ _ _ _ C_has_all_stretches hr (by lia) rfl (@aa _ _ _ _ _ (pv 2) (@aa _ _ _ _ _ (@ak _ _ _ _ _ _ _ _ _ ay rfl B.ilen aaO (@aa _ _ _ _ _ (pv 0) ac (by rfl)) (by decide) (by decide) (by rfl) (by rfl)) ac (by rfl)) (by rfl)) (by decide) (by rfl) (by rfl)) (by intro _;rfl))) (@fi _ _ _ _ (@bT _ _ _ _ (@bh _ _ _ (@ak _ _ _ _ _ _ _ _ _ (@fB _ rfl) rfl B.iall abI (@aa _ _ _ _ _ (@tJ _ _ _ (@bZ _ _ _ _ _ _ _ _ (["ends"]) ([none]) _ _ _ _ rfl (@rn _ _ _ _ _ _ (w) rfl (pv 2) (by rfl) (by rfl)) rfl trivial trivial (fun _ _ _ _=>⟨(@aj _ _ (0) _ (show aaX (["ends"]:List Str) by decide +kernel) rfl (Or.inl rfl) (.inr rfl)),aH,(@ah _ _ _ _ _ _ _ _ _ _ _ C_is_pair hr (by lia) rfl (@aa _ _ _ _ _ (pv 0) ac (by rfl)) (by decide) (by rfl) (by rfl))⟩) (by rfl) (by rfl) (by rfl) (by rfl) (by intro _;rfl))) ac (by rfl)) (by decide) (by decide) (by rfl) (by rfl)) (by intro _;rfl)))))) (@ag _ _ _ (@ar _ _ _ _ bO)) aG) (@af _ _ _ _ _ (@aY _ _ _ _ _ _ _ _ (@bT _ _ _ _ (@bh _ _ _ (@ak _ _ _ _ _ _ _ _ _ (@fB _ rfl) rfl B.iall abI (@aa _ _ _ _ _ (@bZ _ _ _ _ _ _ _ _ (["stretch","row","signs","thing"]) ([none,some 0,some 1,some 2]) _ _ _ _ rfl (@cV _ _ _ _ (@ah _ _ _ _ _ _ _ _ _ _ _ C_shorter_first hr (by lia) rfl (@aa _ _ _ _ _ (@ak _ _ _ _ _ _ _ _ _ ay rfl B.ilen aaO (@aa _ _ _ _ _ (pv 0) ac (by rfl)) (by decide) (by decide) (by rfl) (by rfl)) ac (by rfl)) (by decide) (by rfl) (by rfl))) rfl ⟨rfl,⟨rfl,⟨rfl,trivial⟩⟩⟩ ⟨⟨rfl,Or.inl rfl,Or.inl rfl⟩,⟨⟨rfl,Or.inl rfl,Or.inl rfl⟩,⟨⟨rfl,Or.inl rfl,Or.inl rfl⟩,trivial⟩⟩⟩ (fun _ _ _ _=>⟨(@aj _ _ (0) _ (show aaX (["stretch","row","signs","thing"]:List Str) by decide +kernel) rfl (Or.inl rfl) (.inr rfl)),aH,(@ah _ _ _ _ _ _ _ _ _ _ _ C_is_within hr (by lia) rfl (@aa _ _ _ _ _ (pv 1) (@aa _ _ _ _ _ (pv 2) (@aa _ _ _ _ _ (pv 3) (@aa _ _ _ _ _ (pv 0) ac (by rfl)) (by rfl)) (by rfl)) (by rfl)) (by decide) (by rfl) (by rfl))⟩) (by rfl) (by rfl) (by rfl) (by rfl) (by intro _;rfl)) ac (by rfl)) (by decide) (by decide) (by rfl) (by rfl)) (by intro _;rfl))) (@ag _ _ _ (@ar _ _ _ _ bO)) aG) (@ag _ _ _ (@ar _ _ _ _ (@bY _ _ _ _ _ _ (w) rfl (u1 hr.units) (pv 2) (@au _ _ _ _ _ (@aa _ _ _ _ _ ae (@aa _ _ _ _ _ (@ap _ _ _ _ _ _ _ _ dn (@ak _ _ _ _ _ _ _ _ _ ay rfl B.ilen aaO (@aa _ _ _ _ _ (pv 0) ac (by rfl)) (by decide) (by decide) (by rfl) (by rfl)) ae) ac (by rfl)) (by rfl))) (fun _ _=>rfl)))))))),?_⟩;have hl:(ns.map V.int).length=ns.length:=aab _;have gne:gs≠[]:=fun z=>by rw [z] at g1;simp at g1
  have l81:=kx ns.length ns.length;have l81':ns.length * ns.length≤9 * 9:=acj n9 n9;refine ⟨_,rfl,r,ns,rfl,er,n1,n9,fun H1 s1=>?_⟩;refine ⟨_,rfl,gs,rfl,hs,?_⟩;refine ⟨_,rfl,_,rfl,r,_,rfl,.inl (SqL.of (s1 _ _ er)),?_⟩;rw [hl];refine ⟨t,v,ns.length,rfl,n9,ht.mono s1,fun H2 s2=>⟨_,rfl,?_⟩⟩;have S2:=s1.trans s2;have ht2:=ht.mono S2;cases hh:ir ns.length t with
  | false =>
    have e:cI ns gs t=none:=by
      cases t with
      | none=>rfl
      | some ps=>exact fD (by unfold cT;rw [hh];rfl)
    exact aI (aI ((qq _ S2).1 e))
  | true =>
  refine aB ?_;cases t with
  | none=>exact absurd hh (by simp [ir])
  | some ps =>
  have hokp:=hok ps rfl;obtain ⟨d,rfl,hpa⟩:=ht2;obtain ⟨es,pd,hes⟩:=id hpa;have lk:es.length=ps.length:=(aaC hes).symm;have hlen:ps.length=(sfl ns.length ns.length).length:=by
    rw [cy,aaS] at hh;exact of_decide_eq_true hh.1
  have hpos:1≤ps.length:=by
    have:=oK ns.length 0 0 (aah _) (by lia);have:=ab2 this;lia
  obtain ⟨u,hu,hu1⟩:∃ u,H2 d=some u∧((∃ k,u=.dT k)∨∃ φ,u=.ext φ):=by
    rcases pd with ⟨kvs,h,_⟩|⟨kvs,h,_⟩|⟨_,h⟩
    · exact ⟨_,h,.inl ⟨_,rfl⟩⟩
    · exact ⟨_,h.at_,.inr ⟨_,rfl⟩⟩
    · rw [h] at lk;simp at lk;lia
  refine ⟨_,rfl,d,es,u,rfl,pd,hu,fun o=>?_⟩;have S3:∀ c ob,c≠d→H2 c=some ob→upd H2 d (.frz o u) c=some ob:=fun c ob hc e=>by rw [aq hc];exact e
  have e3:upd H2 d (.frz o u) d=some (.frz o u):=ad;have D3:∀ x y,Dat H2 x y→Dat (upd H2 d (.frz o u)) x y:=fun x y=>Dat.keep (fun c ob n1 n2 e=>S3 c ob (fun z=>by
    rw [z,hu] at e;injection e with e
    rcases hu1 with ⟨k,hk⟩|⟨k,hk⟩
    · exact n1 k (e.symm.trans hk)
    · exact n2 k (e.symm.trans hk)) e) x y
  generalize upd H2 d (.frz o u)=H3 at S3 e3 D3 ⊢;refine b_ Trn.valsM (fun i ys H'=>H'=H3∧ys=((ps.take i).map fun p=>(prD p.2).isSome).map V.bl) ⟨rfl,rfl⟩ (fun i ys H' hi z=>⟨by rw [z.1];exact e3,by rw [z.2,aab,aab,aax];exact aA (by lia)⟩) (fun i x ys H0 H' hi hx z Nx nx=>?_) (fun ys H' z p5 n5=>?_)
  · obtain ⟨rfl,rfl⟩:=z;obtain ⟨rfl,hx⟩:=hx;rw [aao] at hx;obtain ⟨e0,he0,rfl⟩:=aa7.mp hx;obtain ⟨p0,hp0,_,hd0⟩:=Paired.at hes he0;refine ⟨_,rfl,p0.2,_,rfl,D3 _ _ hd0,nx _ _ ⟨rfl,?_⟩⟩;rw [rh,jv hp0,aaH];rfl
  obtain ⟨rfl,rfl⟩:=z;have nf:sU H2 d:=fun o' v' e=>by
    rw [hu] at e;injection e with e
    rcases hu1 with ⟨k,hk⟩|⟨k,hk⟩ <;> (rw [hk] at e;cases e)
  rw [aab,lk,aaZ];obtain ⟨bs,hbs⟩:∃ bs:List Bool,(ps.map fun p=>(prD p.2).isSome)=bs:=⟨_,rfl⟩
  rw [hbs];have s5:=Same.new n5 (.lst (bs.map V.bl));have e5:upd H' p5 (.lst (bs.map V.bl)) p5=_:=ad;have e6:=s5 _ _ e3;generalize upd H' p5 (.lst (bs.map V.bl))=H5 at s5 e5 e6 ⊢;have npd:p5≠d:=fun e=>by rw [e,e6] at e5;cases e5
  have S6:Same H2 (upd H5 d u):=fun c ob hc=>by
    by_cases h:c=d
    · subst h;rw [ad];rw [hu] at hc;exact hc
    · rw [aq h];exact s5 _ _ (S3 c ob h hc)
  have e7:upd H5 d u p5=_:=(aq npd).trans e5;refine ⟨d,o,u,nf,e6,p5,_,rfl,SqL.of e7,?_⟩;have SA:=S2.trans S6;generalize upd H5 d u=HA at S6 SA ⊢;have ea:(bs.all id)=ps.all (fun p=>(prD p.2).isSome):=by rw [← hbs,List.all_map];rfl
  rw [ea];cases hpr:ps.all (fun p=>(prD p.2).isSome) with
  | false =>
    have e:cI ns gs (some ps)=none:=fD (by unfold cT;rw [hh,hpr];rfl);exact ⟨_,rfl,aI ((qq _ SA).1 e)⟩
  | true =>
  refine ⟨_,rfl,aB ?_⟩;have hG:=rY (hpa.mono S6) hh hpr;have erA:=SA _ _ er;refine ⟨_,rfl,r,_,rfl,.inl (SqL.of erA),?_⟩;rw [hl];refine ⟨ns.length,rfl,n9,fun pS us HB sB npS epS hpS=>⟨pS,rfl,⟨_,SqL.of epS⟩,?_⟩⟩;have SB:=SA.trans sB;have erB:=SB _ _ er;have hGB:=hG.mono sB;have lS:=hpS.length;refine b_ (Trn.list (xs:=us)) (fun i ys H'=>Same HB H'∧ys=(((sfl ns.length ns.length).take i).map fun q=>fI ns gs (EP ps) q).map V.bl) ⟨Same.refl _,rfl⟩ (fun i ys H' hi z=>⟨SqL.of (z.1 _ _ epS),by rw [z.2,aab,aab,aax];exact aA (by lia)⟩) (fun i x ys H0 H' hi hx z Nx nx=>?_) (fun ys H' z p9 n9'=>?_)
  · obtain ⟨S,rfl⟩:=z;obtain ⟨rfl,hx⟩:=hx;obtain ⟨q1,hq1,hpx⟩:=l_ (PairsIn.mono (Tups.of S) hpS) hx;obtain ⟨a0,a1,a2⟩:=iP ns.length q1 (aas hq1);refine ⟨_,rfl,_,rfl,_,rfl,_,rfl,r,d,EP ps,ns,gs,q1,x,rfl,S _ _ erB,hpx,a0,a1,a2,n9,g3,gne,hGB.mono S,(fun q _ _ _=>uF hokp q),fun H2 s2=>nx _ _ ⟨S.trans s2,?_⟩⟩;rw [jv hq1,aaH];rfl
  obtain ⟨S,rfl⟩:=z;rw [← lS,aaZ];obtain ⟨cs,hcs⟩:∃ cs:List Bool,((sfl ns.length ns.length).map fun q=>fI ns gs (EP ps) q)=cs:=⟨_,rfl⟩
  rw [hcs];have s9:=Same.new n9' (.lst (cs.map V.bl));refine ⟨p9,_,rfl,SqL.of ad,?_⟩;have SC:=(SB.trans S).trans s9;generalize upd H' p9 (.lst (cs.map V.bl))=HC at s9 SC ⊢;have ec:(cs.all id)=(sfl ns.length ns.length).all (fI ns gs (EP ps)):=by rw [← hcs,List.all_map];rfl
  rw [ec];cases hoa:(sfl ns.length ns.length).all (fI ns gs (EP ps)) with
  | false =>
    have e:cI ns gs (some ps)=none:=fD (by unfold cT;rw [hh,hpr,hoa];rfl);exact ⟨_,rfl,aI ((qq _ SC).1 e)⟩
  | true =>
  have e:cI ns gs (some ps)=some (EP ps (0,(ns.length:Int) - 1)):=lQ (by unfold cT;rw [hh,hpr,hoa];rfl);refine ⟨_,rfl,aB ?_⟩;refine ⟨_,rfl,_,rfl,r,_,rfl,.inl (SqL.of (SC _ _ er)),_,_,rfl,rfl,?_⟩;rw [hl];refine ⟨(by show 2≤sizeLine;decide),fun k1 nk1=>?_⟩;have sk:=Same.new nk1 (.tup [.int 0,.int ((ns.length:Int) - 1)]);have SD:=SC.trans sk;obtain ⟨es2,pd2,g2⟩:=(hGB.mono (S.trans s9)).mono sk;obtain ⟨t,v1,v2⟩:=g2 (0,(ns.length:Int) - 1) (Int.le_refl _) (by simp only;lia) (by simp only;lia);refine ⟨d,.ref t,rfl,⟨es2,_,pd2,MkIn.pair (i:=0) (j:=(ns.length:Int) - 1) ad,v1.symm⟩,(qq _ SD).2 _ t e v2⟩
end
open PySem L2
theorem lV {kvs:List (List Key × V)} {k:List Key} {v:V} (h:k∉kvs.map (·.1)):dQ kvs k v=kvs++[(k,v)]:=by
  unfold dQ;rw [if_neg];intro q;obtain ⟨p,hp,e⟩:=List.any_eq_true.mp q;exact h (aan.mpr ⟨p,hp,of_decide_eq_true e⟩)
def qp:List Int→Int
  | []=>0
  | [x]=>x
  | x :: r=>min x (qp r)
theorem lF:∀ {kvs:List (List Key × V)} {k:List Key} {v:V},(kvs.map (·.1)).Nodup→(k,v)∈kvs→bB kvs k=some v
  | [],_,_,_,h=>nomatch h
  | p :: r,k,v,hn,h=>by
    rw [aae,aba] at hn;rcases aai.mp h with e|h
    · subst e;unfold bB;rw [aa9,decide_eq_true rfl];rfl
    · have ne:p.1≠k:=fun e=>hn.1 (aan.mpr ⟨(k,v),h,e.symm⟩);have:=lF hn.2 h;unfold bB at this ⊢;rw [aa9,decide_eq_false ne];exact this
theorem rG {qs:List (Int × Int)} (h:qs.Nodup):(qs.map ky).Nodup:=by
  induction h with
  | nil=>exact acI
  | @cons q r hq _ ih =>
    rw [aae,aba];refine ⟨fun z=>?_,ih⟩;obtain ⟨q',hq',e⟩:=aan.mp z;exact hq q' hq' (nU e).symm
theorem fj {α β:Type} {l:List α} {f:α→List β} {i:Nat} {x:α} {q:List β} (h:l[i]?=some x) (hq:q <+: f x):(l.take i).flatMap f++q <+: l.flatMap f:=by
  obtain ⟨hi,e⟩:=aaT.mp h;obtain ⟨t,ht⟩:=hq;refine ⟨t++(l.drop (i+1)).flatMap f,?_⟩;have el:l=l.take i++x :: l.drop (i+1):=by
    rw [← e]
    conv=>lhs;rw [← List.take_append_drop i l,List.drop_eq_getElem_cons hi]
  conv=>rhs;rw [el,acm,List.flatMap_cons,← ht]
  simp
def bg (gs:List Sg) (a b:Int):List Int:=gs.map fun g=>g.op a b
theorem hW (E:Int × Int→Int × Int) (gs:List Sg) (q:Int × Int):fA E gs q=(bj q).flatMap fun c=>(two (E (q.1,c))).flatMap fun a=>(two (E (c+1,q.2))).flatMap fun b=>bg gs a b:=rfl
theorem jP {n:Nat} (h:n≤9):10 ^ (30 * n) < 2 ^ 4000:=aa2 (abe (by decide) (show 30 * n≤270 by lia)) (by decide +kernel)
def bv (j:Nat):List (Int × Int):=(aa0 (j+1)).map fun (a:Nat)=>((j:Int) - (a:Int),(j:Int))
def aE (n:Nat):List (Int × Int):=(aa0 n).flatMap bv
theorem fX:∀ n,n≤9→(aE n).Nodup:=by decide +kernel
theorem gW (n:Nat):aE (n+1)=aE n++bv n:=by
  unfold aE;rw [List.range_succ,acm];simp
theorem qY {j:Nat} {q:Int × Int} (h0:0≤q.1) (h1:q.1≤q.2) (h2:q.2=(j:Int)):q∈bv j:=by
  unfold bv;refine aan.mpr ⟨((j:Int) - q.1).toNat,aaN.mpr (by lia),?_⟩;rw [show (((((j:Int) - q.1).toNat:Nat)):Int)=(j:Int) - q.1 by lia,← h2];congr 1;lia
theorem dk {n:Nat} {q:Int × Int} (h0:0≤q.1) (h1:q.1≤q.2) (h2:q.2 < (n:Int)):q∈aE n:=by
  unfold aE;refine List.mem_flatMap.mpr ⟨q.2.toNat,aaN.mpr (by lia),qY h0 h1 (by lia)⟩
theorem gr:∀ n,n≤9→(aE n).length≤45:=by decide +kernel
def BtIn (E:Int × Int→Int × Int) (H:Hp) (qs:List (Int × Int)) (kvs:List (List Key × V)):Prop:=Paired (fun (q:Int × Int) (kv:List Key × V)=>kv.1=ky q∧∃ t,kv.2=.ref t∧H t=some (.tup [.int (E q).1,.int (E q).2])) qs kvs
theorem BtIn.mono {E:Int × Int→Int × Int} {H H':Hp} (t:Tups H H') {qs:List (Int × Int)} {kvs:List (List Key × V)} (h:BtIn E H qs kvs):BtIn E H' qs kvs:=Paired.mapP h fun _ _ ⟨e,a,b,c⟩=>⟨e,a,b,t _ _ c⟩
theorem BtIn.keys {E:Int × Int→Int × Int} {H:Hp} {qs:List (Int × Int)} {kvs:List (List Key × V)} (h:BtIn E H qs kvs):kvs.map (·.1)=qs.map ky:=by
  unfold BtIn at h
  induction h with
  | nil=>rfl
  | cons h t ih=>rw [aae,aae,ih,h.1]
theorem BtIn.get {E:Int × Int→Int × Int} {H:Hp} {qs:List (Int × Int)} {kvs:List (List Key × V)} (h:BtIn E H qs kvs) (nd:qs.Nodup) {q:Int × Int} (hq:q∈qs):∃ t,bB kvs (ky q)=some (.ref t)∧H t=some (.tup [.int (E q).1,.int (E q).2]):=by
  have hn:(kvs.map (·.1)).Nodup:=by rw [h.keys];exact rG nd
  obtain ⟨i,hi⟩:=ab7.mp hq;have hl:=aaC h;have hlt:i < kvs.length:=by have:=(aaT.mp hi).1;lia
  have hk:kvs[i]?=some kvs[i]:=aac hlt;obtain ⟨q',hq',e,t,e2,e3⟩:=Paired.at h hk;rw [hi] at hq';cases hq';refine ⟨t,lF hn ?_,e3⟩;rw [← e,← e2];exact aas hk
def kB (E:Int × Int→Int × Int) (q0 e:Int × Int):Int × Int→Int × Int:=fun q=>if q=q0 then e else E q
theorem kA {E:Int × Int→Int × Int} {q0 e:Int × Int}:kB E q0 e q0=e:=if_pos rfl
theorem gf {E:Int × Int→Int × Int} {q0 e q:Int × Int} (h:¬ q=q0):kB E q0 e q=E q:=if_neg h
theorem BtIn.put {E:Int × Int→Int × Int} {H:Hp} {qs:List (Int × Int)} {kvs:List (List Key × V)} {q0:Int × Int} {m M:Int} {t:Addr} (h:BtIn E H qs kvs) (hn:q0∉qs) (ht:H t=some (.tup [.int m,.int M])):BtIn (kB E q0 (m,M)) H (qs++[q0]) (kvs++[(ky q0,.ref t)]):=by
  refine Paired.app ?_ (.cons ⟨rfl,t,rfl,?_⟩ .nil)
  · have go:∀ {qs:List (Int × Int)} {kvs:List (List Key × V)},BtIn E H qs kvs→q0∉qs→BtIn (kB E q0 (m,M)) H qs kvs:=by
      intro qs kvs h;unfold BtIn at h ⊢
      induction h with
      | nil=>intro _;exact .nil
      | @cons q kv qs kvs h t ih =>
        intro hn;have n1:¬ q=q0:=fun e=>hn (by rw [e];exact aat);exact .cons ⟨h.1,by rw [gf n1];exact h.2⟩ (ih fun z=>hn (aak _ z))
    exact go h hn
  · rw [kA];exact ht
def bnd (q:Int × Int):Nat:=10 ^ (30 * (q.2 - q.1+1).toNat)
def BdQ (E:Int × Int→Int × Int) (qs:List (Int × Int)):Prop:=∀ q∈qs,(E q).1.natAbs+10≤bnd q∧(E q).2.natAbs+10≤bnd q
theorem BdQ.put {E:Int × Int→Int × Int} {qs:List (Int × Int)} {q0:Int × Int} {m M:Int} (h:BdQ E qs) (h1:m.natAbs+10≤bnd q0) (h2:M.natAbs+10≤bnd q0):BdQ (kB E q0 (m,M)) (qs++[q0]):=fun q hq=>by
  by_cases e:q=q0
  · rw [e,kA];exact ⟨h1,h2⟩
  · rw [gf e];rcases aav.mp hq with hq|hq
    · exact h q hq
    · exact absurd (aaM.mp hq) e
theorem qH {q:Int × Int} (h0:0≤q.1) (h2:q.2 < 9):bnd q < 2 ^ 4000:=jP (by lia)
theorem BdQ.lt {E:Int × Int→Int × Int} {qs:List (Int × Int)} (h:BdQ E qs) {q:Int × Int} (hq:q∈qs) (h0:0≤q.1) (h2:q.2 < 9):(E q).1.natAbs < 2 ^ 4000∧(E q).2.natAbs < 2 ^ 4000:=by
  obtain ⟨a,b⟩:=h q hq;have c:=qH h0 h2;exact ⟨aa2 (aaE (abY _ 10) a) c,aa2 (aaE (abY _ 10) b) c⟩
def fnE (E:Int × Int→Int × Int) (ns:List Int) (gs:List Sg) (q:Int × Int):List Int:=(if q.1=q.2 then [ns.getD q.1.toNat 0] else [])++fA E gs q
theorem nY {E:Int × Int→Int × Int} {ns:List Int} {gs:List Sg} (hg:gs≠[]) {q:Int × Int} (h:q.1≤q.2):fnE E ns gs q≠[]:=by
  unfold fnE;by_cases e:q.1=q.2
  · rw [if_pos e];simp
  · rw [if_neg e,List.nil_append];exact pJ (by lia) hg
theorem rC {a b:Int} {A B:Nat} (hA:10 ^ 30≤A) (hB:10 ^ 30≤B) (ha:a.natAbs+10≤A) (hb:b.natAbs+10≤B) (g:Sg):(g.op a b).natAbs+20≤A * B:=by
  have e:(10:Nat) ^ 30=1000000000000000000000000000000:=by decide
  rw [e] at hA hB;have h1:A * 2≤A * B:=Nat.mul_le_mul_left _ (by lia);have h2:2 * B≤A * B:=Nat.mul_le_mul_right _ (by lia);cases g with
  | plus=>show (a+b).natAbs+20≤A * B;lia
  | minus=>show (a - b).natAbs+20≤A * B;lia
  | times =>
    show (a * b).natAbs+20≤A * B;rw [Int.natAbs_mul];obtain ⟨x,hx⟩:∃ x,a.natAbs=x:=⟨_,rfl⟩
    obtain ⟨y,hy⟩:∃ y,b.natAbs=y:=⟨_,rfl⟩
    rw [hx] at ha ⊢;rw [hy] at hb ⊢;have h3:(x+10) * (y+10)≤A * B:=acj ha hb;have h4:(x+10) * (y+10)=x * y+10 * x+10 * y+100:=by rw [Nat.add_mul,Nat.mul_add];lia
    lia
theorem ot {q:Int × Int} (h:q.1≤q.2):10 ^ 30≤bnd q:=abe (by decide) (by lia)
theorem ug {a c b:Int} (h1:a≤c) (h2:c < b):bnd (a,c) * bnd (c+1,b)=bnd (a,b):=by
  unfold bnd;rw [← Nat.pow_add];congr 1;simp only;lia
theorem sC {E:Int × Int→Int × Int} {ns:List Int} {gs:List Sg} {q:Int × Int} {qs:List (Int × Int)} (sm:cL ns) (h0:0≤q.1) (h1:q.1≤q.2) (h2:q.2 < ns.length) (hE:BdQ E qs) (hq:∀ c∈bj q,(q.1,c)∈qs∧(c+1,q.2)∈qs):∀ x∈fnE E ns gs q,x.natAbs+20≤bnd q:=by
  intro x hx;unfold fnE at hx;rcases aav.mp hx with hx|hx
  · by_cases e:q.1=q.2
    · rw [if_pos e] at hx;have hlt:q.1.toNat < ns.length:=by lia
      have : x∈ns:=by
        rw [aaM.mp hx,aaG,aac hlt];exact abx _
      have s:=sm x this;have g:=ot h1;have e2:(10:Nat) ^ 30=1000000000000000000000000000000:=by decide
      lia
    · rw [if_neg e] at hx;cases hx
  · obtain ⟨c,hc,g,_,a,b,ha,hb,e⟩:=mem_corn.mp hx;obtain ⟨i1,i2⟩:=iB hc;obtain ⟨k1,k2⟩:=hq c hc;obtain ⟨b1,b2⟩:=hE _ k1;obtain ⟨b3,b4⟩:=hE _ k2;rw [← e,show bnd q=bnd (q.1,c) * bnd (c+1,q.2) from (ug i1 i2).symm];refine rC (ot (q:=(q.1,c)) i1) (ot (q:=(c+1,q.2)) (by simp only;lia)) ?_ ?_ g
    · rcases ha with rfl|rfl
      · exact b1
      · exact b2
    · rcases hb with rfl|rfl
      · exact b3
      · exact b4
def Ex (E:Int × Int→Int × Int) (ns:List Int) (gs:List Sg) (qs:List (Int × Int)):Prop:=∀ q∈qs,(∀ c∈bj q,(q.1,c)∈qs∧(c+1,q.2)∈qs)∧(E q).1∈fnE E ns gs q∧(E q).2∈fnE E ns gs q∧∀ x∈fnE E ns gs q,(E q).1≤x∧x≤(E q).2
theorem pB {E:Int × Int→Int × Int} {ns:List Int} {gs:List Sg} {q q0:Int × Int} {e:Int × Int} (h:∀ c∈bj q,(q.1,c)≠q0∧(c+1,q.2)≠q0):fnE (kB E q0 e) ns gs q=fnE E ns gs q:=by
  unfold fnE;congr 1;unfold fA;refine congrArg List.flatten (acn fun c hc=>?_);rw [gf (h c hc).1,gf (h c hc).2]
theorem Ex.put {E:Int × Int→Int × Int} {ns:List Int} {gs:List Sg} {qs:List (Int × Int)} {q0:Int × Int} {m M:Int} (h:Ex E ns gs qs) (n0:q0∉qs) (hp:∀ c∈bj q0,(q0.1,c)∈qs∧(c+1,q0.2)∈qs)
    (hm:m∈fnE E ns gs q0) (hM:M∈fnE E ns gs q0) (hb:∀ x∈fnE E ns gs q0,m≤x∧x≤M):Ex (kB E q0 (m,M)) ns gs (qs++[q0]):=by
  intro q hq;have ne:∀ {q'},q'∈qs→q'≠q0:=fun hq' z=>n0 (by rw [← z];exact hq');rcases aav.mp hq with hq|hq
  · obtain ⟨a,b,c,d⟩:=h q hq;have e:=pB (E:=E) (ns:=ns) (gs:=gs) (e:=(m,M)) (q:=q) (q0:=q0) fun c hc=>⟨ne (a c hc).1,ne (a c hc).2⟩
    rw [e,gf (ne hq)];exact ⟨fun c hc=>⟨aaD _ (a c hc).1,aaD _ (a c hc).2⟩,b,c,d⟩
  · rw [List.mem_singleton] at hq;subst hq;have e:=pB (E:=E) (ns:=ns) (gs:=gs) (e:=(m,M)) (q:=q) (q0:=q) fun c hc=>⟨ne (hp c hc).1,ne (hp c hc).2⟩
    rw [e,kA];exact ⟨fun c hc=>⟨aaD _ (hp c hc).1,aaD _ (hp c hc).2⟩,hm,hM,hb⟩
section
variable {P:Program} {w:World} {K:aaa} {mg:Str→Option Value} {base:Heap} {f:Addr} {fd:FuncData}
def gF:Sp:=fun vs H Q _=>∃ a g b,vs=[.str (Sg.str g),.int a,.int b]∧a.natAbs < 2 ^ 4000∧b.natAbs < 2 ^ 4000∧Q (.int (g.op a b)) H
abbrev fT:Stmt:=top 40
theorem lN:FnScope ["sign","one","other"] ["sign","one","other"] (am fT):=⟨rfl,rfl,rfl,by decide +kernel,rfl,by decide +kernel,by decide +kernel⟩
theorem nH (F:Fun K "_law_put" "_law_put" fT f fd):FnOk P w K mg base CX0 1 f fd ["sign","one","other"] gF:=by
  refine F.ok lN (fun vs H Q E h=>?_) (fun cdv A outer s H vs Q E hr h=>?_)
  · obtain ⟨a,g,b,rfl,_⟩:=h;rfl
  obtain ⟨a,g,b,rfl,ha,hb,q⟩:=h;refine ⟨_,(@af _ _ _ _ _ (@aY _ _ _ _ _ _ _ _ (@aF _ _ _ _ _ _ _ _ bw (pv 0) bc (az _)) (@ag _ _ _ (@ar _ _ _ _ (@ap _ _ _ _ _ _ _ _ bf (pv 1) (pv 2)))) aG) (@af _ _ _ _ _ (@aY _ _ _ _ _ _ _ _ (@aF _ _ _ _ _ _ _ _ bw (pv 0) bc (az _)) (@ag _ _ _ (@ar _ _ _ _ (@ap _ _ _ _ _ _ _ _ dn (pv 1) (pv 2)))) aG) (@ag _ _ _ (@ar _ _ _ _ (@ap _ _ _ _ _ _ _ _ gt (pv 1) (pv 2)))))),?_⟩;cases g with
  | plus=>exact ⟨_,rfl,rfl,_,rfl,ij rfl ⟨_,rfl,_,rfl,_,_,rfl,rfl,q⟩⟩
  | minus=>exact ⟨_,rfl,rfl,_,rfl,fJ (by decide +kernel) ⟨_,rfl,rfl,_,rfl,ij rfl ⟨_,rfl,_,rfl,_,_,rfl,rfl,q⟩⟩⟩
  | times=>exact ⟨_,rfl,rfl,_,rfl,fJ (by decide +kernel) ⟨_,rfl,rfl,_,rfl,fJ (by decide +kernel) ⟨_,rfl,_,rfl,_,_,rfl,rfl,⟨ha,hb⟩,q⟩⟩⟩
def gK:Sp:=fun vs H Q _=>∃ (r:Addr) (ns:List Int) (gs:List Sg),vs=[.ref r,.str (al gs)]∧H r=some (.lst (ns.map V.int))∧1≤ns.length∧ns.length≤9∧1≤gs.length∧gs.length≤3∧cL ns ∧
  ∀ pb kvs E H',Same H H'→H pb=none→H' pb=some (.dT kvs)→BtIn E H' (aE ns.length) kvs→BdQ E (aE ns.length)→Ex E ns gs (aE ns.length)→Q (.ref pb) H'
abbrev dD:Stmt:=top 43
theorem a9:FnScope ["row","signs","found","j","i","some","k","one","other"] ["row","signs"] (am dD):=⟨rfl,rfl,rfl,by decide +kernel,rfl,by decide +kernel,by decide +kernel⟩
theorem jC (F:Fun K "_law_bounds" "_law_bounds" dD f fd) (B:Bu K mg) (C__law_put:Cal P w K mg base "_law_put" 1 ["sign","one","other"] gF):FnOk P w K mg base CX0 2 f fd ["row","signs"] gK:=by
  refine F.ok a9 (fun vs H Q E h=>?_) (fun cdv A outer s H vs Q E hr h=>?_)
  · obtain ⟨r,ns,gs,rfl,_⟩:=h;rfl
  obtain ⟨r,ns,gs,rfl,er,h1,h9,g1,g3,sm,q⟩:=h;refine ⟨_,(@af _ _ _ _ _ (@av _ _ (2) _ _ _ _ (a9).nd rfl (Or.inl rfl) l5 (by rfl) (by first|exact .inl rfl|exact .inr rfl|assumption)) (@af _ _ _ _ _ (@bb _ _ _ _ _ _ _ _ aaz rfl (@bz _ _ _ _ _ _ rfl B.irange (@aa _ _ _ _ _ (@ak _ _ _ _ _ _ _ _ _ ay rfl B.ilen aaO (@aa _ _ _ _ _ (pv 0) ac (by rfl)) (by decide) (by decide) (by rfl) (by rfl)) ac (by rfl)) (by rfl)) (@aj _ _ (3) _ (a9).nd rfl (Or.inl rfl) (.inl rfl)) (@ag _ _ _ (@bb _ _ _ _ _ _ _ _ aaz rfl (@jQ _ _ _ _ _ _ _ _ rfl B.irange (@aa _ _ _ _ _ (pv 3) (@aa _ _ _ _ _ (@h_ _ _ _ _ _ _ eV ae) (@aa _ _ _ _ _ (@h_ _ _ _ _ _ _ eV ae) ac (by rfl)) (by rfl)) (by rfl)) (by rfl) (by rfl)) (@aj _ _ (4) _ (a9).nd rfl (Or.inl rfl) (.inl rfl)) (@af _ _ _ _ _ (@av _ _ (5) _ _ _ _ (a9).nd rfl (Or.inl rfl) (@ap _ _ _ _ _ _ _ _ kJ (@aJ _ _ _ _ (@aa _ _ _ _ _ (@aM _ _ _ _ _ _ _ aQ (pv 0) (pv 4) (fun _ _=>rfl)) ac (by rfl))) (@bo _ _ _ _ _ _ _ _ _ cA rfl B.iint aa3 (@aa _ _ _ _ _ (@aO _ _ _ _ _ _ _ _ bw (pv 4) (pv 3) (az _)) ac (by rfl)) (by decide) (by decide) (by rfl) (by rfl))) (by rfl) (by first|exact .inl rfl|exact .inr rfl|assumption)) (@af _ _ _ _ _ (@bb _ _ _ _ _ _ _ _ aaz rfl (@cu _ _ _ _ _ _ _ rfl B.irange (@aa _ _ _ _ _ (pv 4) (@aa _ _ _ _ _ (pv 3) ac (by rfl)) (by rfl)) (by rfl) (by rfl)) (@aj _ _ (6) _ (a9).nd rfl (Or.inl rfl) (.inl rfl)) (@ag _ _ _ (@bb _ _ _ _ _ _ _ _ aaz rfl (@eJ _ _ _ _ (@iy _ _ _ _ _ _ (u1 hr.units) (pv 2) (@au _ _ _ _ _ (@aa _ _ _ _ _ (pv 4) (@aa _ _ _ _ _ (pv 6) ac (by rfl)) (by rfl))) (fun _ _=>rfl))) (@aj _ _ (7) _ (a9).nd rfl (Or.inr rfl) (.inl rfl)) (@ag _ _ _ (@bb _ _ _ _ _ _ _ _ aaz rfl (@eJ _ _ _ _ (@iy _ _ _ _ _ _ (u1 hr.units) (pv 2) (@au _ _ _ _ _ (@aa _ _ _ _ _ (@ap _ _ _ _ _ _ _ _ bf (pv 6) ae) (@aa _ _ _ _ _ (pv 3) ac (by rfl)) (by rfl))) (fun _ _=>rfl))) (@aj _ _ (8) _ (a9).nd rfl (Or.inr rfl) (.inl rfl)) (@ag _ _ _ (@bS _ _ _ _ (@iW _ _ _ _ _ _ _ _ _ _ _ _ aa5 abT abU fG (pv 5) (@aa _ _ _ _ _ (@bZ _ _ _ _ _ _ _ _ (["sign","one","other"]) ([none,some 7,some 8]) _ _ _ _ rfl (@gR _ _ _ _ (pv 1)) rfl ⟨rfl,⟨rfl,trivial⟩⟩ ⟨⟨rfl,Or.inl rfl,Or.inl rfl⟩,⟨⟨rfl,Or.inl rfl,Or.inl rfl⟩,trivial⟩⟩ (fun _ _ _ _=>⟨(@aj _ _ (0) _ (show aaX (["sign","one","other"]:List Str) by decide +kernel) rfl (Or.inl rfl) (.inr rfl)),aH,(@ah _ _ _ _ _ _ _ _ _ _ _ C__law_put hr (by lia) rfl (@aa _ _ _ _ _ (pv 0) (@aa _ _ _ _ _ (pv 1) (@aa _ _ _ _ _ (pv 2) ac (by rfl)) (by rfl)) (by rfl)) (by decide) (by rfl) (by rfl))⟩) (by rfl) (by rfl) (by rfl) (by rfl) (by intro _;rfl)) ac (by rfl)) (by rfl) (by rfl) (by rfl) (by rfl) (by rfl)) (by rfl))) (by intro _;rfl))) (by intro _;rfl))) (by intro _;rfl)) (@ag _ _ _ (@oO _ _ _ _ _ _ _ _ _ (u1 hr.units) (pv 2) (@au _ _ _ _ _ (@aa _ _ _ _ _ (pv 4) (@aa _ _ _ _ _ (pv 3) ac (by rfl)) (by rfl))) (@au _ _ _ _ _ (@aa _ _ _ _ _ (@ak _ _ _ _ _ _ _ _ _ (@dS _ rfl) rfl B.imin abv (@aa _ _ _ _ _ (pv 5) ac (by rfl)) (by decide) (by decide) (by rfl) (by rfl)) (@aa _ _ _ _ _ (@ak _ _ _ _ _ _ _ _ _ (@dU _ rfl) rfl B.imax abJ (@aa _ _ _ _ _ (pv 5) ac (by rfl)) (by decide) (by decide) (by rfl) (by rfl)) ac (by rfl)) (by rfl))) rfl)))) (by intro _;rfl))) (by intro _;rfl)) (@ag _ _ _ (@ar _ _ _ _ (pv 2))))),?_⟩;have hl:(ns.map V.int).length=ns.length:=aab _;have gne:gs≠[]:=fun z=>by rw [z] at g1;simp at g1
  have t2:(2:Nat)≤sizeLine:=by decide
  have nd:=fX ns.length h9;intro d nD;have S2:=Same.new nD (.dT []);have e2:upd H d (.dT []) d=some (.dT []):=ad;have nDH:=nD;generalize upd H d (.dT [])=H2 at S2 e2 ⊢;have nrd:r≠d:=ao er nDH;refine ⟨_,rfl,r,_,rfl,.inl (SqL.of (S2 _ _ er)),_,rfl,by lia,by lia,?_⟩;rw [hl];refine bq (n:=((ns.length:Nat):Int).toNat) (fun j σ H'=>∃ (kvs:List (List Key × V)) (E:Int × Int→Int × Int) (c3 c4 c5 c6 c7 c8:Option V),σ=[some (.ref r),some (.str (al gs)),some (.ref d),c3,c4,c5,c6,c7,c8]∧Same H H'∧H' d=some (.dT kvs)∧BtIn E H' (aE j) kvs∧BdQ E (aE j)∧Ex E ns gs (aE j)) ⟨[],fun _=>(0,0),_,_,_,_,_,_,rfl,S2,e2,.nil,(fun q hq=>nomatch hq),fun q hq=>nomatch hq⟩ ?_ ?_
  · rintro j σ H3 hj ⟨kvs3,E3,c3,c4,c5,c6,c7,c8,rfl,S3,e3,hb3,hq3,hx3⟩;have ej:(0:Int)+(j:Int)=(j:Int):=by lia
    rw [ej];have hjn:j < ns.length:=by lia
    refine ⟨_,rfl,1,rfl,1,rfl,(j:Int),-1,rfl,⟨by lia,by lia,by decide,by decide⟩,?_⟩;have e4:((j:Int) - (-1)).toNat=j+1:=by lia
    refine dG (Trn.down (hi:=(j:Int)) (n:=((j:Int) - (-1)).toNat)) (fun a σ H'=>∃ (kvs:List (List Key × V)) (E:Int × Int→Int × Int) (c4 c5 c6 c7 c8:Option V),σ=[some (.ref r),some (.str (al gs)),some (.ref d),some (.int (j:Int)),c4,c5,c6,c7,c8]∧Same H H'∧H' d=some (.dT kvs)∧BtIn E H' (aE j++(bv j).take a) kvs∧BdQ E (aE j++(bv j).take a)∧Ex E ns gs (aE j++(bv j).take a)) ⟨kvs3,E3,_,_,_,_,_,rfl,S3,e3,by simpa using hb3,by simpa using hq3,by simpa using hx3⟩ (fun _ _ _ _ _=>trivial) ?_ ?_
    · rintro a x σ H4 H4' ha ⟨rfl,rfl⟩ ⟨kvs,E,d4,d5,d6,d7,d8,rfl,S4,e5,hb5,hq5,hx5⟩;have ha':a < j+1:=by lia
      obtain ⟨q0,eq0⟩:∃ q0:Int × Int,q0=((j:Int) - (a:Int),(j:Int)):=⟨_,rfl⟩
      have q1:q0.1=(j:Int) - (a:Int):=by rw [eq0]
      have q2:q0.2=(j:Int):=by rw [eq0]
      obtain ⟨i0,hi0⟩:∃ i0:Int,(j:Int) - (a:Int)=i0:=⟨_,rfl⟩
      rw [hi0] at q1 eq0 ⊢;have i0a:0≤i0:=by lia
      have i0j:i0≤(j:Int):=by lia
      have hix:i0.toNat < ns.length:=by lia
      have eat:atI (ns.map V.int) i0=some (.int (ns.getD i0.toNat 0)):=by
        have h:atI (ns.map V.int) ((i0.toNat:Nat):Int)=some (.int (ns.getD i0.toNat 0)):=cG (by rw [aao,aac hix,aaG,aac hix];rfl)
        rwa [show ((i0.toNat:Nat):Int)=i0 by lia] at h
      have er4:=S4 _ _ er;refine ⟨_,rfl,_,rfl,r,_,_,_,rfl,rfl,SqL.of er4,eat,?_⟩;refine ⟨(by show 1≤sizeLine;decide),fun p1 n1=>⟨_,rfl,_,rfl,rfl,.inr ⟨_,rfl,p1,_,_,rfl,rfl,ad,by split <;> decide,by split <;> decide,(by split <;> first|(show 1 * 1≤sizeLine;decide)|(show 1 * 0≤sizeLine;decide)),fun ps nps=>?_⟩⟩⟩;obtain ⟨b0,hb0⟩:∃ b0:List Int,(if q0.1=q0.2 then [ns.getD q0.1.toNat 0] else [])=b0:=⟨_,rfl⟩
      have eb0:(aaQ (if decide (V.int i0=V.int (j:Int))=true then (1:Int) else 0).toNat [V.int (ns.getD i0.toNat 0)]).flatten=b0.map V.int:=by
        rw [← hb0,q1,q2];by_cases c:i0=(j:Int)
        · rw [decide_eq_true (by rw [c]),if_pos c];rfl
        · rw [decide_eq_false (fun z=>c (by injection z)),if_neg c];rfl
      rw [eb0];have lb0:b0.length≤1:=by rw [← hb0];split <;> simp
      have s5:=(Same.new n1 (.lst [V.int (ns.getD i0.toNat 0)])).trans (Same.new nps (.lst (b0.map V.int)));have nps4:H4' ps=none:=(Same.new n1 (.lst [V.int (ns.getD i0.toNat 0)])).free nps;have e6:upd (upd H4' p1 (.lst [V.int (ns.getD i0.toNat 0)])) ps (.lst (b0.map V.int)) ps=some (.lst (b0.map V.int)):=ad;generalize upd (upd H4' p1 (.lst [V.int (ns.getD i0.toNat 0)])) ps (.lst (b0.map V.int))=H5 at s5 e6 ⊢;have nDs:d≠ps:=ao e5 nps4;have hR:(bv j)[a]?=some q0:=by
        unfold bv;rw [aao,aa4 ha',eq0,← hi0];rfl
      have prefixT:∀ b,(aE j++(bv j).take b).Nodup:=fun b=>by
        have hjr:(aa0 ns.length)[j]?=some j:=aa4 hjn;have hp:=fj (f:=bv) hjr (List.take_prefix b (bv j));have e:((aa0 ns.length).take j).flatMap bv=aE j:=by
          unfold aE;rw [ab8,abR (by lia)]
        rw [e] at hp;exact ab4 hp.sublist nd
      have TT:∀ {H':Hp},But ps H5 H'→Tups H4' H':=fun {H'} b c xs hc=>b _ _ (ao hc nps4) (s5 _ _ hc);have look:∀ {H':Hp} {q':Int × Int} {k:Addr},But ps H5 H'→q'∈aE j++(bv j).take a→H' k=some (.tup [.int q'.1,.int q'.2])→∃ t,DGet H' d (.ref k) (some (.ref t))∧H' t=some (.tup [.int (E q').1,.int (E q').2]):=fun {H' q' k} b hm hk=>by
        obtain ⟨t,v1,v2⟩:=(BtIn.mono (TT b) hb5).get (prefixT a) hm;refine ⟨t,?_,v2⟩;rw [← v1];exact DGet.t (k:=ky q') (b _ _ nDs (s5 _ _ e5)) hk
      refine ⟨_,rfl,_,rfl,i0,(j:Int),rfl,⟨by lia,by lia,by lia,by lia⟩,?_⟩;refine bq (n:=((j:Int) - i0).toNat) (fun c σ H'=>∃ (xs:List Int) (c6 c7 c8:Option V),σ=[some (.ref r),some (.str (al gs)),some (.ref d),some (.int (j:Int)),some (.int i0),some (.ref ps),c6,c7,c8]∧But ps H5 H'∧H' ps=some (.lst (xs.map V.int))∧xs.length≤1+c * 12∧xs=b0++((bj q0).take c).flatMap fun c=>(two (E (q0.1,c))).flatMap fun x=>(two (E (c+1,q0.2))).flatMap fun y=>bg gs x y) ⟨b0,_,_,_,rfl,But.refl,e6,by lia,by simp⟩ ?_ ?_
      · rintro c σ H6 hc ⟨xs6,f6,f7,f8,rfl,b6,ep6,l6,x6⟩;have hcut:(bj q0)[c]?=some (i0+(c:Int)):=by
          unfold bj;rw [aao,aa4 (by rw [q1,q2];lia),q1];rfl
        obtain ⟨cv,hcv⟩:∃ cv:Int,i0+(c:Int)=cv:=⟨_,rfl⟩
        rw [hcv] at hcut ⊢;have cv1:i0≤cv:=by lia
        have cv2:cv < (j:Int):=by lia
        refine ⟨_,rfl,_,rfl,_,rfl,t2,fun k1 nk1=>?_⟩;have sk1:=Same.new nk1 (.tup [.int i0,.int cv]);have ep7:=sk1 _ _ ep6;have ek1:upd H6 k1 (.tup [.int i0,.int cv]) k1=_:=ad;have b7:=b6.trans (But.of sk1);generalize upd H6 k1 (.tup [.int i0,.int cv])=H7 at b7 ep7 ek1 ⊢;obtain ⟨v1,dg1,ev1⟩:=look (q':=(i0,cv)) b7 (aaD _ (dk i0a cv1 cv2)) ek1;refine ⟨d,_,rfl,dg1,v1,rfl,⟨_,SqT.of ev1⟩,?_⟩;have nv1p:v1≠ps:=fun e=>by rw [e,ep7] at ev1;cases ev1
        have m2:(cv+1,(j:Int))∈aE j++(bv j).take a:=by
          refine aar _ ?_;unfold bv;rw [← act,ab8,abR (by lia)];refine aan.mpr ⟨((j:Int) - (cv+1)).toNat,aaN.mpr (by lia),?_⟩;congr 1;lia
        obtain ⟨bs1,bs2⟩:=hq5.lt (q:=(i0,cv)) (aaD _ (dk i0a cv1 cv2)) i0a (by simp only;lia);obtain ⟨bt1,bt2⟩:=hq5.lt (q:=(cv+1,(j:Int))) m2 (by simp only;lia) (by simp only;lia);obtain ⟨E1,hE1⟩:∃ E1,E (i0,cv)=E1:=⟨_,rfl⟩
        obtain ⟨E2,hE2⟩:∃ E2,E (cv+1,(j:Int))=E2:=⟨_,rfl⟩
        rw [hE1] at bs1 bs2 ev1;rw [hE2] at bt1 bt2;have fin:∀ {xs:List Int},xs=xs6++((two E1).flatMap fun x=>(two E2).flatMap fun y=>bg gs x y)→xs=b0++((bj q0).take (c+1)).flatMap fun c=>(two (E (q0.1,c))).flatMap fun x=>(two (E (c+1,q0.2))).flatMap fun y=>bg gs x y:=fun {xs} e=>by
          rw [aZ hcut,← aaA,← x6,e,q1,q2,hE1,hE2]
        refine dG (Trn.tup (xs:=[V.int E1.1,V.int E1.2])) (fun o σ H'=>∃ (xs:List Int) (c7 c8:Option V),σ=[some (.ref r),some (.str (al gs)),some (.ref d),some (.int (j:Int)),some (.int i0),some (.ref ps),some (.int cv),c7,c8]∧But ps H7 H'∧H' ps=some (.lst (xs.map V.int))∧xs.length≤1+c * 12+o * 6∧xs=xs6++((two E1).take o).flatMap fun x=>(two E2).flatMap fun y=>bg gs x y) ⟨xs6,_,_,rfl,But.refl,ep7,by lia,by simp⟩ ?_ ?_ ?_
        · rintro o σ H8 _ ⟨xs8,_,_,rfl,b8,_⟩;exact SqT.of (b8 _ _ nv1p ev1)
        · rintro o x σ H8 H8' ho ⟨rfl,hx⟩ ⟨xs8,c7,c8,rfl,b8,ep8,l8,x8⟩;have ho2:o < 2:=ho;obtain ⟨xv,hxv,rfl,bxv⟩:∃ xv,(two E1)[o]?=some xv∧x=V.int xv∧xv.natAbs < 2 ^ 4000:=by
            have : o=0∨o=1:=by lia
            rcases this with rfl|rfl
            · exact ⟨_,rfl,(aal hx).symm,bs1⟩
            · exact ⟨_,rfl,(aal hx).symm,bs2⟩
          refine ⟨_,rfl,_,rfl,_,_,rfl,rfl,_,rfl,t2,fun k2 nk2=>?_⟩;have sk2:=Same.new nk2 (.tup [.int (cv+1),.int (j:Int)]);have ep9:=sk2 _ _ ep8;have ek2:upd H8' k2 (.tup [.int (cv+1),.int (j:Int)]) k2=_:=ad;have b9:=b8.trans (But.of sk2);generalize upd H8' k2 (.tup [.int (cv+1),.int (j:Int)])=H9 at b9 ep9 ek2 ⊢;obtain ⟨v2,dg2,ev2⟩:=look (q':=(cv+1,(j:Int))) (b7.trans b9) m2 ek2;rw [hE2] at ev2;refine ⟨d,_,rfl,dg2,v2,rfl,⟨_,SqT.of ev2⟩,?_⟩;have nv2p:v2≠ps:=fun e=>by rw [e,ep9] at ev2;cases ev2
          refine dG (Trn.tup (xs:=[V.int E2.1,V.int E2.2])) (fun u σ H'=>∃ (xs:List Int) (c8:Option V),σ=[some (.ref r),some (.str (al gs)),some (.ref d),some (.int (j:Int)),some (.int i0),some (.ref ps),some (.int cv),some (.int xv),c8]∧But ps H9 H'∧H' ps=some (.lst (xs.map V.int))∧xs.length≤1+c * 12+o * 6+u * 3∧xs=xs8++((two E2).take u).flatMap fun y=>bg gs xv y) ⟨xs8,_,rfl,But.refl,ep9,by lia,by simp⟩ ?_ ?_ ?_
          · rintro u σ H8 _ ⟨xs8,_,rfl,b8,_⟩;exact SqT.of (b8 _ _ nv2p ev2)
          · rintro u y σ Ha Ha' hu ⟨rfl,hy⟩ ⟨xsa,c8,rfl,ba,epa,la,xa⟩;have hu2:u < 2:=hu;obtain ⟨yv,hyv,rfl,byv⟩:∃ yv,(two E2)[u]?=some yv∧y=V.int yv∧yv.natAbs < 2 ^ 4000:=by
              have : u=0∨u=1:=by lia
              rcases this with rfl|rfl
              · exact ⟨_,rfl,(aal hy).symm,bt1⟩
              · exact ⟨_,rfl,(aal hy).symm,bt2⟩
            refine ⟨_,rfl,.inl ⟨rfl,_,SqL.of epa⟩,_,rfl,_,rfl,cj gs,?_⟩;refine b_ (Trn.str (z:=al gs)) (fun i ys H'=>H'=Ha'∧ys=((gs.take i).map fun g=>V.int (g.op xv yv))) ⟨rfl,rfl⟩ (fun i ys H' hi z=>⟨trivial,?_⟩) (fun i x ys H1 H' hi it z Nx nx=>?_) (fun ys H' z p9 n9=>?_)
            · rw [z.2,aab,aax];exact aA (by lia)
            · obtain ⟨rfl,rfl⟩:=z;obtain ⟨rfl,cc,hcc,rfl⟩:=it;obtain ⟨g,hg,rfl⟩:=jO hcc;refine ⟨_,rfl,_,rfl,_,rfl,xv,g,yv,by rw [bJ];rfl,bxv,byv,nx _ _ ⟨rfl,?_⟩⟩;rw [aay,hg,aaH];rfl
            · obtain ⟨rfl,rfl⟩:=z;have s9:=Same.new n9 (.lst ((gs.take (al gs).cps.size).map fun g=>V.int (g.op xv yv)));have ez:(gs.take (al gs).cps.size).map (fun g=>V.int (g.op xv yv))=(bg gs xv yv).map V.int:=by
                rw [dZ,aaZ];unfold bg;rw [aaR];rfl
              have lg:(bg gs xv yv).length=gs.length:=by unfold bg;rw [aab]
              refine ⟨ps,p9,_,_,rfl,rfl,s9 _ _ epa,ad,?_,?_⟩
              · rw [ez,aab,aab,lg];exact abz (aA (by lia))
              · rw [ez] at s9 ⊢;refine ⟨xsa++bg gs xv yv,_,rfl,?_,by rw [aaH];exact ad,?_,?_⟩
                · intro b o hb e;rw [aq hb];exact s9 _ _ (ba _ _ hb e)
                · rw [aaj,lg];lia
                · rw [aZ hyv,xa,aaA]
          · rintro σ Ha ⟨xsa,c8,rfl,ba,epa,la,xa⟩;refine ⟨xsa,_,_,rfl,b9.trans ba,epa,?_,?_⟩
            · have la:xsa.length≤1+c * 12+o * 6+2 * 3:=la;lia
            · rw [xa,aZ hxv,x8,aaA];rfl
        · rintro σ H8 ⟨xs8,c7,c8,rfl,b8,ep8,l8,x8⟩;refine ⟨xs8,_,_,_,rfl,b7.trans b8,ep8,?_,fin x8⟩;have l8:xs8.length≤1+c * 12+2 * 6:=l8;lia
      · rintro σ H6 ⟨xs6,f6,f7,f8,rfl,b6,ep6,l6,x6⟩;have q12:q0.1≤q0.2:=by rw [q1,q2];lia
        have x6:xs6=fnE E ns gs q0:=by
          rw [x6,aa1 (by rw [show (bj q0).length=(q0.2 - q0.1).toNat by simp [bj],q1,q2];lia),← hW,← hb0];rfl
        have hne:xs6≠[]:=by rw [x6];exact nY gne q12
        refine ⟨_,rfl,ps,xs6,rfl,SqL.of ep6,hne,fun m hm hmin=>⟨_,rfl,ps,xs6,rfl,SqL.of ep6,hne,fun M hM hmax=>⟨t2,fun tv ntv=>?_⟩⟩⟩;have stv:=Same.new ntv (.tup [.int m,.int M]);refine ⟨_,rfl,_,rfl,_,rfl,t2,fun tk ntk=>?_⟩;have stk:=Same.new ntk (.tup [.int i0,.int (j:Int)]);have b8:=b6.trans (But.of (stv.trans stk));have etv:=stk _ _ (ad (H:=H6) (a:=tv) (o:=.tup [.int m,.int M]));have etk:upd (upd H6 tv (.tup [.int m,.int M])) tk (.tup [.int i0,.int (j:Int)]) tk=some (.tup ((ky q0).map kV)):=by rw [ad,eq0];rfl
        generalize upd (upd H6 tv (.tup [.int m,.int M])) tk (.tup [.int i0,.int (j:Int)])=H8 at b8 etv etk ⊢;have ed8:=b8 _ _ nDs (s5 _ _ e5);have lk:=aaC hb5;have pl:(aE j++(bv j).take a).length≤100:=by
          have z1:=gr j (by lia);have z2:((bv j).take a).length≤10:=by rw [aax];simp [bv];lia
          rw [aaj];lia
        have eN:ky q0∉kvs.map (·.1):=fun z=>by
          rw [hb5.keys] at z;obtain ⟨q',hq',e⟩:=aan.mp z;rw [nU e] at hq';have:=prefixT (a+1);rw [aay,hR,← aaA] at this;exact (List.nodup_append.mp this).2.2 _ hq' q0 (by simp) rfl
        refine ⟨d,_,rfl,DPut.t (k:=ky q0) ed8 etk (aA (by lia)),?_⟩;rw [lV eN];have up8:∀ b o,b≠d→H8 b=some o→upd H8 d (.dT (kvs++[(ky q0,.ref tv)])) b=some o:=fun b o hb e=>by rw [aq hb];exact e
        have qn:q0∉aE j++(bv j).take a:=fun z=>by
          have:=prefixT (a+1);rw [aay,hR,← aaA] at this;exact (List.nodup_append.mp this).2.2 _ z q0 (by simp) rfl
        have hparts:∀ c∈bj q0,(q0.1,c)∈aE j++(bv j).take a∧(c+1,q0.2)∈aE j++(bv j).take a:=fun c hc=>by
          obtain ⟨c1,c2⟩:=iB hc;rw [q1] at c1 ⊢;rw [q2] at c2 ⊢;refine ⟨aaD _ (dk i0a c1 c2),aar _ ?_⟩;unfold bv;rw [← act,ab8,abR (by lia)];refine aan.mpr ⟨((j:Int) - (c+1)).toNat,aaN.mpr (by lia),?_⟩;congr 1;lia
        have bE:=sC (E:=E) (gs:=gs) sm (by rw [q1];exact i0a) q12 (by rw [q2];lia) hq5 hparts;rw [← x6] at bE;refine ⟨_,kB E q0 (m,M),_,_,_,_,_,rfl,?_,ad,?_,?_,?_⟩
        · intro b o e;exact up8 _ _ (ao e nDH) (b8 _ _ (ao e (S4.free nps4)) (s5 _ _ (S4 _ _ e)))
        · rw [aay,hR,← aaA];refine BtIn.put (BtIn.mono (fun b xs e=>up8 _ _ (fun z=>by rw [z,e5] at e;cases e) (TT b8 _ _ e)) hb5) qn ?_;exact up8 _ _ (fun z=>by rw [z,ed8] at etv;cases etv) etv
        · rw [aay,hR,← aaA];exact hq5.put (aaE (by lia) (bE m hm)) (aaE (by lia) (bE M hM))
        · rw [aay,hR,← aaA];exact hx5.put qn hparts (by rw [← x6];exact hm) (by rw [← x6];exact hM) (fun x hx=>by rw [← x6] at hx;exact ⟨hmin x hx,hmax x hx⟩)
    · rintro σ H4 ⟨kvs,E,d4,d5,d6,d7,d8,rfl,S4,e5,hb5,hq5,hx5⟩;rw [e4,aa1 (by simp [bv]),← gW] at hb5 hq5 hx5;exact ⟨kvs,E,_,_,_,_,_,_,rfl,S4,e5,hb5,hq5,hx5⟩
  · rintro σ H3 ⟨kvs3,E3,c3,c4,c5,c6,c7,c8,rfl,S3,e3,hb3,hq3,hx3⟩;rw [abQ] at hb3 hq3 hx3;exact ⟨_,rfl,q d kvs3 E3 H3 S3 nDH e3 hb3 hq3 hx3⟩
open PySem L2
def ko:Sp:=fun vs H Q _=>∃ (wl r:Addr) (ns:List Int) (gs:List Sg),vs=[.ref wl,.ref r,.str (al gs)]∧Pot H wl∧r≠wl∧H r=some (.lst (ns.map V.int))∧1≤ns.length∧ns.length≤9∧1≤gs.length∧gs.length≤3∧cL ns ∧
  ∀ pb kvs E H',But wl H H'→Pot H' wl→H pb=none→H' pb=some (.dT kvs)→BtIn E H' (aE ns.length) kvs→BdQ E (aE ns.length)→Q (.ref pb) H'
abbrev eE:Stmt:=top 46
theorem aT:FnScope ["pot","row","signs","found","j","i","some","k","one","other","less","more"] ["pot","row","signs"] (am eE):=⟨rfl,rfl,rfl,by decide +kernel,rfl,by decide +kernel,by decide +kernel⟩
theorem kP (F:Fun K "_law_loose" "_law_loose" eE f fd) (B:Bu K mg) (C__law_take:Cal P w K mg base "_law_take" 2 ["pot","many"] dX) (C__law_put:Cal P w K mg base "_law_put" 1 ["sign","one","other"] gF):FnOk P w K mg base CX0 3 f fd ["pot","row","signs"] ko:=by
  refine F.ok aT (fun vs H Q E h=>?_) (fun cdv A outer s H vs Q E hr h=>?_)
  · obtain ⟨wl,r,ns,gs,rfl,_⟩:=h;rfl
  obtain ⟨wl,r,ns,gs,rfl,hP,nrw,er,h1,h9,g1,g3,sm,q⟩:=h;refine ⟨_,(@af _ _ _ _ _ (@av _ _ (3) _ _ _ _ (aT).nd rfl (Or.inl rfl) l5 (by rfl) (by first|exact .inl rfl|exact .inr rfl|assumption)) (@af _ _ _ _ _ (@bb _ _ _ _ _ _ _ _ aaz rfl (@bz _ _ _ _ _ _ rfl B.irange (@aa _ _ _ _ _ (@ak _ _ _ _ _ _ _ _ _ ay rfl B.ilen aaO (@aa _ _ _ _ _ (pv 1) ac (by rfl)) (by decide) (by decide) (by rfl) (by rfl)) ac (by rfl)) (by rfl)) (@aj _ _ (4) _ (aT).nd rfl (Or.inl rfl) (.inl rfl)) (@ag _ _ _ (@bb _ _ _ _ _ _ _ _ aaz rfl (@jQ _ _ _ _ _ _ _ _ rfl B.irange (@aa _ _ _ _ _ (pv 4) (@aa _ _ _ _ _ (@h_ _ _ _ _ _ _ eV ae) (@aa _ _ _ _ _ (@h_ _ _ _ _ _ _ eV ae) ac (by rfl)) (by rfl)) (by rfl)) (by rfl) (by rfl)) (@aj _ _ (5) _ (aT).nd rfl (Or.inl rfl) (.inl rfl)) (@af _ _ _ _ _ (@av _ _ (6) _ _ _ _ (aT).nd rfl (Or.inl rfl) (@ap _ _ _ _ _ _ _ _ kJ (@aJ _ _ _ _ (@aa _ _ _ _ _ (@aM _ _ _ _ _ _ _ aQ (pv 1) (pv 5) (fun _ _=>rfl)) ac (by rfl))) (@bo _ _ _ _ _ _ _ _ _ cA rfl B.iint aa3 (@aa _ _ _ _ _ (@aO _ _ _ _ _ _ _ _ bw (pv 5) (pv 4) (az _)) ac (by rfl)) (by decide) (by decide) (by rfl) (by rfl))) (by rfl) (by first|exact .inl rfl|exact .inr rfl|assumption)) (@af _ _ _ _ _ (@bb _ _ _ _ _ _ _ _ aaz rfl (@cu _ _ _ _ _ _ _ rfl B.irange (@aa _ _ _ _ _ (pv 5) (@aa _ _ _ _ _ (pv 4) ac (by rfl)) (by rfl)) (by rfl) (by rfl)) (@aj _ _ (7) _ (aT).nd rfl (Or.inl rfl) (.inl rfl)) (@ag _ _ _ (@bb _ _ _ _ _ _ _ _ aaz rfl (@eJ _ _ _ _ (@iy _ _ _ _ _ _ (u1 hr.units) (pv 3) (@au _ _ _ _ _ (@aa _ _ _ _ _ (pv 5) (@aa _ _ _ _ _ (pv 7) ac (by rfl)) (by rfl))) (fun _ _=>rfl))) (@aj _ _ (8) _ (aT).nd rfl (Or.inr rfl) (.inl rfl)) (@ag _ _ _ (@bb _ _ _ _ _ _ _ _ aaz rfl (@eJ _ _ _ _ (@iy _ _ _ _ _ _ (u1 hr.units) (pv 3) (@au _ _ _ _ _ (@aa _ _ _ _ _ (@ap _ _ _ _ _ _ _ _ bf (pv 7) ae) (@aa _ _ _ _ _ (pv 4) ac (by rfl)) (by rfl))) (fun _ _=>rfl))) (@aj _ _ (9) _ (aT).nd rfl (Or.inr rfl) (.inl rfl)) (@ag _ _ _ (@bS _ _ _ _ (@iW _ _ _ _ _ _ _ _ _ _ _ _ aa5 abT abU fG (pv 6) (@aa _ _ _ _ _ (@bZ _ _ _ _ _ _ _ _ (["sign","one","other"]) ([none,some 8,some 9]) _ _ _ _ rfl (@gR _ _ _ _ (pv 2)) rfl ⟨rfl,⟨rfl,trivial⟩⟩ ⟨⟨rfl,Or.inl rfl,Or.inl rfl⟩,⟨⟨rfl,Or.inl rfl,Or.inl rfl⟩,trivial⟩⟩ (fun _ _ _ _=>⟨(@aj _ _ (0) _ (show aaX (["sign","one","other"]:List Str) by decide +kernel) rfl (Or.inl rfl) (.inr rfl)),aH,(@ah _ _ _ _ _ _ _ _ _ _ _ C__law_put hr (by lia) rfl (@aa _ _ _ _ _ (pv 0) (@aa _ _ _ _ _ (pv 1) (@aa _ _ _ _ _ (pv 2) ac (by rfl)) (by rfl)) (by rfl)) (by decide) (by rfl) (by rfl))⟩) (by rfl) (by rfl) (by rfl) (by rfl) (by intro _;rfl)) ac (by rfl)) (by rfl) (by rfl) (by rfl) (by rfl) (by rfl)) (by rfl))) (by intro _;rfl))) (by intro _;rfl))) (by intro _;rfl)) (@af _ _ _ _ _ (@av _ _ (10) _ _ _ _ (aT).nd rfl (Or.inl rfl) (@ap _ _ _ _ _ _ _ _ dq (@ah _ _ _ _ _ _ _ _ _ _ _ C__law_take hr (by lia) rfl (@aa _ _ _ _ _ (pv 0) (@aa _ _ _ _ _ ae ac (by rfl)) (by rfl)) (by decide) (by rfl) (by rfl)) (@bo _ _ _ _ _ _ _ _ _ cA rfl B.iint aa3 (@aa _ _ _ _ _ (@aO _ _ _ _ _ _ _ _ bw (@ah _ _ _ _ _ _ _ _ _ _ _ C__law_take hr (by lia) rfl (@aa _ _ _ _ _ (pv 0) (@aa _ _ _ _ _ ae ac (by rfl)) (by rfl)) (by decide) (by rfl) (by rfl)) ae (az _)) ac (by rfl)) (by decide) (by decide) (by rfl) (by rfl))) (by rfl) (by first|exact .inl rfl|exact .inr rfl|assumption)) (@af _ _ _ _ _ (@av _ _ (11) _ _ _ _ (aT).nd rfl (Or.inl rfl) (@ap _ _ _ _ _ _ _ _ dq (@ah _ _ _ _ _ _ _ _ _ _ _ C__law_take hr (by lia) rfl (@aa _ _ _ _ _ (pv 0) (@aa _ _ _ _ _ ae ac (by rfl)) (by rfl)) (by decide) (by rfl) (by rfl)) (@bo _ _ _ _ _ _ _ _ _ cA rfl B.iint aa3 (@aa _ _ _ _ _ (@aO _ _ _ _ _ _ _ _ bw (@ah _ _ _ _ _ _ _ _ _ _ _ C__law_take hr (by lia) rfl (@aa _ _ _ _ _ (pv 0) (@aa _ _ _ _ _ ae ac (by rfl)) (by rfl)) (by decide) (by rfl) (by rfl)) ae (az _)) ac (by rfl)) (by decide) (by decide) (by rfl) (by rfl))) (by rfl) (by first|exact .inl rfl|exact .inr rfl|assumption)) (@ag _ _ _ (@oO _ _ _ _ _ _ _ _ _ (u1 hr.units) (pv 3) (@au _ _ _ _ _ (@aa _ _ _ _ _ (pv 5) (@aa _ _ _ _ _ (pv 4) ac (by rfl)) (by rfl))) (@au _ _ _ _ _ (@aa _ _ _ _ _ (@ap _ _ _ _ _ _ _ _ dn (@ak _ _ _ _ _ _ _ _ _ (@dS _ rfl) rfl B.imin abv (@aa _ _ _ _ _ (pv 6) ac (by rfl)) (by decide) (by decide) (by rfl) (by rfl)) (pv 10)) (@aa _ _ _ _ _ (@ap _ _ _ _ _ _ _ _ bf (@ak _ _ _ _ _ _ _ _ _ (@dU _ rfl) rfl B.imax abJ (@aa _ _ _ _ _ (pv 6) ac (by rfl)) (by decide) (by decide) (by rfl) (by rfl)) (pv 11)) ac (by rfl)) (by rfl))) rfl)))))) (by intro _;rfl))) (by intro _;rfl)) (@ag _ _ _ (@ar _ _ _ _ (pv 3))))),?_⟩;have hl:(ns.map V.int).length=ns.length:=aab _;have gne:gs≠[]:=fun z=>by rw [z] at g1;simp at g1
  have t2:(2:Nat)≤sizeLine:=by decide
  have nd:=fX ns.length h9;intro d nD;have S2:=Same.new nD (.dT []);have e2:upd H d (.dT []) d=some (.dT []):=ad;have nDH:=nD;generalize upd H d (.dT [])=H2 at S2 e2 ⊢;have nrd:r≠d:=ao er nDH;refine ⟨_,rfl,r,_,rfl,.inl (SqL.of (S2 _ _ er)),_,rfl,by lia,by lia,?_⟩;rw [hl];refine bq (n:=((ns.length:Nat):Int).toNat) (fun j σ H'=>∃ (kvs:List (List Key × V)) (E:Int × Int→Int × Int) (c3 c4 c5 c6 c7 c8 c9 ca:Option V),σ=[some (.ref wl),some (.ref r),some (.str (al gs)),some (.ref d),c3,c4,c5,c6,c7,c8,c9,ca]∧But wl H H'∧Pot H' wl∧H' d=some (.dT kvs)∧BtIn E H' (aE j) kvs∧BdQ E (aE j)) ⟨[],fun _=>(0,0),_,_,_,_,_,_,_,_,rfl,But.of S2,hP.keep S2,e2,.nil,fun q hq=>nomatch hq⟩ ?_ ?_
  · rintro j σ H3 hj ⟨kvs3,E3,c3,c4,c5,c6,c7,c8,c9,ca,rfl,S3,P3,e3,hb3,hq3⟩;have ej:(0:Int)+(j:Int)=(j:Int):=by lia
    rw [ej];have hjn:j < ns.length:=by lia
    refine ⟨_,rfl,1,rfl,1,rfl,(j:Int),-1,rfl,⟨by lia,by lia,by decide,by decide⟩,?_⟩;have e4:((j:Int) - (-1)).toNat=j+1:=by lia
    refine dG (Trn.down (hi:=(j:Int)) (n:=((j:Int) - (-1)).toNat)) (fun a σ H'=>∃ (kvs:List (List Key × V)) (E:Int × Int→Int × Int) (c4 c5 c6 c7 c8 c9 ca:Option V),σ=[some (.ref wl),some (.ref r),some (.str (al gs)),some (.ref d),some (.int (j:Int)),c4,c5,c6,c7,c8,c9,ca]∧But wl H H'∧Pot H' wl∧H' d=some (.dT kvs)∧BtIn E H' (aE j++(bv j).take a) kvs∧BdQ E (aE j++(bv j).take a)) ⟨kvs3,E3,_,_,_,_,_,_,_,rfl,S3,P3,e3,by simpa using hb3,by simpa using hq3⟩ (fun _ _ _ _ _=>trivial) ?_ ?_
    · rintro a x σ H4 H4' ha ⟨rfl,rfl⟩ ⟨kvs,E,d4,d5,d6,d7,d8,g9,ga,rfl,S4,P4,e5,hb5,hq5⟩;have ha':a < j+1:=by lia
      obtain ⟨q0,eq0⟩:∃ q0:Int × Int,q0=((j:Int) - (a:Int),(j:Int)):=⟨_,rfl⟩
      have q1:q0.1=(j:Int) - (a:Int):=by rw [eq0]
      have q2:q0.2=(j:Int):=by rw [eq0]
      obtain ⟨i0,hi0⟩:∃ i0:Int,(j:Int) - (a:Int)=i0:=⟨_,rfl⟩
      rw [hi0] at q1 eq0 ⊢;have i0a:0≤i0:=by lia
      have i0j:i0≤(j:Int):=by lia
      have hix:i0.toNat < ns.length:=by lia
      have eat:atI (ns.map V.int) i0=some (.int (ns.getD i0.toNat 0)):=by
        have h:atI (ns.map V.int) ((i0.toNat:Nat):Int)=some (.int (ns.getD i0.toNat 0)):=cG (by rw [aao,aac hix,aaG,aac hix];rfl)
        rwa [show ((i0.toNat:Nat):Int)=i0 by lia] at h
      have er4:=S4 _ _ nrw er;refine ⟨_,rfl,_,rfl,r,_,_,_,rfl,rfl,SqL.of er4,eat,?_⟩;refine ⟨(by show 1≤sizeLine;decide),fun p1 n1=>⟨_,rfl,_,rfl,rfl,.inr ⟨_,rfl,p1,_,_,rfl,rfl,ad,by split <;> decide,by split <;> decide,(by split <;> first|(show 1 * 1≤sizeLine;decide)|(show 1 * 0≤sizeLine;decide)),fun ps nps=>?_⟩⟩⟩;obtain ⟨b0,hb0⟩:∃ b0:List Int,(if q0.1=q0.2 then [ns.getD q0.1.toNat 0] else [])=b0:=⟨_,rfl⟩
      have eb0:(aaQ (if decide (V.int i0=V.int (j:Int))=true then (1:Int) else 0).toNat [V.int (ns.getD i0.toNat 0)]).flatten=b0.map V.int:=by
        rw [← hb0,q1,q2];by_cases c:i0=(j:Int)
        · rw [decide_eq_true (by rw [c]),if_pos c];rfl
        · rw [decide_eq_false (fun z=>c (by injection z)),if_neg c];rfl
      rw [eb0];have lb0:b0.length≤1:=by rw [← hb0];split <;> simp
      have s5:=(Same.new n1 (.lst [V.int (ns.getD i0.toNat 0)])).trans (Same.new nps (.lst (b0.map V.int)));have nps4:H4' ps=none:=(Same.new n1 (.lst [V.int (ns.getD i0.toNat 0)])).free nps;have e6:upd (upd H4' p1 (.lst [V.int (ns.getD i0.toNat 0)])) ps (.lst (b0.map V.int)) ps=some (.lst (b0.map V.int)):=ad;generalize upd (upd H4' p1 (.lst [V.int (ns.getD i0.toNat 0)])) ps (.lst (b0.map V.int))=H5 at s5 e6 ⊢;have nDs:d≠ps:=ao e5 nps4;have hR:(bv j)[a]?=some q0:=by
        unfold bv;rw [aao,aa4 ha',eq0,← hi0];rfl
      have prefixT:∀ b,(aE j++(bv j).take b).Nodup:=fun b=>by
        have hjr:(aa0 ns.length)[j]?=some j:=aa4 hjn;have hp:=fj (f:=bv) hjr (List.take_prefix b (bv j));have e:((aa0 ns.length).take j).flatMap bv=aE j:=by
          unfold aE;rw [ab8,abR (by lia)]
        rw [e] at hp;exact ab4 hp.sublist nd
      have TT:∀ {H':Hp},But ps H5 H'→Tups H4' H':=fun {H'} b c xs hc=>b _ _ (ao hc nps4) (s5 _ _ hc);have look:∀ {H':Hp} {q':Int × Int} {k:Addr},But ps H5 H'→q'∈aE j++(bv j).take a→H' k=some (.tup [.int q'.1,.int q'.2])→∃ t,DGet H' d (.ref k) (some (.ref t))∧H' t=some (.tup [.int (E q').1,.int (E q').2]):=fun {H' q' k} b hm hk=>by
        obtain ⟨t,v1,v2⟩:=(BtIn.mono (TT b) hb5).get (prefixT a) hm;refine ⟨t,?_,v2⟩;rw [← v1];exact DGet.t (k:=ky q') (b _ _ nDs (s5 _ _ e5)) hk
      refine ⟨_,rfl,_,rfl,i0,(j:Int),rfl,⟨by lia,by lia,by lia,by lia⟩,?_⟩;refine bq (n:=((j:Int) - i0).toNat) (fun c σ H'=>∃ (xs:List Int) (c6 c7 c8:Option V),σ=[some (.ref wl),some (.ref r),some (.str (al gs)),some (.ref d),some (.int (j:Int)),some (.int i0),some (.ref ps),c6,c7,c8,g9,ga]∧But ps H5 H'∧H' ps=some (.lst (xs.map V.int))∧xs.length≤1+c * 12∧xs=b0++((bj q0).take c).flatMap fun c=>(two (E (q0.1,c))).flatMap fun x=>(two (E (c+1,q0.2))).flatMap fun y=>bg gs x y) ⟨b0,_,_,_,rfl,But.refl,e6,by lia,by simp⟩ ?_ ?_
      · rintro c σ H6 hc ⟨xs6,f6,f7,f8,rfl,b6,ep6,l6,x6⟩;have hcut:(bj q0)[c]?=some (i0+(c:Int)):=by
          unfold bj;rw [aao,aa4 (by rw [q1,q2];lia),q1];rfl
        obtain ⟨cv,hcv⟩:∃ cv:Int,i0+(c:Int)=cv:=⟨_,rfl⟩
        rw [hcv] at hcut ⊢;have cv1:i0≤cv:=by lia
        have cv2:cv < (j:Int):=by lia
        refine ⟨_,rfl,_,rfl,_,rfl,t2,fun k1 nk1=>?_⟩;have sk1:=Same.new nk1 (.tup [.int i0,.int cv]);have ep7:=sk1 _ _ ep6;have ek1:upd H6 k1 (.tup [.int i0,.int cv]) k1=_:=ad;have b7:=b6.trans (But.of sk1);generalize upd H6 k1 (.tup [.int i0,.int cv])=H7 at b7 ep7 ek1 ⊢;obtain ⟨v1,dg1,ev1⟩:=look (q':=(i0,cv)) b7 (aaD _ (dk i0a cv1 cv2)) ek1;refine ⟨d,_,rfl,dg1,v1,rfl,⟨_,SqT.of ev1⟩,?_⟩;have nv1p:v1≠ps:=fun e=>by rw [e,ep7] at ev1;cases ev1
        have m2:(cv+1,(j:Int))∈aE j++(bv j).take a:=by
          refine aar _ ?_;unfold bv;rw [← act,ab8,abR (by lia)];refine aan.mpr ⟨((j:Int) - (cv+1)).toNat,aaN.mpr (by lia),?_⟩;congr 1;lia
        obtain ⟨bs1,bs2⟩:=hq5.lt (q:=(i0,cv)) (aaD _ (dk i0a cv1 cv2)) i0a (by simp only;lia);obtain ⟨bt1,bt2⟩:=hq5.lt (q:=(cv+1,(j:Int))) m2 (by simp only;lia) (by simp only;lia);obtain ⟨E1,hE1⟩:∃ E1,E (i0,cv)=E1:=⟨_,rfl⟩
        obtain ⟨E2,hE2⟩:∃ E2,E (cv+1,(j:Int))=E2:=⟨_,rfl⟩
        rw [hE1] at bs1 bs2 ev1;rw [hE2] at bt1 bt2;have fin:∀ {xs:List Int},xs=xs6++((two E1).flatMap fun x=>(two E2).flatMap fun y=>bg gs x y)→xs=b0++((bj q0).take (c+1)).flatMap fun c=>(two (E (q0.1,c))).flatMap fun x=>(two (E (c+1,q0.2))).flatMap fun y=>bg gs x y:=fun {xs} e=>by
          rw [aZ hcut,← aaA,← x6,e,q1,q2,hE1,hE2]
        refine dG (Trn.tup (xs:=[V.int E1.1,V.int E1.2])) (fun o σ H'=>∃ (xs:List Int) (c7 c8:Option V),σ=[some (.ref wl),some (.ref r),some (.str (al gs)),some (.ref d),some (.int (j:Int)),some (.int i0),some (.ref ps),some (.int cv),c7,c8,g9,ga]∧But ps H7 H'∧H' ps=some (.lst (xs.map V.int))∧xs.length≤1+c * 12+o * 6∧xs=xs6++((two E1).take o).flatMap fun x=>(two E2).flatMap fun y=>bg gs x y) ⟨xs6,_,_,rfl,But.refl,ep7,by lia,by simp⟩ ?_ ?_ ?_
        · rintro o σ H8 _ ⟨xs8,_,_,rfl,b8,_⟩;exact SqT.of (b8 _ _ nv1p ev1)
        · rintro o x σ H8 H8' ho ⟨rfl,hx⟩ ⟨xs8,c7,c8,rfl,b8,ep8,l8,x8⟩;have ho2:o < 2:=ho;obtain ⟨xv,hxv,rfl,bxv⟩:∃ xv,(two E1)[o]?=some xv∧x=V.int xv∧xv.natAbs < 2 ^ 4000:=by
            have : o=0∨o=1:=by lia
            rcases this with rfl|rfl
            · exact ⟨_,rfl,(aal hx).symm,bs1⟩
            · exact ⟨_,rfl,(aal hx).symm,bs2⟩
          refine ⟨_,rfl,_,rfl,_,_,rfl,rfl,_,rfl,t2,fun k2 nk2=>?_⟩;have sk2:=Same.new nk2 (.tup [.int (cv+1),.int (j:Int)]);have ep9:=sk2 _ _ ep8;have ek2:upd H8' k2 (.tup [.int (cv+1),.int (j:Int)]) k2=_:=ad;have b9:=b8.trans (But.of sk2);generalize upd H8' k2 (.tup [.int (cv+1),.int (j:Int)])=H9 at b9 ep9 ek2 ⊢;obtain ⟨v2,dg2,ev2⟩:=look (q':=(cv+1,(j:Int))) (b7.trans b9) m2 ek2;rw [hE2] at ev2;refine ⟨d,_,rfl,dg2,v2,rfl,⟨_,SqT.of ev2⟩,?_⟩;have nv2p:v2≠ps:=fun e=>by rw [e,ep9] at ev2;cases ev2
          refine dG (Trn.tup (xs:=[V.int E2.1,V.int E2.2])) (fun u σ H'=>∃ (xs:List Int) (c8:Option V),σ=[some (.ref wl),some (.ref r),some (.str (al gs)),some (.ref d),some (.int (j:Int)),some (.int i0),some (.ref ps),some (.int cv),some (.int xv),c8,g9,ga]∧But ps H9 H'∧H' ps=some (.lst (xs.map V.int))∧xs.length≤1+c * 12+o * 6+u * 3∧xs=xs8++((two E2).take u).flatMap fun y=>bg gs xv y) ⟨xs8,_,rfl,But.refl,ep9,by lia,by simp⟩ ?_ ?_ ?_
          · rintro u σ H8 _ ⟨xs8,_,rfl,b8,_⟩;exact SqT.of (b8 _ _ nv2p ev2)
          · rintro u y σ Ha Ha' hu ⟨rfl,hy⟩ ⟨xsa,c8,rfl,ba,epa,la,xa⟩;have hu2:u < 2:=hu;obtain ⟨yv,hyv,rfl,byv⟩:∃ yv,(two E2)[u]?=some yv∧y=V.int yv∧yv.natAbs < 2 ^ 4000:=by
              have : u=0∨u=1:=by lia
              rcases this with rfl|rfl
              · exact ⟨_,rfl,(aal hy).symm,bt1⟩
              · exact ⟨_,rfl,(aal hy).symm,bt2⟩
            refine ⟨_,rfl,.inl ⟨rfl,_,SqL.of epa⟩,_,rfl,_,rfl,cj gs,?_⟩;refine b_ (Trn.str (z:=al gs)) (fun i ys H'=>H'=Ha'∧ys=((gs.take i).map fun g=>V.int (g.op xv yv))) ⟨rfl,rfl⟩ (fun i ys H' hi z=>⟨trivial,?_⟩) (fun i x ys H1 H' hi it z Nx nx=>?_) (fun ys H' z p9 n9=>?_)
            · rw [z.2,aab,aax];exact aA (by lia)
            · obtain ⟨rfl,rfl⟩:=z;obtain ⟨rfl,cc,hcc,rfl⟩:=it;obtain ⟨g,hg,rfl⟩:=jO hcc;refine ⟨_,rfl,_,rfl,_,rfl,xv,g,yv,by rw [bJ];rfl,bxv,byv,nx _ _ ⟨rfl,?_⟩⟩;rw [aay,hg,aaH];rfl
            · obtain ⟨rfl,rfl⟩:=z;have s9:=Same.new n9 (.lst ((gs.take (al gs).cps.size).map fun g=>V.int (g.op xv yv)));have ez:(gs.take (al gs).cps.size).map (fun g=>V.int (g.op xv yv))=(bg gs xv yv).map V.int:=by
                rw [dZ,aaZ];unfold bg;rw [aaR];rfl
              have lg:(bg gs xv yv).length=gs.length:=by unfold bg;rw [aab]
              refine ⟨ps,p9,_,_,rfl,rfl,s9 _ _ epa,ad,?_,?_⟩
              · rw [ez,aab,aab,lg];exact abz (aA (by lia))
              · rw [ez] at s9 ⊢;refine ⟨xsa++bg gs xv yv,_,rfl,?_,by rw [aaH];exact ad,?_,?_⟩
                · intro b o hb e;rw [aq hb];exact s9 _ _ (ba _ _ hb e)
                · rw [aaj,lg];lia
                · rw [aZ hyv,xa,aaA]
          · rintro σ Ha ⟨xsa,c8,rfl,ba,epa,la,xa⟩;refine ⟨xsa,_,_,rfl,b9.trans ba,epa,?_,?_⟩
            · have la:xsa.length≤1+c * 12+o * 6+2 * 3:=la;lia
            · rw [xa,aZ hxv,x8,aaA];rfl
        · rintro σ H8 ⟨xs8,c7,c8,rfl,b8,ep8,l8,x8⟩;refine ⟨xs8,_,_,_,rfl,b7.trans b8,ep8,?_,fin x8⟩;have l8:xs8.length≤1+c * 12+2 * 6:=l8;lia
      · rintro σ H6 ⟨xs6,f6,f7,f8,rfl,b6,ep6,l6,x6⟩;have q12:q0.1≤q0.2:=by rw [q1,q2];lia
        have x6:xs6=fnE E ns gs q0:=by
          rw [x6,aa1 (by rw [show (bj q0).length=(q0.2 - q0.1).toNat by simp [bj],q1,q2];lia),← hW,← hb0];rfl
        have hne:xs6≠[]:=by rw [x6];exact nY gne q12
        have nwps:wl≠ps:=by obtain ⟨a1,c1,k1,e⟩:=P4;exact ao e nps4
        have P6:Pot H6 wl:=by obtain ⟨a1,c1,k1,e⟩:=P4;exact ⟨a1,c1,k1,b6 _ _ nwps (s5 _ _ e)⟩
        have ndw:d≠wl:=fun z=>by obtain ⟨a1,c1,k1,e⟩:=P4;rw [← z,e5] at e;cases e
        have mul01:∀ (r1:Int) (c:Bool),0≤r1→r1 < 3→0≤r1 * (if c=true then 1 else 0)∧r1 * (if c=true then 1 else 0) < 3:=fun r1 c a b=>by cases c <;> simp <;> lia
        refine ⟨_,rfl,wl,3,rfl,by decide,by decide,P6,fun r1 Ha a0 a3 Ba Pa=>⟨_,rfl,wl,5,rfl,by decide,by decide,Pa,fun r2 Hb _ _ Bb Pb=>⟨rfl,.inr ⟨_,rfl,_,_,rfl,rfl,.inl ⟨by lia,by lia⟩,?_⟩⟩⟩⟩;obtain ⟨x0,x3⟩:=mul01 r1 (decide (V.int r2=V.int 0)) a0 a3;obtain ⟨ls,hls⟩:∃ ls,r1 * (if decide (V.int r2=V.int 0)=true then (1:Int) else 0)=ls:=⟨_,rfl⟩
        rw [hls] at x0 x3;show pA 10 (V.int (r1 * (if decide (V.int r2=V.int 0)=true then (1:Int) else 0))) _ Hb _;rw [hls];refine ⟨_,rfl,wl,3,rfl,by decide,by decide,Pb,fun r3 Hc a0' a3' Bc Pc=>⟨_,rfl,wl,5,rfl,by decide,by decide,Pc,fun r4 H7 _ _ Bd P7=>⟨rfl,.inr ⟨_,rfl,_,_,rfl,rfl,.inl ⟨by lia,by lia⟩,?_⟩⟩⟩⟩;obtain ⟨y0,y3⟩:=mul01 r3 (decide (V.int r4=V.int 0)) a0' a3';obtain ⟨mr,hmr⟩:∃ mr,r3 * (if decide (V.int r4=V.int 0)=true then (1:Int) else 0)=mr:=⟨_,rfl⟩
        rw [hmr] at y0 y3;show pA 11 (V.int (r3 * (if decide (V.int r4=V.int 0)=true then (1:Int) else 0))) _ H7 _;rw [hmr];have B7:But wl H6 H7:=((Ba.trans Bb).trans Bc).trans Bd;have ep7:=B7 _ _ (abS nwps) ep6;refine ⟨_,rfl,ps,xs6,rfl,SqL.of ep7,hne,fun m hm hmin=>⟨_,rfl,_,_,rfl,rfl,_,rfl,ps,xs6,rfl,SqL.of ep7,hne,fun M hM hmax=>⟨_,rfl,_,_,rfl,rfl,t2,fun tv ntv=>?_⟩⟩⟩;have stv:=Same.new ntv (.tup [.int (m - ls),.int (M+mr)]);refine ⟨_,rfl,_,rfl,_,rfl,t2,fun tk ntk=>?_⟩;have stk:=Same.new ntk (.tup [.int i0,.int (j:Int)]);have b8:=stv.trans stk;have etv:=stk _ _ (ad (H:=H7) (a:=tv) (o:=.tup [.int (m - ls),.int (M+mr)]));have etk:upd (upd H7 tv (.tup [.int (m - ls),.int (M+mr)])) tk (.tup [.int i0,.int (j:Int)]) tk=some (.tup ((ky q0).map kV)):=by rw [ad,eq0];rfl
        generalize upd (upd H7 tv (.tup [.int (m - ls),.int (M+mr)])) tk (.tup [.int i0,.int (j:Int)])=H8 at b8 etv etk ⊢;have P8:Pot H8 wl:=P7.keep b8;have all8:∀ b o,b≠wl→b≠ps→H5 b=some o→H8 b=some o:=fun b o n1 n2 e=>b8 _ _ (B7 _ _ n1 (b6 _ _ n2 e));have ed8:=all8 _ _ ndw nDs (s5 _ _ e5);have lk:=aaC hb5;have pl:(aE j++(bv j).take a).length≤100:=by
          have z1:=gr j (by lia);have z2:((bv j).take a).length≤10:=by rw [aax];simp [bv];lia
          rw [aaj];lia
        have qn:q0∉aE j++(bv j).take a:=fun z=>by
          have:=prefixT (a+1);rw [aay,hR,← aaA] at this;exact (List.nodup_append.mp this).2.2 _ z q0 (by simp) rfl
        have eN:ky q0∉kvs.map (·.1):=fun z=>by
          rw [hb5.keys] at z;obtain ⟨q',hq',e⟩:=aan.mp z;rw [nU e] at hq';exact qn hq'
        refine ⟨d,_,rfl,DPut.t (k:=ky q0) ed8 etk (aA (by lia)),?_⟩;rw [lV eN];have up8:∀ b o,b≠d→H8 b=some o→upd H8 d (.dT (kvs++[(ky q0,.ref tv)])) b=some o:=fun b o hb e=>by rw [aq hb];exact e
        have bE:=sC (E:=E) (gs:=gs) sm (by rw [q1];exact i0a) q12 (by rw [q2];lia) hq5 (fun c hc=>by
          obtain ⟨c1,c2⟩:=iB hc;rw [q1] at c1 ⊢;rw [q2] at c2 ⊢;refine ⟨aaD _ (dk i0a c1 c2),aar _ ?_⟩;unfold bv;rw [← act,ab8,abR (by lia)];refine aan.mpr ⟨((j:Int) - (c+1)).toNat,aaN.mpr (by lia),?_⟩;congr 1;lia)
        rw [← x6] at bE;refine ⟨_,kB E q0 (m - ls,M+mr),_,_,_,_,_,_,_,rfl,?_,?_,ad,?_,?_⟩
        · intro b o nb e;exact up8 _ _ (ao e nDH) (all8 _ _ nb (fun z=>by rw [z] at nb e;have:=S4 _ _ nb e;rw [nps4] at this;cases this) (s5 _ _ (S4 _ _ nb e)))
        · obtain ⟨a1,c1,k1,e⟩:=P8;exact ⟨a1,c1,k1,up8 _ _ (abS ndw) e⟩
        · rw [aay,hR,← aaA];refine BtIn.put (BtIn.mono (fun b xs e=>up8 _ _ (fun z=>by rw [z,e5] at e;cases e) (all8 _ _ (fun z=>by obtain ⟨a1,c1,k1,e'⟩:=P4;rw [z,e'] at e;cases e) (ao e nps4) (s5 _ _ e))) hb5) qn ?_;exact up8 _ _ (fun z=>by rw [z,ed8] at etv;cases etv) etv
        · rw [aay,hR,← aaA];exact hq5.put (by have:=bE m hm;lia) (by have:=bE M hM;lia)
    · rintro σ H4 ⟨kvs,E,d4,d5,d6,d7,d8,g9,ga,rfl,S4,P4,e5,hb5,hq5⟩;rw [e4,aa1 (by simp [bv]),← gW] at hb5 hq5;exact ⟨kvs,E,_,_,_,_,_,_,_,_,rfl,S4,P4,e5,hb5,hq5⟩
  · rintro σ H3 ⟨kvs3,E3,c3,c4,c5,c6,c7,c8,c9,ca,rfl,S3,P3,e3,hb3,hq3⟩;rw [abQ] at hb3 hq3;exact ⟨_,rfl,q d kvs3 E3 H3 S3 P3 nDH e3 hb3 hq3⟩
end
open PySem L2
theorem pM {E:Int × Int→Int × Int} {H:Hp} {qs:List (Int × Int)} {kvs:List (List Key × V)} (h:BtIn E H qs kvs):∃ kI:List (List Int × V),kvs=kI.map (fun p=>(p.1.map Sum.inl,p.2))∧kI.map (·.1)=qs.map (fun q=>[q.1,q.2]) ∧
    Paired (fun (q:Int × Int) (e:List Int × V)=>Dat H (.tuple [.int (E q).1,.int (E q).2]) e.2) qs kI:=by
  unfold BtIn at h
  induction h with
  | nil=>exact ⟨[],rfl,rfl,.nil⟩
  | @cons q kv qs kvs h t ih =>
    obtain ⟨kI,e1,e2,e3⟩:=ih;obtain ⟨h1,t,h2,h3⟩:=h;refine ⟨([q.1,q.2],kv.2) :: kI,by rw [e1,aae];congr 1;obtain ⟨a,b⟩:=kv;simp only at h1 ⊢;rw [h1];rfl,by rw [aae,aae,e2],.cons ?_ e3⟩;simp only [Dat,DatAll];exact ⟨t,_,h2,h3,_,_,rfl,rfl,_,_,rfl,rfl,rfl⟩
def ppE (E:Int × Int→Int × Int) (qs:List (Int × Int)):PPa:=qs.map fun q=>(.tup [q.1,q.2],.tuple [.int (E q).1,.int (E q).2])
theorem pL {w:World} {E:Int × Int→Int × Int} {H:Hp} {a:Addr} {qs:List (Int × Int)} {kvs:List (List Key × V)} (ha:H a=some (.dT kvs)) (h:BtIn E H qs kvs):PaIn w H a (ppE E qs):=by
  obtain ⟨kI,rfl,e2,e3⟩:=pM h;refine ⟨_,.inl ⟨kI,ha,rfl⟩,?_⟩;have go:∀ {qs:List (Int × Int)} {kI:List (List Int × V)},kI.map (·.1)=qs.map (fun q=>[q.1,q.2])→Paired (fun (q:Int × Int) (e:List Int × V)=>Dat H (.tuple [.int (E q).1,.int (E q).2]) e.2) qs kI→Paired (fun (p:MK × PyData) (e:MK × V)=>p.1=e.1∧Dat H p.2 e.2) (ppE E qs) (kI.map fun p=>(.tup p.1,p.2)):=by
    intro qs kI e p
    induction p with
    | nil=>exact .nil
    | @cons q k qs ks h t ih =>
      rw [aae,aae] at e;injection e with e1 e2
      exact .cons ⟨congrArg MK.tup e1.symm,h⟩ (ih e2)
  exact go e2 e3
def hT (ks:List Int):Int:=reduceHash (abL (ks.map hashInt))
theorem rB:∀ n m,n≤m→(aE n).Sublist (aE m):=by
  intro n m h
  induction m with
  | zero=>rw [Nat.le_zero.mp h];exact List.Sublist.refl _
  | succ m ih =>
    by_cases e:n=m+1
    · rw [e];exact List.Sublist.refl _
    · rw [gW];exact (ih (by lia)).trans (List.sublist_append_left _ _)
theorem xg:((aE 9).map fun q=>hT [q.1,q.2]).Nodup:=by decide +kernel
theorem qg {n:Nat} (h:n≤9):((aE n).map fun q=>hT [q.1,q.2]).Nodup:=ab4 ((rB n 9 h).map _) xg
def Sm (d:PyData):Prop:=OkX d∧szX d≤6∧d.depth≤2
def Good (G:Hp) (v:V):Prop:=∃ d,Dat G d v∧Sm d
theorem Good.mono {G G':Hp} (g:Same G G') {v:V} (h:Good G v):Good G' v:=by
  obtain ⟨d,h1,h2⟩:=h;exact ⟨d,Dat.mono g _ _ h1,h2⟩
def At0 (v:V):Prop:=v=.non∨(∃ b,v=.bl b)∨(∃ i,v=.int i∧i.natAbs < 10 ^ 280)∨∃ z,v=.str z∧(reprText z).length≤3000
theorem lC {v:V} (h:At0 v):∃ d,(∀ G,Dat G d v)∧OkX d∧szX d=1∧d.depth=0:=by
  rcases h with rfl|⟨b,rfl⟩|⟨i,rfl,hi⟩|⟨z,rfl,hz⟩
  · exact ⟨.none,fun G=>by simp only [Dat],by simp only [OkX],by simp [szX],by simp [aaB]⟩
  · exact ⟨.bool b,fun G=>by simp only [Dat],by simp only [OkX],by simp [szX],by simp [aaB]⟩
  · exact ⟨.int i,fun G=>by simp only [Dat],by simp only [OkX];exact hi,by simp [szX],by simp [aaB]⟩
  · exact ⟨.str z,fun G=>by simp only [Dat],by simp only [OkX];exact hz,by simp [szX],by simp [aaB]⟩
theorem dy {G:Hp} {v:V} (h:At0 v):Good G v:=by
  obtain ⟨d,h1,h2,h3,h4⟩:=lC h;exact ⟨d,h1 G,h2,by lia,by lia⟩
theorem mO:∀ {xs:List V},(∀ x∈xs,At0 x)→∃ ds,(∀ G,DatAll G ds xs)∧OkXs ds∧szXs ds=xs.length∧aaJ ds=0
  | [],_=>⟨[],fun G=>by simp only [DatAll],by simp only [OkXs],by simp [szXs],by simp [aaJ]⟩
  | x :: xs,h=>by
    obtain ⟨d,h1,h2,h3,h4⟩:=lC (h x aat);obtain ⟨ds,k1,k2,k3,k4⟩:=mO (xs:=xs) fun y hy=>h y (aak _ hy);refine ⟨d :: ds,fun G=>by simp only [DatAll];exact ⟨_,_,rfl,h1 G,k1 G⟩,by simp only [OkXs];exact ⟨h2,k2⟩,by simp only [szXs,aaY];lia,by simp only [aaJ];lia⟩
theorem aC {G:Hp} {p:Addr} {xs:List V} (h:G p=some (.tup xs)∨G p=some (.lst xs)) (hl:xs.length≤4) (hx:∀ x∈xs,At0 x):Good G (.ref p):=by
  obtain ⟨ds,k1,k2,k3,k4⟩:=mO hx;rcases h with h|h
  · exact ⟨.tuple ds,by simp only [Dat];exact ⟨p,xs,rfl,h,k1 G⟩,by simp only [OkX];exact k2,by simp only [szX];lia,by simp only [aaB];lia⟩
  · exact ⟨.list ds,by simp only [Dat];exact ⟨p,xs,rfl,h,k1 G⟩,by simp only [OkX];exact k2,by simp only [szX];lia,by simp only [aaB];lia⟩
theorem ua {G:Hp} {p:Addr} (h:G p=some (.dK [])):Good G (.ref p):=⟨.dict [],by simp only [Dat,DatKv];exact ⟨p,[],rfl,h,rfl⟩,by simp only [OkX,OkKv],by simp [szX,szKv],by simp [aaB,ab0]⟩
def VOk (G:Hp) (ks:List KEn):Prop:=∀ e∈ks,Good G e.2.1∧Good G e.2.2
theorem VOk.mono {G G':Hp} (g:Same G G') {ks:List KEn} (h:VOk G ks):VOk G' ks:=fun e he=>⟨(h e he).1.mono g,(h e he).2.mono g⟩
theorem VOk.put {G:Hp} {ks:List KEn} {k:MK} {y v:V} (h:VOk G ks) (hy:Good G y) (hv:Good G v):VOk G (ci ks k y v):=fun e he=>by
  rcases lW he with ⟨e0,h0,e1,e2,e3⟩|rfl
  · rw [e2];refine ⟨(h _ h0).1,?_⟩;rcases e3 with e3|e3
    · rw [e3];exact (h _ h0).2
    · rw [e3];exact hv
  · exact ⟨hy,hv⟩
theorem VOk.drop {G:Hp} {ks:List KEn} {k:MK} (h:VOk G ks):VOk G (dt ks k):=fun e he=>h e (acu.mp he).1
def bL (w z:Addr) (H:Hp):Hp:=off z (off w H)
theorem kW {w z b:Addr} {H:Hp} (h:b≠w) (h2:b≠z):bL w z H b=H b:=(gY h2).trans (gY h)
theorem cK {w z:Addr} {H H':Hp} (b:But w H H'):Same (bL w z H) (bL w z H'):=fun c o h=>by
  unfold bL off at h ⊢;by_cases c1:c=z
  · rw [if_pos c1] at h;cases h
  · rw [if_neg c1] at h ⊢;by_cases c2:c=w
    · rw [if_pos c2] at h;cases h
    · rw [if_neg c2] at h ⊢;exact b c o c2 h
theorem cW {w z:Addr} {H:Hp}:Same (bL w z H) H:=off_le.trans off_le
theorem cY {w z:Addr} {H H':Hp} (g:Same H H'):Same (bL w z H) (bL w z H'):=cK (But.of g)
theorem kU {w z c:Addr} {H:Hp} {o:HO} (h:bL w z H c=some o):c≠w∧c≠z:=by
  constructor <;> intro e <;> subst e <;> unfold bL off at h
  · by_cases c1:c=z
    · rw [if_pos c1] at h;cases h
    · rw [if_neg c1,if_pos rfl] at h;cases h
  · rw [if_pos rfl] at h;cases h
theorem gz {w z:Addr} {H:Hp} {o:HO}:bL w z (upd H z o)=bL w z H:=by
  funext b;unfold bL off;by_cases c:b=z
  · rw [if_pos c,if_pos c]
  · rw [if_neg c,if_neg c,aq c]
structure Al (wl T:Addr) (H0 H:Hp) (L:List (Addr × HO)):Prop where
  same:Same H0 H
  well:∃ o,H0 wl=some o
  tab:∃ o,H0 T=some o
  has:∀ x∈L,bL wl T H x.1=some x.2
theorem Al.new {wl T:Addr} {H0 H:Hp} {L:List (Addr × HO)} (A:Al wl T H0 H L) {p:Addr} (n:H p=none) (o:HO):Al wl T H0 (upd H p o) ((p,o) :: L) :=
  ⟨A.same.trans (Same.new n o),A.well,A.tab,fun x hx=>by
    rcases aai.mp hx with rfl|hx
    · obtain ⟨_,e1⟩:=A.well;obtain ⟨_,e2⟩:=A.tab;exact (kW (abS (ao (A.same _ _ e1) n)) (abS (ao (A.same _ _ e2) n))).trans ad
    · exact cY (Same.new n _) _ _ (A.has x hx)⟩
theorem Al.at {wl T:Addr} {H0 H:Hp} {L:List (Addr × HO)} (A:Al wl T H0 H L) (i:Nat) {x:Addr × HO} (h:L[i]?=some x):bL wl T H x.1=some x.2:=A.has x (aas h)
theorem Al.up {wl T:Addr} {H0 H:Hp} {L:List (Addr × HO)} (A:Al wl T H0 H L) (i:Nat) {x:Addr × HO} (h:L[i]?=some x):H x.1=some x.2:=cW _ _ (A.at i h)
theorem DmIn.but {w:World} {H H':Hp} {wl d:Addr} {ks:List KEn} (b:But wl H H') (hp:Pot H wl) (hn:d≠wl) (h:DmIn w H d ks):DmIn w H' d ks :=
  ⟨b _ _ hn h.at_,fun p hp'=>(h.keys p hp').mono (hp.tups b),h.nd,h.len⟩
theorem kH {H:Hp} {E:Int × Int→Int × Int} {qs:List (Int × Int)} {es:List (MK × V)} (h:Paired (fun (p:MK × PyData) (e:MK × V)=>p.1=e.1∧Dat H p.2 e.2) (ppE E qs) es) (k:MK) :
    bB es k=none∨∃ q∈qs,k=.tup [q.1,q.2]∧∃ t,bB es k=some (.ref t)∧H t=some (.tup [.int (E q).1,.int (E q).2]):=by
  induction qs generalizing es with
  | nil=>cases h;exact .inl rfl
  | cons q qs ih =>
    cases h with
    | @cons _ e _ es h t =>
      by_cases c:e.1=k
      · right;have hd:=h.2;simp only [Dat,DatAll] at hd;obtain ⟨a,xs,e1,ha,_,_,rfl,rfl,_,_,rfl,rfl,rfl⟩:=hd;exact ⟨q,aat,by rw [← c,← h.1],a,by rw [db c,e1],ha⟩
      · rw [dc c];rcases ih t with h|⟨q',hq,r⟩
        · exact .inl h
        · exact .inr ⟨q',aak _ hq,r⟩
theorem iC {xs:List V} {r:Int} (h0:0≤r) (h1:r < xs.length):∃ x,atI xs r=some x∧x∈xs:=by
  have hlt:r.toNat < xs.length:=by lia
  refine ⟨xs[r.toNat],?_,abx hlt⟩;have h:atI xs ((r.toNat:Nat):Int)=some xs[r.toNat]:=cG (aac hlt)
  rwa [show ((r.toNat:Nat):Int)=r by lia] at h
theorem bA {z:Int} {B:Nat} (hB:B < 10 ^ 280) (h:z.natAbs≤B):At0 (.int z):=.inr (.inr (.inl ⟨z,rfl,aa2 h hB⟩))
theorem sS (b:Bool):At0 (.bl b):=.inr (.inl ⟨b,rfl⟩)
theorem jt:At0 .non:=.inl rfl
theorem ou {z:Str} (h:(reprText z).length≤3000):At0 (.str z):=.inr (.inr (.inr ⟨z,rfl,h⟩))
theorem iD {a:V} (h:At0 a):∀ x∈[a],At0 x:=fun x hx=>by rw [aaM.mp hx];exact h
theorem aW {a b:V} (ha:At0 a) (hb:At0 b):∀ x∈[a,b],At0 x:=fun x hx=>by
  rcases aai.mp hx with rfl|hx
  · exact ha
  · exact iD hb x hx
theorem ui {a b c:V} (ha:At0 a) (hb:At0 b) (hc:At0 c):∀ x∈[a,b,c],At0 x:=fun x hx=>by
  rcases aai.mp hx with rfl|hx
  · exact ha
  · exact aW hb hc x hx
structure Bn (w:World) (wl d:Addr) (H H':Hp) (ks:List KEn):Prop where
  but:But wl H H'
  pot:Pot H' wl
  dm:DmIn w H' d ks
  vo:VOk (bL wl d H') ks
theorem Bn.put {w:World} {wl d:Addr} {H Hx:Hp} {ks:List KEn} {k:MK} {y v:V} (b:Bn w wl d H Hx ks) (nd:H d=none) (dw:d≠wl) (hk:MkIn Hx k y) (gy:Good (bL wl d Hx) y) (gv:Good (bL wl d Hx) v) (hl:ks.length < 900) :
    Bn w wl d H (upd Hx d (dmX w d (ci ks k y v))) (ci ks k y v) :=
  ⟨fun c o n e=>by rw [aq (ao e nd)];exact b.but c o n e,by obtain ⟨a1,c1,k1,e⟩:=b.pot;exact ⟨a1,c1,k1,by rw [aq (abS dw)];exact e⟩,b.dm.put v hk (by lia),by rw [gz];exact b.vo.put gy gv⟩
theorem Bn.drop {w:World} {wl d:Addr} {H Hx:Hp} {ks:List KEn} {k:MK} (b:Bn w wl d H Hx ks) (nd:H d=none) (dw:d≠wl):Bn w wl d H (upd Hx d (dmX w d (dt ks k))) (dt ks k) :=
  ⟨fun c o n e=>by rw [aq (ao e nd)];exact b.but c o n e,by obtain ⟨a1,c1,k1,e⟩:=b.pot;exact ⟨a1,c1,k1,by rw [aq (abS dw)];exact e⟩,b.dm.drop k,by rw [gz];exact b.vo.drop⟩
theorem Bn.same {w:World} {wl d:Addr} {H Hx Hy:Hp} {ks:List KEn} (b:Bn w wl d H Hx ks) (s:Same Hx Hy):Bn w wl d H Hy ks :=
  ⟨b.but.trans (But.of s),b.pot.keep s,b.dm.mono s,b.vo.mono (cY s)⟩
theorem Bn.step {w:World} {wl d:Addr} {H Hx Hy:Hp} {ks:List KEn} (b:Bn w wl d H Hx ks) (s:But wl Hx Hy) (p:Pot Hy wl) (dw:d≠wl):Bn w wl d H Hy ks :=
  ⟨b.but.trans s,p,DmIn.but s b.pot dw b.dm,b.vo.mono (cK s)⟩
theorem hX {n:Nat} (h:n≤9) {q:Int × Int} (hq:q∈aE n):bnd q≤10 ^ 270:=by
  unfold bnd;refine abe (by decide) ?_;unfold aE bv at hq;obtain ⟨j,hj,hq⟩:=abn.mp hq;obtain ⟨a,ha,rfl⟩:=aan.mp hq;have h1:=aaN.mp hj;have h2:=aaN.mp ha;simp only;lia
theorem rP {P:Int × Int→V→Prop}:∀ {qs:List (Int × Int)} {kI:List (List Int × V)},kI.map (·.1)=qs.map (fun q=>[q.1,q.2])→Paired (fun (q:Int × Int) (e:List Int × V)=>P q e.2) qs kI→∀ p∈kI,∃ q∈qs,p.1=[q.1,q.2]∧P q p.2
  | _,_,_,.nil,p,hp=>nomatch hp
  | _,_,e,.cons h t,p,hp=>by
    rw [aae,aae] at e;injection e with e1 e2
    rcases aai.mp hp with rfl|hp
    · exact ⟨_,aat,e1,h⟩
    · obtain ⟨q,hq,r⟩:=rP e2 t p hp;exact ⟨q,aak _ hq,r⟩
theorem nk {ks:List KEn} {e:KEn} (hn:(ks.map (·.1)).Nodup) (he:e∈ks):bB (rdE ks) e.1=some e.2.2:=by
  induction ks with
  | nil=>cases he
  | cons p ks ih =>
    rw [aae,aba] at hn;show bB ((p.1,p.2.2) :: rdE ks) e.1=_;rcases aai.mp he with rfl|he
    · exact db rfl
    · have : ¬ p.1=e.1:=fun z=>hn.1 (by rw [z];exact abo he);rw [dc this];exact ih hn.2 he
theorem pO {C:Nat} (hC:C < 10 ^ 280) (h1:1≤C):∀ {ks:List Int} {xs:List V},BiL ks xs→(∀ k∈ks,k.natAbs≤C)→∀ x∈xs,At0 x
  | _,_,.nil,_,x,hx=>nomatch hx
  | _,_,.cons h t,hk,x,hx=>by
    rcases aai.mp hx with rfl|hx
    · rcases h with rfl|⟨b,rfl,_⟩
      · exact bA hC (hk _ aat)
      · exact sS b
    · exact pO hC h1 t (fun k hk'=>hk k (aak _ hk')) x hx
theorem mH {wl d:Addr} {Hx:Hp} {k:MK} {ks:List Int} {y:V} {ph:HO} (hk:MkIn Hx k y) (e:k=.tup ks) (hb:∀ i∈ks,i.natAbs≤100) (hl:ks.length≤4) (hp:Pot Hx wl) (hd:Hx d=some ph) (hn:∀ xs,ph≠.tup xs):Good (bL wl d Hx) y:=by
  subst e;obtain ⟨b,xs,rfl,h,bl⟩:=hk;have n1:b≠wl:=fun z=>by obtain ⟨_,_,_,e⟩:=hp;rw [z,e] at h;cases h
  have n2:b≠d:=fun z=>by rw [z,hd] at h;injection h with h;exact hn _ h
  have lx:ks.length=xs.length:=aaC bl;exact aC (.inl ((kW n1 n2).trans h)) (by lia) (pO (C:=100) (by decide +kernel) (by decide) bl hb)
theorem iz {wl d:Addr} {Hx:Hp} {x y:Int} {t:Addr} {ph:HO} {B:Nat} (hB:B < 10 ^ 280) (ht:Hx t=some (.tup [.int x,.int y])) (hx:x.natAbs≤B) (hy:y.natAbs≤B) (hp:Pot Hx wl) (hd:Hx d=some ph) (hn:∀ xs,ph≠.tup xs):Good (bL wl d Hx) (.ref t):=by
  have n1:t≠wl:=fun z=>by obtain ⟨_,_,_,e⟩:=hp;rw [z,e] at ht;cases ht
  have n2:t≠d:=fun z=>by rw [z,hd] at ht;injection ht with ht;exact hn _ ht
  exact aC (.inl ((kW n1 n2).trans ht)) (by show 2≤4;decide) (aW (bA hB hx) (bA hB hy))
theorem fH {w:World} {d:Addr} {ks:List KEn}:∀ xs,dmX w d ks≠.tup xs:=fun _ z=>nomatch z
theorem rV {z:Int} (h:z.natAbs < 10 ^ 280):(PyData.int z).showable=true∧(PyData.int z).shown.length≤sizeLine∧(reprText (PyData.int z).shown).length≤3000:=by
  have ok:OkX (.int z):=by simp only [OkX];exact h
  have l1:(PyData.int z).shown.length≤281:=by
    have e:=int_text_length_le10 (a:=z) (k:=280) (by decide) h;show (abi (toString z)).length≤281;rw [ofString_length];lia
  refine ⟨gu _ ok,oT ok (by simp [szX]),?_⟩;have:=StrLaws.reprText_len (PyData.int z).shown (fun c hc=>by
    rw [show (PyData.int z).shown=abi (toString z) from rfl,Str.ofString_eq_toList] at hc;simp only [List.mem_map] at hc;obtain ⟨ch,_,rfl⟩:=hc;exact aam (show ch.toNat < 4294967296 from ch.val.toBitVec.isLt) (by decide))
  lia
theorem iX {n:Nat} (h:n≤9) {q:Int × Int} (hq:q∈aE n):0≤q.1∧q.1≤8∧0≤q.2∧q.2≤8:=by
  unfold aE bv at hq;obtain ⟨j,hj,hq⟩:=abn.mp hq;obtain ⟨a,ha,rfl⟩:=aan.mp hq;have h1:=aaN.mp hj;have h2:=aaN.mp ha;simp only;lia
theorem lX {ks:List KEn} {k:MK} {y v:V} (h:∃ e∈ks,e.1=k):(ci ks k y v).length=ks.length:=by
  unfold ci;rw [if_pos,aab];obtain ⟨e,he,e1⟩:=h;exact List.any_eq_true.mpr ⟨e,he,decide_eq_true e1⟩
theorem tG {ks:List KEn} {e:KEn} {v:V} (_:(ks.map (·.1)).Nodup) (h:e∈ks):(ci ks e.1 e.2.1 v).length=ks.length:=lX ⟨e,h,rfl⟩
theorem q_ {ks:List KEn} {e:KEn} {k:MK} {y v:V} (h:e∈ks):∃ e0∈ci ks k y v,e0.1=e.1:=by
  unfold ci;split
  · refine ⟨_,abo h,?_⟩;split <;> rfl
  · exact ⟨e,aaD _ h,rfl⟩
open PySem L2
section
variable {P:Program} {w:World} {K:aaa} {mg:Str→Option Value} {base:Heap} {f:Addr} {fd:FuncData}
def mZ (w:World):Sp:=fun vs H Q _=>∃ (wl a:Addr) (kvs:List (List Key × V)) (E:Int × Int→Int × Int) (n:Nat),vs=[.ref wl,.ref a]∧Pot H wl∧H a=some (.dT kvs)∧1≤n∧n≤9∧BtIn E H (aE n) kvs∧BdQ E (aE n) ∧
  ∀ d ks H',But wl H H'→Pot H' wl→H d=none→DmIn w H' d ks→VOk (off wl H') ks→ks.length≤60→Q (.ref d) H'
abbrev fg:Stmt:=top 47
theorem a7:FnScope ["pot","paper","found","turn","places","at","other","low","high","far","way"] ["pot","paper"] (am fg):=⟨rfl,rfl,rfl,by decide +kernel,rfl,by decide +kernel,by decide +kernel⟩
theorem mi (F:Fun K "_law_bent" "_law_bent" fg f fd) (B:Bu K mg) (C__law_take:Cal P w K mg base "_law_take" 2 ["pot","many"] dX):FnOk P w K mg base CX0 3 f fd ["pot","paper"] (mZ w):=by
  refine F.ok a7 (fun vs H Q E h=>?_) (fun cdv A outer s H vs Q E hr h=>?_)
  · obtain ⟨wl,a,kvs,E0,n,rfl,_⟩:=h;rfl
  obtain ⟨wl,a,kvs,E0,n,rfl,hP,ea,n1,n9,hb,hq,q⟩:=h;refine ⟨_,(@af _ _ _ _ _ (@av _ _ (2) _ _ _ _ (a7).nd rfl (Or.inl rfl) (@bo _ _ _ _ _ _ _ _ _ (@oq _ (w) rfl rfl) rfl B.idict acB (@aa _ _ _ _ _ (pv 1) ac (by rfl)) (by decide) (by decide) (by rfl) (by rfl)) (by rfl) (by first|exact .inl rfl|exact .inr rfl|assumption)) (@af _ _ _ _ _ (@bb _ _ _ _ _ _ _ _ aaz rfl (@bz _ _ _ _ _ _ rfl B.irange (@aa _ _ _ _ _ (@ap _ _ _ _ _ _ _ _ bf ae (@bo _ _ _ _ _ _ _ _ _ cA rfl B.iint aa3 (@aa _ _ _ _ _ (@aO _ _ _ _ _ _ _ _ bw (@ah _ _ _ _ _ _ _ _ _ _ _ C__law_take hr (by lia) rfl (@aa _ _ _ _ _ (pv 0) (@aa _ _ _ _ _ ae ac (by rfl)) (by rfl)) (by decide) (by rfl) (by rfl)) ae (az _)) ac (by rfl)) (by decide) (by decide) (by rfl) (by rfl))) ac (by rfl)) (by rfl)) (@aj _ _ (3) _ (a7).nd rfl (Or.inl rfl) (.inl rfl)) (@af _ _ _ _ _ (@av _ _ (4) _ _ _ _ (a7).nd rfl (Or.inl rfl) (@bo _ _ _ _ _ _ _ _ _ (@on _ (w) rfl rfl) rfl B.ilist acC (@aa _ _ _ _ _ (pv 2) ac (by rfl)) (by decide) (by decide) (by rfl) (by rfl)) (by rfl) (by first|exact .inl rfl|exact .inr rfl|assumption)) (@af _ _ _ _ _ (@av _ _ (5) _ _ _ _ (a7).nd rfl (Or.inl rfl) (@aM _ _ _ _ _ _ _ aQ (pv 4) (@ah _ _ _ _ _ _ _ _ _ _ _ C__law_take hr (by lia) rfl (@aa _ _ _ _ _ (pv 0) (@aa _ _ _ _ _ (@ak _ _ _ _ _ _ _ _ _ ay rfl B.ilen aaO (@aa _ _ _ _ _ (pv 4) ac (by rfl)) (by decide) (by decide) (by rfl) (by rfl)) ac (by rfl)) (by rfl)) (by decide) (by rfl) (by rfl)) (fun _ _=>rfl)) (by rfl) (by first|exact .inl rfl|exact .inr rfl|assumption)) (@af _ _ _ _ _ (@av _ _ (6) _ _ _ _ (a7).nd rfl (Or.inl rfl) (@aM _ _ _ _ _ _ _ aQ (pv 4) (@ah _ _ _ _ _ _ _ _ _ _ _ C__law_take hr (by lia) rfl (@aa _ _ _ _ _ (pv 0) (@aa _ _ _ _ _ (@ak _ _ _ _ _ _ _ _ _ ay rfl B.ilen aaO (@aa _ _ _ _ _ (pv 4) ac (by rfl)) (by decide) (by decide) (by rfl) (by rfl)) ac (by rfl)) (by rfl)) (by decide) (by rfl) (by rfl)) (fun _ _=>rfl)) (by rfl) (by first|exact .inl rfl|exact .inr rfl|assumption)) (@af _ _ _ _ _ (@dE _ _ _ _ _ _ (@l4 _ _ _ _ _ _ _ _ _ (w) rfl (u1 hr.units) (pv 1) (pv 5) (@au _ _ _ _ _ (@aa _ _ _ _ _ ae (@aa _ _ _ _ _ ae ac (by rfl)) (by rfl))) ⟨rfl,rfl,rfl,rfl⟩) (@dF _ _ _ _ _ _ rfl (@aD _ _ _ _ _ (@aj _ _ (7) _ (a7).nd rfl (Or.inl rfl) (.inl rfl)) (@aD _ _ _ _ _ (@aj _ _ (8) _ (a7).nd rfl (Or.inl rfl) (.inl rfl)) bX (by rfl)) (by rfl)) (by rfl) (by rfl)) (by rfl) (by rfl) (by rfl)) (@af _ _ _ _ _ (@av _ _ (9) _ _ _ _ (a7).nd rfl (Or.inl rfl) (@ap _ _ _ _ _ _ _ _ bf ae (@ah _ _ _ _ _ _ _ _ _ _ _ C__law_take hr (by lia) rfl (@aa _ _ _ _ _ (pv 0) (@aa _ _ _ _ _ ae ac (by rfl)) (by rfl)) (by decide) (by rfl) (by rfl))) (by rfl) (by first|exact .inl rfl|exact .inr rfl|assumption)) (@af _ _ _ _ _ (@av _ _ (10) _ _ _ _ (a7).nd rfl (Or.inl rfl) (@ah _ _ _ _ _ _ _ _ _ _ _ C__law_take hr (by lia) rfl (@aa _ _ _ _ _ (pv 0) (@aa _ _ _ _ _ ae ac (by rfl)) (by rfl)) (by decide) (by rfl) (by rfl)) (by rfl) (by first|exact .inl rfl|exact .inr rfl|assumption)) (@gm _ _ _ _ _ (@aY _ _ _ _ _ _ _ _ (@aF _ _ _ _ _ _ _ _ wM (pv 10) ae (az _)) (@ag _ _ _ (@gn _ _ _ _ _ _ _ _ _ (w) rfl (u1 hr.units) (pv 2) (pv 5) (@aM _ _ _ _ _ _ _ aQ (@aJ _ _ _ _ (@aa _ _ _ _ _ (@au _ _ _ _ _ (@aa _ _ _ _ _ (@ap _ _ _ _ _ _ _ _ bf (pv 7) (pv 9)) (@aa _ _ _ _ _ (pv 8) ac (by rfl)) (by rfl))) (@aa _ _ _ _ _ (@au _ _ _ _ _ (@aa _ _ _ _ _ (pv 7) (@aa _ _ _ _ _ (@ap _ _ _ _ _ _ _ _ dn (pv 8) (pv 9)) ac (by rfl)) (by rfl))) (@aa _ _ _ _ _ (@au _ _ _ _ _ (@aa _ _ _ _ _ (@ap _ _ _ _ _ _ _ _ dn (pv 7) (pv 9)) (@aa _ _ _ _ _ (pv 8) ac (by rfl)) (by rfl))) (@aa _ _ _ _ _ (@au _ _ _ _ _ (@aa _ _ _ _ _ (pv 7) (@aa _ _ _ _ _ (@ap _ _ _ _ _ _ _ _ bf (pv 8) (pv 9)) ac (by rfl)) (by rfl))) (@aa _ _ _ _ _ (@au _ _ _ _ _ (@aa _ _ _ _ _ (@ap _ _ _ _ _ _ _ _ bf (pv 7) ae) (@aa _ _ _ _ _ (pv 8) ac (by rfl)) (by rfl))) (@aa _ _ _ _ _ (@au _ _ _ _ _ (@aa _ _ _ _ _ (pv 7) (@aa _ _ _ _ _ (@ap _ _ _ _ _ _ _ _ dn (pv 8) ae) ac (by rfl)) (by rfl))) (@aa _ _ _ _ _ (@au _ _ _ _ _ (@aa _ _ _ _ _ (pv 8) (@aa _ _ _ _ _ (pv 7) ac (by rfl)) (by rfl))) (@aa _ _ _ _ _ (@au _ _ _ _ _ (@aa _ _ _ _ _ (@ap _ _ _ _ _ _ _ _ bf (pv 7) ae) (@aa _ _ _ _ _ (@ap _ _ _ _ _ _ _ _ bf (pv 8) ae) ac (by rfl)) (by rfl))) ac (by rfl)) (by rfl)) (by rfl)) (by rfl)) (by rfl)) (by rfl)) (by rfl)) (by rfl))) (pv 10) (fun _ _=>rfl)) rfl)) (@ag _ _ _ (@aY _ _ _ _ _ _ _ _ (@aF _ _ _ _ _ _ _ _ bw (pv 10) ae (az _)) (@ag _ _ _ (@gn _ _ _ _ _ _ _ _ _ (w) rfl (u1 hr.units) (pv 2) (pv 5) (@aM _ _ _ _ _ _ _ aQ (@aJ _ _ _ _ (@aa _ _ _ _ _ bO (@aa _ _ _ _ _ (pv 7) (@aa _ _ _ _ _ (@aJ _ _ _ _ (@aa _ _ _ _ _ (pv 7) (@aa _ _ _ _ _ (pv 8) ac (by rfl)) (by rfl))) (@aa _ _ _ _ _ (@au _ _ _ _ _ (@aa _ _ _ _ _ (pv 7) ac (by rfl))) (@aa _ _ _ _ _ (@au _ _ _ _ _ (@aa _ _ _ _ _ (pv 7) (@aa _ _ _ _ _ (pv 8) (@aa _ _ _ _ _ (pv 8) ac (by rfl)) (by rfl)) (by rfl))) (@aa _ _ _ _ _ (@au _ _ _ _ _ (@aa _ _ _ _ _ (@bo _ _ _ _ _ _ _ _ _ (qG hr.gd hr.units) rfl B.istr aca (@aa _ _ _ _ _ (pv 7) ac (by rfl)) (by decide) (by decide) (by rfl) (by rfl)) (@aa _ _ _ _ _ (pv 8) ac (by rfl)) (by rfl))) (@aa _ _ _ _ _ (@au _ _ _ _ _ (@aa _ _ _ _ _ (pv 7) (@aa _ _ _ _ _ bO ac (by rfl)) (by rfl))) (@aa _ _ _ _ _ (@au _ _ _ _ _ (@aa _ _ _ _ _ cJ (@aa _ _ _ _ _ (pv 8) ac (by rfl)) (by rfl))) (@aa _ _ _ _ _ (@au _ _ _ _ _ (@aa _ _ _ _ _ (pv 7) (@aa _ _ _ _ _ cJ ac (by rfl)) (by rfl))) (@aa _ _ _ _ _ gq ac (by rfl)) (by rfl)) (by rfl)) (by rfl)) (by rfl)) (by rfl)) (by rfl)) (by rfl)) (by rfl)) (by rfl))) (@ah _ _ _ _ _ _ _ _ _ _ _ C__law_take hr (by lia) rfl (@aa _ _ _ _ _ (pv 0) (@aa _ _ _ _ _ ae ac (by rfl)) (by rfl)) (by decide) (by rfl) (by rfl)) (fun _ _=>rfl)) rfl)) (@ag _ _ _ (@aY _ _ _ _ _ _ _ _ (@aF _ _ _ _ _ _ _ _ bw (pv 10) ae (az _)) (@ag _ _ _ (@bS _ _ _ _ (@kG _ _ _ _ _ _ _ (w) rfl (u1 hr.units) (pv 2) (pv 5) ⟨rfl,rfl,rfl,rfl⟩) (by rfl))) (@ag _ _ _ (@aY _ _ _ _ _ _ _ _ (@aF _ _ _ _ _ _ _ _ bw (pv 10) ae (az _)) (@ag _ _ _ (@gn _ _ _ _ _ _ _ _ _ (w) rfl (u1 hr.units) (pv 2) (@aM _ _ _ _ _ _ _ aQ (@aJ _ _ _ _ (@aa _ _ _ _ _ (@au _ _ _ _ _ (@aa _ _ _ _ _ ae (@aa _ _ _ _ _ ae ac (by rfl)) (by rfl))) (@aa _ _ _ _ _ (@au _ _ _ _ _ (@aa _ _ _ _ _ (@h_ _ _ _ _ _ _ eV ae) (@aa _ _ _ _ _ ae ac (by rfl)) (by rfl))) (@aa _ _ _ _ _ (@au _ _ _ _ _ (@aa _ _ _ _ _ ae (@aa _ _ _ _ _ ae ac (by rfl)) (by rfl))) (@aa _ _ _ _ _ bc (@aa _ _ _ _ _ (@au _ _ _ _ _ (@aa _ _ _ _ _ ae ac (by rfl))) (@aa _ _ _ _ _ ae (@aa _ _ _ _ _ bO ac (by rfl)) (by rfl)) (by rfl)) (by rfl)) (by rfl)) (by rfl)) (by rfl))) (@ah _ _ _ _ _ _ _ _ _ _ _ C__law_take hr (by lia) rfl (@aa _ _ _ _ _ (pv 0) (@aa _ _ _ _ _ ae ac (by rfl)) (by rfl)) (by decide) (by rfl) (by rfl)) (fun _ _=>rfl)) (@au _ _ _ _ _ (@aa _ _ _ _ _ (pv 7) (@aa _ _ _ _ _ (pv 8) ac (by rfl)) (by rfl))) rfl)) (@ag _ _ _ (@aY _ _ _ _ _ _ _ _ (@aF _ _ _ _ _ _ _ _ bw (pv 10) ae (az _)) (@af _ _ _ _ _ (@bS _ _ _ _ (@kG _ _ _ _ _ _ _ (w) rfl (u1 hr.units) (pv 2) (pv 5) ⟨rfl,rfl,rfl,rfl⟩) (by rfl)) (@ag _ _ _ (@gn _ _ _ _ _ _ _ _ _ (w) rfl (u1 hr.units) (pv 2) (@aM _ _ _ _ _ _ _ aQ (@aJ _ _ _ _ (@aa _ _ _ _ _ (@au _ _ _ _ _ (@aa _ _ _ _ _ ae (@aa _ _ _ _ _ ae ac (by rfl)) (by rfl))) (@aa _ _ _ _ _ (@au _ _ _ _ _ (@aa _ _ _ _ _ (@h_ _ _ _ _ _ _ eV ae) (@aa _ _ _ _ _ ae ac (by rfl)) (by rfl))) (@aa _ _ _ _ _ (@au _ _ _ _ _ (@aa _ _ _ _ _ ae (@aa _ _ _ _ _ ae ac (by rfl)) (by rfl))) (@aa _ _ _ _ _ bc (@aa _ _ _ _ _ (@au _ _ _ _ _ (@aa _ _ _ _ _ ae ac (by rfl))) (@aa _ _ _ _ _ ae (@aa _ _ _ _ _ bO ac (by rfl)) (by rfl)) (by rfl)) (by rfl)) (by rfl)) (by rfl)) (by rfl))) (@ah _ _ _ _ _ _ _ _ _ _ _ C__law_take hr (by lia) rfl (@aa _ _ _ _ _ (pv 0) (@aa _ _ _ _ _ ae ac (by rfl)) (by rfl)) (by decide) (by rfl) (by rfl)) (fun _ _=>rfl)) (@au _ _ _ _ _ (@aa _ _ _ _ _ (pv 7) (@aa _ _ _ _ _ (pv 8) ac (by rfl)) (by rfl))) rfl))) (@ag _ _ _ (@aY _ _ _ _ _ _ _ _ (@PW.pt _ _ _ (@fW _ _ _ _ _ _ _ (@aF _ _ _ _ _ _ _ _ bw (pv 10) ae (az _)) (@gl _ _ _ _ (@nA _ _ _ _ _ _ (w) rfl (u1 hr.units) (pv 5) (pv 1) (by with_unfolding_all rfl))))) (@af _ _ _ _ _ (@bS _ _ _ _ (@kG _ _ _ _ _ _ _ (w) rfl (u1 hr.units) (pv 2) (pv 5) ⟨rfl,rfl,rfl,rfl⟩) (by rfl)) (@ag _ _ _ (@gn _ _ _ _ _ _ _ _ _ (w) rfl (u1 hr.units) (pv 2) (@bo _ _ _ _ _ _ _ _ _ jK rfl B.ituple abm (@aa _ _ _ _ _ (@bZ _ _ _ _ _ _ _ _ (["number"]) ([none]) _ _ _ _ rfl (@eJ _ _ _ _ (pv 5)) rfl trivial trivial (fun _ _ _ _=>⟨(@aj _ _ (0) _ (show aaX (["number"]:List Str) by decide +kernel) rfl (Or.inl rfl) (.inr rfl)),aH,(@aM _ _ _ _ _ _ _ (@rQ _ _ rfl) (@aJ _ _ _ _ (@aa _ _ _ _ _ cJ (@aa _ _ _ _ _ cJ (@aa _ _ _ _ _ (pv 0) ac (by rfl)) (by rfl)) (by rfl))) (@ak _ _ _ _ _ _ _ _ _ (@ol _ rfl) rfl B.imin abv (@aa _ _ _ _ _ ae (@aa _ _ _ _ _ (pv 0) ac (by rfl)) (by rfl)) (by decide) (by decide) (by rfl) (by rfl)) (fun _ _=>rfl))⟩) (by rfl) (by rfl) (by rfl) (by rfl) (by intro _;rfl)) ac (by rfl)) (by decide) (by decide) (by rfl) (by rfl)) (@au _ _ _ _ _ (@aa _ _ _ _ _ (pv 7) (@aa _ _ _ _ _ (pv 8) ac (by rfl)) (by rfl))) rfl))) (@ag _ _ _ (@aY _ _ _ _ _ _ _ _ (@PW.pt _ _ _ (@fW _ _ _ _ _ _ _ (@aF _ _ _ _ _ _ _ _ bw (pv 10) ae (az _)) (@fW _ _ _ _ _ _ _ (@nA _ _ _ _ _ _ (w) rfl (u1 hr.units) (pv 5) (pv 1) (by with_unfolding_all rfl)) (@gl _ _ _ _ (@nA _ _ _ _ _ _ (w) rfl (u1 hr.units) (pv 6) (pv 1) (by with_unfolding_all rfl)))))) (@ag _ _ _ (@dE _ _ _ _ _ _ (@au _ _ _ _ _ (@aa _ _ _ _ _ (@bY _ _ _ _ _ _ (w) rfl (u1 hr.units) (pv 1) (pv 6) (fun _ _=>rfl)) (@aa _ _ _ _ _ (@bY _ _ _ _ _ _ (w) rfl (u1 hr.units) (pv 1) (pv 5) (fun _ _=>rfl)) ac (by rfl)) (by rfl))) (@dF _ _ _ _ _ _ rfl (@aD _ _ _ _ _ (@kF _ _ _ _ _ _ _ (pv 2) (pv 5) (@oM _ (w) rfl (u1 hr.units)) (by intro _;rfl)) (@aD _ _ _ _ _ (@kF _ _ _ _ _ _ _ (pv 2) (pv 6) (@oM _ (w) rfl (u1 hr.units)) (by intro _;rfl)) bX (by rfl)) (by rfl)) (by rfl) (by rfl)) (by rfl) (by rfl) (by rfl))) aG))))))))))))) (@ag _ _ _ (@aY _ _ _ _ _ _ _ _ (@aF _ _ _ _ _ _ _ _ (@vm _ (w) rfl hr.units) (pv 2) gq (az _)) (@ag _ _ _ (@ar _ _ _ _ (pv 2))) aG))))))))) (by intro _;rfl)) (@ag _ _ _ (@ar _ _ _ _ (pv 2))))),?_⟩;have t2:(2:Nat)≤sizeLine:=by decide
  obtain ⟨kI,ek,ek2,ek3⟩:=pM hb;have lk:kI.length=(aE n).length:=by have:=congrArg acF ek2;simpa using this
  have l45:=gr n n9;have lpos:1≤(aE n).length:=ab2 (dk (n:=n) (q:=(0,0)) (Int.le_refl _) (Int.le_refl _) (by simp only;lia));have hnd:(kI.map fun p=>hM w (.tup p.1)).Nodup:=by
    have e:(kI.map fun p=>hM w (.tup p.1))=(aE n).map fun q=>hT [q.1,q.2]:=by
      have:=congrArg (List.map hT) ek2;rw [aaR,aaR] at this;exact this
    rw [e];exact qg n9
  refine ⟨_,rfl,a,kI,rfl,by rw [ea,ek],(fun z=>by rw [z] at lk;simp at lk;lia),hnd,by lia,fun d ks0 nD dm0 rd0=>?_⟩;have S1:=Same.new nD (dmX w d ks0);generalize hH1:upd H d (dmX w d ks0)=H1 at S1 dm0 ⊢;have hP1:=hP.keep S1;refine ⟨_,rfl,wl,3,rfl,by decide,by decide,hP1,fun r0 H2 _ _ B2 hP2=>⟨rfl,.inr ⟨_,rfl,_,_,rfl,rfl,_,rfl,by split <;> decide,by split <;> decide,?_⟩⟩⟩;have turns:(1+(if decide (V.int r0=V.int 0)=true then (1:Int) else 0)).toNat≤2:=by split <;> decide
  obtain ⟨tn,htn⟩:∃ tn,(1+(if decide (V.int r0=V.int 0)=true then (1:Int) else 0)).toNat=tn:=⟨_,rfl⟩
  rw [htn] at turns;have dw:d≠wl:=abS (by obtain ⟨_,_,_,e⟩:=hP;exact ao e nD);have daN:a≠d:=ao ea nD;have dm2:=DmIn.but B2 hP1 dw dm0;have B02:=(But.of S1:But wl H H1).trans B2;have good0:VOk (bL wl d H2) ks0:=fun e he=>by
    have h1:(e.1,e.2.2)∈rdE ks0:=aan.mpr ⟨e,he,rfl⟩;rw [rd0] at h1;obtain ⟨p,hp,e1⟩:=aan.mp h1;injection e1 with e1 e2
    obtain ⟨q1,hq1,e3,e4⟩:=rP (P:=fun q v=>Dat H (.tuple [.int (E0 q).1,.int (E0 q).2]) v) ek2 ek3 p hp;have qb:=iX n9 hq1;refine ⟨mH (dm2.keys e he) (by rw [← e1,e3]) (fun k hk=>by
      simp only [aai,aaP,or_false] at hk;rcases hk with rfl|rfl <;> lia) (by show 2≤4;decide) hP2 dm2.at_ fH,?_⟩
    simp only [Dat,DatAll] at e4;obtain ⟨t,_,e5,ht,_,_,rfl,rfl,_,_,rfl,rfl,rfl⟩:=e4;obtain ⟨x1,x2⟩:=hq q1 hq1;have x3:=hX n9 hq1;have hC:(10:Nat) ^ 270 < 10 ^ 280:=by decide +kernel
    rw [← e2,e5];exact iz hC (hP.tups B02 _ _ ht) (by lia) (by lia) hP2 dm2.at_ fH
  have ne0:ks0≠[]:=fun z=>by
    rw [z] at rd0;have:=congrArg acF rd0;simp [rdE] at this;lia
  have l0:ks0.length≤45:=by
    have:=congrArg acF rd0;unfold rdE at this;rw [aab,aab] at this;lia
  have aw:a≠wl:=fun z=>by obtain ⟨_,_,_,e⟩:=hP;rw [← z,ea] at e;cases e
  have dN:∀ {H':Hp},But wl H H'→∀ b o,H b=some o→b≠wl→H' b=some o:=fun b c o e n=>b c o n e;refine bq (n:=(1+(if decide (V.int r0=V.int 0)=true then (1:Int) else 0)).toNat) (fun i σ H'=>∃ (ks:List KEn) (c3 c4 c5 c6 c7 c8 c9 ca:Option V),σ=[some (.ref wl),some (.ref a),some (.ref d),c3,c4,c5,c6,c7,c8,c9,ca]∧But wl H H'∧Pot H' wl∧DmIn w H' d ks∧VOk (bL wl d H') ks∧ks≠[]∧ks.length≤45+i) ⟨ks0,_,_,_,_,_,_,_,_,rfl,B02,hP2,dm2,good0,ne0,by lia⟩ ?_ ?_
  · rintro i σ H3 hi ⟨ks,c3,c4,c5,c6,c7,c8,c9,ca,rfl,B3,hP3,dm3,vo3,ne3,l3⟩;have hi2:i < 2:=by lia
    have lks:1≤ks.length:=acM.mpr ne3;refine ⟨_,rfl,d,ks,rfl,dm3,fun pl npl=>?_⟩;have sl:=Same.new npl (.lst (ks.map (·.2.1)));have epl:upd H3 pl (.lst (ks.map (·.2.1))) pl=_:=ad;have nplw:pl≠wl:=hP3.ne npl;have B4:=B3.trans (But.of sl);have hP4:=hP3.keep sl;have dm4:=dm3.mono sl;have vo4:=vo3.mono (cY sl);generalize upd H3 pl (.lst (ks.map (·.2.1)))=H4 at B4 epl hP4 dm4 vo4 ⊢;have ll:(ks.map (·.2.1)).length=ks.length:=aab _;refine ⟨_,rfl,_,rfl,_,rfl,pl,_,rfl,.inl (SqL.of epl),wl,((ks.map (·.2.1)).length:Nat),rfl,by lia,by lia,hP4,fun r1 H5 a1 b1 B5 hP5=>?_⟩;rw [ll] at b1;obtain ⟨e1,hk1⟩:∃ e1,ks[r1.toNat]?=some e1:=⟨ks[r1.toNat]'(by lia),aac _⟩
    have at1:atI (ks.map (·.2.1)) r1=some e1.2.1:=by
      have h:atI (ks.map (·.2.1)) ((r1.toNat:Nat):Int)=some e1.2.1:=cG (by rw [aao,hk1];rfl)
      rwa [show ((r1.toNat:Nat):Int)=r1 by lia] at h
    have epl5:=B5 _ _ nplw epl;refine ⟨pl,_,_,_,rfl,rfl,SqL.of epl5,at1,?_⟩;refine ⟨_,rfl,_,rfl,_,rfl,pl,_,rfl,.inl (SqL.of epl5),wl,((ks.map (·.2.1)).length:Nat),rfl,by lia,by lia,hP5,fun r2 H6 a2 b2 B6 hP6=>?_⟩;rw [ll] at b2;obtain ⟨e2,hk2⟩:∃ e2,ks[r2.toNat]?=some e2:=⟨ks[r2.toNat]'(by lia),aac _⟩
    have at2:atI (ks.map (·.2.1)) r2=some e2.2.1:=by
      have h:atI (ks.map (·.2.1)) ((r2.toNat:Nat):Int)=some e2.2.1:=cG (by rw [aao,hk2];rfl)
      rwa [show ((r2.toNat:Nat):Int)=r2 by lia] at h
    have epl6:=B6 _ _ nplw epl5;refine ⟨pl,_,_,_,rfl,rfl,SqL.of epl6,at2,?_⟩;have B46:=B5.trans B6;have b6:=B4.trans B46;have dm6:=DmIn.but B46 hP4 dw dm4;have vo6:=vo4.mono (cK B46);have m1:=aas hk1;have m2:=aas hk2;have ea6:=b6 _ _ aw ea;have hb6:=BtIn.mono (hP.tups b6) hb;obtain ⟨es,pd,hes⟩:=pL (w:=w) ea6 hb6;have bn6:Bn w wl d H H6 ks:=⟨b6,hP6,dm6,vo6⟩
    refine ⟨_,rfl,a,es,rfl,pd,_,rfl,t2,fun p0 n0=>?_⟩;have s0:=Same.new n0 (.tup [V.int 0,.int 0]);have ep0:upd H6 p0 (.tup [V.int 0,.int 0]) p0=_:=ad;have bn7:=bn6.same s0;have pd7:=pd.mono s0;have hes7:Paired (fun (p:MK × PyData) (e:MK × V)=>p.1=e.1∧Dat (upd H6 p0 (.tup [V.int 0,.int 0])) p.2 e.2) (ppE E0 (aE n)) es:=Paired.mapP hes fun _ _ z=>⟨z.1,Dat.mono s0 _ _ z.2⟩
    generalize upd H6 p0 (.tup [V.int 0,.int 0])=H7 at bn7 pd7 hes7 ep0 ⊢;have hk7:=bn7.dm.keys _ m1;obtain ⟨B,hB,lo,hi,tt,ett,hlo,hhi,eo⟩:∃ (B:Nat) (_:B < 10 ^ 280) (lo hi:Int) (tt:Addr),H7 tt=some (.tup [.int lo,.int hi])∧lo.natAbs+20≤B∧hi.natAbs+20≤B∧(bB es e1.1).getD (.ref p0)=.ref tt:=by
      refine ⟨10 ^ 270+30,by decide +kernel,?_⟩;rcases kH hes7 e1.1 with z|⟨q1,hq1,_,t,z,ht⟩
      · exact ⟨0,0,p0,ep0,by show 0+20≤_;exact aaE (by lia) (Nat.le_add_left 30 _),by show 0+20≤_;exact aaE (by lia) (Nat.le_add_left 30 _),by rw [z];rfl⟩
      · obtain ⟨x1,x2⟩:=hq q1 hq1;have x3:=hX n9 hq1;generalize (10:Nat) ^ 270=C at x3;exact ⟨_,_,t,ht,by lia,by lia,by rw [z];rfl⟩
    refine ⟨bB es e1.1,⟨es,e1.1,pd7,hk7,rfl⟩,?_⟩;rw [eo];refine ⟨tt,_,rfl,SqT.of ett,rfl,_,_,rfl,_,_,rfl,rfl,?_⟩;refine ⟨_,rfl,wl,5,rfl,by decide,by decide,bn7.pot,fun r3 H7b a3 b3 B7b hP7b=>⟨_,_,rfl,rfl,?_⟩⟩;have bn7b:=bn7.step B7b hP7b dw;refine ⟨_,rfl,wl,14,rfl,by decide,by decide,hP7b,fun wy H8 aw0 aw1 B8 hP8=>?_⟩;have bn8:=bn7b.step B8 hP8 dw;have hk1':=bn8.dm.keys _ m1;have hk2':=bn8.dm.keys _ m2;have gy1:=(bn8.vo _ m1).1;have gy2:=(bn8.vo _ m2).1;have ai:∀ {z:Int},z.natAbs≤B→At0 (.int z):=fun h=>bA hB h;obtain ⟨fr,hfr⟩:∃ fr,(1:Int)+r3=fr:=⟨_,rfl⟩
    have fr1:1≤fr∧fr≤5:=by lia
    obtain ⟨iv,hiv⟩:∃ iv:Int,0+(i:Int)=iv:=⟨_,rfl⟩
    refine ⟨fun σ H'=>∃ (ks':List KEn),σ=[some (.ref wl),some (.ref a),some (.ref d),some (.int iv),some (.ref pl),some e1.2.1,some e2.2.1,some (.int lo),some (.int hi),some (.int fr),some (.int wy)]∧Bn w wl d H H' ks'∧ks'.length≤45+(i+1),?_,?_⟩
    · rw [← hfr,← hiv];have A:Al wl d H8 H8 []:=⟨Same.refl _,let ⟨_,_,_,e⟩:=hP8;⟨_,e⟩,⟨_,bn8.dm.at_⟩,fun x hx=>nomatch hx⟩
      refine ⟨_,rfl,_,_,rfl,rfl,_,rfl,g_ (fun c=>?_) (fun c=>?_)⟩
      · have c:wy < 8:=of_decide_eq_true c;refine ⟨_,rfl,_,rfl,_,_,rfl,rfl,_,rfl,(by show 2≤sizeLine;decide),fun u1 n_u1=>?_⟩
        replace A:=A.new n_u1 (.tup [V.int (lo+(1+r3)),.int hi])
        generalize upd H8 u1 (.tup [V.int (lo+(1+r3)),.int hi])=h_u1 at A ⊢;refine ⟨_,rfl,_,rfl,_,rfl,_,_,rfl,rfl,(by show 2≤sizeLine;decide),fun u2 n_u2=>?_⟩
        replace A:=A.new n_u2 (.tup [V.int lo,.int (hi - (1+r3))])
        generalize upd h_u1 u2 (.tup [V.int lo,.int (hi - (1+r3))])=h_u2 at A ⊢;refine ⟨_,rfl,_,rfl,_,_,rfl,rfl,_,rfl,(by show 2≤sizeLine;decide),fun u3 n_u3=>?_⟩
        replace A:=A.new n_u3 (.tup [V.int (lo - (1+r3)),.int hi])
        generalize upd h_u2 u3 (.tup [V.int (lo - (1+r3)),.int hi])=h_u3 at A ⊢;refine ⟨_,rfl,_,rfl,_,rfl,_,_,rfl,rfl,(by show 2≤sizeLine;decide),fun u4 n_u4=>?_⟩
        replace A:=A.new n_u4 (.tup [V.int lo,.int (hi+(1+r3))])
        generalize upd h_u3 u4 (.tup [V.int lo,.int (hi+(1+r3))])=h_u4 at A ⊢;refine ⟨_,rfl,_,_,rfl,rfl,_,rfl,(by show 2≤sizeLine;decide),fun u5 n_u5=>?_⟩
        replace A:=A.new n_u5 (.tup [V.int (lo+1),.int hi])
        generalize upd h_u4 u5 (.tup [V.int (lo+1),.int hi])=h_u5 at A ⊢;refine ⟨_,rfl,_,rfl,_,_,rfl,rfl,(by show 2≤sizeLine;decide),fun u6 n_u6=>?_⟩
        replace A:=A.new n_u6 (.tup [V.int lo,.int (hi - 1)])
        generalize upd h_u5 u6 (.tup [V.int lo,.int (hi - 1)])=h_u6 at A ⊢;refine ⟨_,rfl,_,rfl,(by show 2≤sizeLine;decide),fun u7 n_u7=>?_⟩
        replace A:=A.new n_u7 (.tup [V.int hi,.int lo])
        generalize upd h_u6 u7 (.tup [V.int hi,.int lo])=h_u7 at A ⊢;refine ⟨_,rfl,_,_,rfl,rfl,_,rfl,_,_,rfl,rfl,(by show 2≤sizeLine;decide),fun u8 n_u8=>?_⟩
        replace A:=A.new n_u8 (.tup [V.int (lo+1),.int (hi+1)])
        generalize upd h_u7 u8 (.tup [V.int (lo+1),.int (hi+1)])=h_u8 at A ⊢;refine ⟨(by show 8≤sizeLine;decide),fun ul n_ul=>?_⟩
        replace A:=A.new n_ul (.lst [V.ref u1,.ref u2,.ref u3,.ref u4,.ref u5,.ref u6,.ref u7,.ref u8])
        generalize upd h_u8 ul (.lst [V.ref u1,.ref u2,.ref u3,.ref u4,.ref u5,.ref u6,.ref u7,.ref u8])=h_ul at A ⊢;obtain ⟨v,hv,hmem⟩:=iC (xs:=[V.ref u1,.ref u2,.ref u3,.ref u4,.ref u5,.ref u6,.ref u7,.ref u8]) aw0 (by show wy < 8;lia);have gv:Good (bL wl d h_ul) v:=by
          simp only [aai,aaP,or_false] at hmem;rcases hmem with rfl|rfl|rfl|rfl|rfl|rfl|rfl|rfl
          · exact aC (.inl (A.at 8 rfl)) (by show 2≤4;decide) (aW (ai (by lia)) (ai (by lia)))
          · exact aC (.inl (A.at 7 rfl)) (by show 2≤4;decide) (aW (ai (by lia)) (ai (by lia)))
          · exact aC (.inl (A.at 6 rfl)) (by show 2≤4;decide) (aW (ai (by lia)) (ai (by lia)))
          · exact aC (.inl (A.at 5 rfl)) (by show 2≤4;decide) (aW (ai (by lia)) (ai (by lia)))
          · exact aC (.inl (A.at 4 rfl)) (by show 2≤4;decide) (aW (ai (by lia)) (ai (by lia)))
          · exact aC (.inl (A.at 3 rfl)) (by show 2≤4;decide) (aW (ai (by lia)) (ai (by lia)))
          · exact aC (.inl (A.at 2 rfl)) (by show 2≤4;decide) (aW (ai (by lia)) (ai (by lia)))
          · exact aC (.inl (A.at 1 rfl)) (by show 2≤4;decide) (aW (ai (by lia)) (ai (by lia)))
        have bn9:=bn8.same A.same;refine ⟨_,rfl,ul,_,_,_,rfl,rfl,SqL.of (A.up 0 rfl),hv,?_⟩;refine ⟨_,rfl,_,rfl,d,ks,e1.1,rfl,bn9.dm,hk1'.mono (fun b xs=>A.same b _),by lia,?_⟩;exact ⟨_,rfl,bn9.put nD dw (hk1'.mono (fun b xs=>A.same b _)) (gy1.mono (cY A.same)) gv (by lia),aaE (di _ _ _ _) (by lia)⟩
      · refine ⟨_,rfl,rfl,_,rfl,g_ (fun c2=>?_) (fun c2=>?_)⟩
        · skip
          refine ⟨_,rfl,_,rfl,_,rfl,(by show 2≤sizeLine;decide),fun u1 n_u1=>?_⟩
          replace A:=A.new n_u1 (.lst [V.int lo,.int hi])
          generalize upd H8 u1 (.lst [V.int lo,.int hi])=h_u1 at A ⊢;refine ⟨_,rfl,(by show 1≤sizeLine;decide),fun u2 n_u2=>?_⟩
          replace A:=A.new n_u2 (.tup [V.int lo])
          generalize upd h_u1 u2 (.tup [V.int lo])=h_u2 at A ⊢;refine ⟨_,rfl,_,rfl,_,rfl,(by show 3≤sizeLine;decide),fun u3 n_u3=>?_⟩
          replace A:=A.new n_u3 (.tup [V.int lo,.int hi,.int hi])
          generalize upd h_u2 u3 (.tup [V.int lo,.int hi,.int hi])=h_u3 at A ⊢;have hsh:=rV (z:=lo) (aa2 (by lia) hB);refine ⟨_,rfl,_,.int lo,rfl,by simp only [Dat],.inl ⟨_,rfl⟩,hsh.1,by simp [aaB],hsh.2.1,_,rfl,(by show 2≤sizeLine;decide),fun u4 n_u4=>?_⟩
          replace A:=A.new n_u4 (.tup [V.str (PyData.int lo).shown,.int hi])
          generalize upd h_u3 u4 (.tup [V.str (PyData.int lo).shown,.int hi])=h_u4 at A ⊢;refine ⟨_,rfl,(by show 2≤sizeLine;decide),fun u5 n_u5=>?_⟩
          replace A:=A.new n_u5 (.tup [V.int lo,.non])
          generalize upd h_u4 u5 (.tup [V.int lo,.non])=h_u5 at A ⊢;refine ⟨_,rfl,(by show 2≤sizeLine;decide),fun u6 n_u6=>?_⟩
          replace A:=A.new n_u6 (.tup [V.bl true,.int hi])
          generalize upd h_u5 u6 (.tup [V.bl true,.int hi])=h_u6 at A ⊢;refine ⟨_,rfl,(by show 2≤sizeLine;decide),fun u7 n_u7=>?_⟩
          replace A:=A.new n_u7 (.tup [V.int lo,.bl false])
          generalize upd h_u6 u7 (.tup [V.int lo,.bl false])=h_u7 at A ⊢;refine fun u8 n_u8=>?_
          replace A:=A.new n_u8 (.dK [])
          generalize upd h_u7 u8 (.dK [])=h_u8 at A ⊢;refine ⟨(by show 10≤sizeLine;decide),fun ul n_ul=>?_⟩
          replace A:=A.new n_ul (.lst [V.non,.int lo,.ref u1,.ref u2,.ref u3,.ref u4,.ref u5,.ref u6,.ref u7,.ref u8])
          generalize upd h_u8 ul (.lst [V.non,.int lo,.ref u1,.ref u2,.ref u3,.ref u4,.ref u5,.ref u6,.ref u7,.ref u8])=h_ul at A ⊢;refine ⟨_,rfl,wl,10,rfl,by decide,by decide,hP8.keep A.same,fun r5 H9 c0 c1 B9 hP9=>?_⟩;obtain ⟨v,hv,hmem⟩:=iC (xs:=[V.non,.int lo,.ref u1,.ref u2,.ref u3,.ref u4,.ref u5,.ref u6,.ref u7,.ref u8]) c0 (by show r5 < 10;lia);have gv0:Good (bL wl d h_ul) v:=by
            simp only [aai,aaP,or_false] at hmem;rcases hmem with rfl|rfl|rfl|rfl|rfl|rfl|rfl|rfl|rfl|rfl
            · exact dy jt
            · exact dy (ai (by lia))
            · exact aC (.inr (A.at 8 rfl)) (by show 2≤4;decide) (aW (ai (by lia)) (ai (by lia)))
            · exact aC (.inl (A.at 7 rfl)) (by show 1≤4;decide) (iD (ai (by lia)))
            · exact aC (.inl (A.at 6 rfl)) (by show 3≤4;decide) (ui (ai (by lia)) (ai (by lia)) (ai (by lia)))
            · exact aC (.inl (A.at 5 rfl)) (by show 2≤4;decide) (aW (ou hsh.2.2) (ai (by lia)))
            · exact aC (.inl (A.at 4 rfl)) (by show 2≤4;decide) (aW (ai (by lia)) jt)
            · exact aC (.inl (A.at 3 rfl)) (by show 2≤4;decide) (aW (sS _) (ai (by lia)))
            · exact aC (.inl (A.at 2 rfl)) (by show 2≤4;decide) (aW (ai (by lia)) (sS _))
            · exact ua (A.at 1 rfl)
          have gv:=gv0.mono (cK B9);have bn9:=(bn8.same A.same).step B9 hP9 dw;refine ⟨ul,_,_,_,rfl,rfl,SqL.of (B9 _ _ (kU (A.at 0 rfl)).1 (A.up 0 rfl)),hv,?_⟩;refine ⟨_,rfl,_,rfl,d,ks,e1.1,rfl,bn9.dm,bn9.dm.keys _ m1,by lia,?_⟩;exact ⟨_,rfl,bn9.put nD dw (bn9.dm.keys _ m1) (bn9.vo _ m1).1 gv (by lia),aaE (di _ _ _ _) (by lia)⟩
        · refine ⟨_,rfl,rfl,_,rfl,g_ (fun c3=>?_) (fun c3=>?_)⟩
          · skip
            refine ⟨_,rfl,d,_,rfl,.inr (.inl ⟨ks,bn8.dm,rfl⟩),_,rfl,ks,e1.1,_,bn8.dm,hk1',nk bn8.dm.nd m1,?_⟩;exact ⟨_,rfl,bn8.drop nD dw,aaE (abu _ _) (by lia)⟩
          · refine ⟨_,rfl,rfl,_,rfl,g_ (fun c4=>?_) (fun c4=>?_)⟩
            · skip
              refine ⟨_,rfl,_,rfl,(by show 2≤sizeLine;decide),fun v0 n_v0=>?_⟩
              replace A:=A.new n_v0 (.tup [V.int lo,.int hi])
              generalize upd H8 v0 (.tup [V.int lo,.int hi])=h_v0 at A ⊢;refine ⟨_,rfl,(by show 2≤sizeLine;decide),fun u1 n_u1=>?_⟩
              replace A:=A.new n_u1 (.tup [V.int 0,.int 99])
              generalize upd h_v0 u1 (.tup [V.int 0,.int 99])=h_u1 at A ⊢;refine ⟨_,rfl,(by show 2≤sizeLine;decide),fun u2 n_u2=>?_⟩
              replace A:=A.new n_u2 (.tup [V.int (-1),.int 0])
              generalize upd h_u1 u2 (.tup [V.int (-1),.int 0])=h_u2 at A ⊢;refine ⟨(by show 2≤sizeLine;decide),fun u3 n_u3=>?_⟩
              replace A:=A.new n_u3 (.tup [V.int 1,.int 0])
              generalize upd h_u2 u3 (.tup [V.int 1,.int 0])=h_u3 at A ⊢;refine ⟨(by show 1≤sizeLine;decide),fun u4 n_u4=>?_⟩
              replace A:=A.new n_u4 (.tup [V.int 0])
              generalize upd h_u3 u4 (.tup [V.int 0])=h_u4 at A ⊢;refine ⟨(by show 7≤sizeLine;decide),fun ul n_ul=>?_⟩
              replace A:=A.new n_ul (.lst [V.ref u1,.ref u2,.ref u3,.str "a",.ref u4,.int 0,.non])
              generalize upd h_u4 ul (.lst [V.ref u1,.ref u2,.ref u3,.str "a",.ref u4,.int 0,.non])=h_ul at A ⊢;refine ⟨_,rfl,wl,7,rfl,by decide,by decide,bn8.pot.keep A.same,fun r5 H9 c0 c1 B9 hP9=>?_⟩;obtain ⟨y,hy,hmem⟩:=iC (xs:=[V.ref u1,.ref u2,.ref u3,.str "a",.ref u4,.int 0,.non]) c0 (by show r5 < 7;lia);have bn9:=(bn8.same A.same).step B9 hP9 dw;have gk:∃ k,MkIn H9 k y∧Good (bL wl d H9) y:=by
                have m9:∀ {x:Addr × HO},bL wl d h_ul x.1=some x.2→bL wl d H9 x.1=some x.2:=fun h=>cK B9 _ _ h;have small:(100:Nat) < 10 ^ 280:=by decide +kernel
                simp only [aai,aaP,or_false] at hmem;rcases hmem with rfl|rfl|rfl|rfl|rfl|rfl|rfl
                · exact ⟨.tup [0,99],⟨u1,_,rfl,cW _ _ (m9 (A.at 4 rfl)),BiL.ints [0,99]⟩,aC (.inl (m9 (A.at 4 rfl))) (by show 2≤4;decide) (aW (bA small (by decide)) (bA small (by decide)))⟩
                · exact ⟨.tup [-1,0],⟨u2,_,rfl,cW _ _ (m9 (A.at 3 rfl)),BiL.ints [-1,0]⟩,aC (.inl (m9 (A.at 3 rfl))) (by show 2≤4;decide) (aW (bA small (by decide)) (bA small (by decide)))⟩
                · exact ⟨.tup [1,0],⟨u3,_,rfl,cW _ _ (m9 (A.at 2 rfl)),BiL.ints [1,0]⟩,aC (.inl (m9 (A.at 2 rfl))) (by show 2≤4;decide) (aW (bA small (by decide)) (bA small (by decide)))⟩
                · exact ⟨.str "a",rfl,dy (ou (by decide +kernel))⟩
                · exact ⟨.tup [0],⟨u4,_,rfl,cW _ _ (m9 (A.at 1 rfl)),BiL.ints [0]⟩,aC (.inl (m9 (A.at 1 rfl))) (by show 1≤4;decide) (iD (bA small (by decide)))⟩
                · exact ⟨.int 0,rfl,dy (bA small (by decide))⟩
                · exact ⟨.non,rfl,dy jt⟩
              obtain ⟨k,hk,gy⟩:=gk;refine ⟨ul,_,_,_,rfl,rfl,SqL.of (B9 _ _ (kU (A.at 0 rfl)).1 (A.up 0 rfl)),hy,d,ks,k,rfl,bn9.dm,hk,by lia,?_⟩;exact ⟨_,rfl,bn9.put nD dw hk gy (aC (.inl (cK B9 _ _ (A.at 5 rfl))) (by show 2≤4;decide) (aW (ai (by lia)) (ai (by lia)))) (by lia),aaE (di _ _ _ _) (by lia)⟩
            · refine ⟨_,rfl,rfl,_,rfl,g_ (fun c5=>?_) (fun c5=>?_)⟩
              · skip
                refine ⟨_,rfl,d,_,rfl,.inr (.inl ⟨ks,bn8.dm,rfl⟩),_,rfl,ks,e1.1,_,bn8.dm,hk1',nk bn8.dm.nd m1,?_⟩;have bnd8:=bn8.drop (k:=e1.1) nD dw;have ld:(dt ks e1.1).length≤ks.length:=abu _ _;generalize hHd:upd H8 d (dmX w d (dt ks e1.1))=Hd at bnd8 ⊢;have A:Al wl d Hd Hd []:=⟨Same.refl _,let ⟨_,_,_,e⟩:=bnd8.pot;⟨_,e⟩,⟨_,bnd8.dm.at_⟩,fun x hx=>nomatch hx⟩
                refine ⟨_,rfl,_,rfl,(by show 2≤sizeLine;decide),fun v0 n_v0=>?_⟩
                replace A:=A.new n_v0 (.tup [V.int lo,.int hi])
                generalize upd Hd v0 (.tup [V.int lo,.int hi])=h_v0 at A ⊢;refine ⟨_,rfl,(by show 2≤sizeLine;decide),fun u1 n_u1=>?_⟩
                replace A:=A.new n_u1 (.tup [V.int 0,.int 99])
                generalize upd h_v0 u1 (.tup [V.int 0,.int 99])=h_u1 at A ⊢;refine ⟨_,rfl,(by show 2≤sizeLine;decide),fun u2 n_u2=>?_⟩
                replace A:=A.new n_u2 (.tup [V.int (-1),.int 0])
                generalize upd h_u1 u2 (.tup [V.int (-1),.int 0])=h_u2 at A ⊢;refine ⟨(by show 2≤sizeLine;decide),fun u3 n_u3=>?_⟩
                replace A:=A.new n_u3 (.tup [V.int 1,.int 0])
                generalize upd h_u2 u3 (.tup [V.int 1,.int 0])=h_u3 at A ⊢;refine ⟨(by show 1≤sizeLine;decide),fun u4 n_u4=>?_⟩
                replace A:=A.new n_u4 (.tup [V.int 0])
                generalize upd h_u3 u4 (.tup [V.int 0])=h_u4 at A ⊢;refine ⟨(by show 7≤sizeLine;decide),fun ul n_ul=>?_⟩
                replace A:=A.new n_ul (.lst [V.ref u1,.ref u2,.ref u3,.str "a",.ref u4,.int 0,.non])
                generalize upd h_u4 ul (.lst [V.ref u1,.ref u2,.ref u3,.str "a",.ref u4,.int 0,.non])=h_ul at A ⊢;refine ⟨_,rfl,wl,7,rfl,by decide,by decide,bnd8.pot.keep A.same,fun r5 H9 c0 c1 B9 hP9=>?_⟩;obtain ⟨y,hy,hmem⟩:=iC (xs:=[V.ref u1,.ref u2,.ref u3,.str "a",.ref u4,.int 0,.non]) c0 (by show r5 < 7;lia);have bn9:=(bnd8.same A.same).step B9 hP9 dw;have gk:∃ k,MkIn H9 k y∧Good (bL wl d H9) y:=by
                  have m9:∀ {x:Addr × HO},bL wl d h_ul x.1=some x.2→bL wl d H9 x.1=some x.2:=fun h=>cK B9 _ _ h;have small:(100:Nat) < 10 ^ 280:=by decide +kernel
                  simp only [aai,aaP,or_false] at hmem;rcases hmem with rfl|rfl|rfl|rfl|rfl|rfl|rfl
                  · exact ⟨.tup [0,99],⟨u1,_,rfl,cW _ _ (m9 (A.at 4 rfl)),BiL.ints [0,99]⟩,aC (.inl (m9 (A.at 4 rfl))) (by show 2≤4;decide) (aW (bA small (by decide)) (bA small (by decide)))⟩
                  · exact ⟨.tup [-1,0],⟨u2,_,rfl,cW _ _ (m9 (A.at 3 rfl)),BiL.ints [-1,0]⟩,aC (.inl (m9 (A.at 3 rfl))) (by show 2≤4;decide) (aW (bA small (by decide)) (bA small (by decide)))⟩
                  · exact ⟨.tup [1,0],⟨u3,_,rfl,cW _ _ (m9 (A.at 2 rfl)),BiL.ints [1,0]⟩,aC (.inl (m9 (A.at 2 rfl))) (by show 2≤4;decide) (aW (bA small (by decide)) (bA small (by decide)))⟩
                  · exact ⟨.str "a",rfl,dy (ou (by decide +kernel))⟩
                  · exact ⟨.tup [0],⟨u4,_,rfl,cW _ _ (m9 (A.at 1 rfl)),BiL.ints [0]⟩,aC (.inl (m9 (A.at 1 rfl))) (by show 1≤4;decide) (iD (bA small (by decide)))⟩
                  · exact ⟨.int 0,rfl,dy (bA small (by decide))⟩
                  · exact ⟨.non,rfl,dy jt⟩
                obtain ⟨k,hk,gy⟩:=gk;refine ⟨ul,_,_,_,rfl,rfl,SqL.of (B9 _ _ (kU (A.at 0 rfl)).1 (A.up 0 rfl)),hy,d,dt ks e1.1,k,rfl,bn9.dm,hk,by lia,?_⟩;exact ⟨_,rfl,bn9.put nD dw hk gy (aC (.inl (cK B9 _ _ (A.at 5 rfl))) (by show 2≤4;decide) (aW (ai (by lia)) (ai (by lia)))) (by lia),aaE (di _ _ _ _) (by lia)⟩
              · obtain ⟨es8,pd8,hes8⟩:=pL (w:=w) (bn8.but _ _ aw ea) (BtIn.mono (hP.tups bn8.but) hb);refine (fun (tl:(?R:Prop))=>?mn) ?tt
                case mn =>
                  refine ⟨_,rfl,rfl,_,rfl,g_ (fun c6=>?_) (fun c6=>aB ?_)⟩
                  · refine ⟨_,rfl,_,rfl,a,_,rfl,⟨es8,e1.1,pd8,hk1',rfl⟩,_,rfl,?_⟩;rcases kH hes8 e1.1 with z|⟨q1,hq1,ek1,t1,z,ht1⟩
                    · rw [z];refine aB ?_;exact tl
                    · rw [z];refine aI ?_;have qb:0≤q1.1∧q1.1≤8∧0≤q1.2∧q1.2≤8:=iX n9 hq1;obtain ⟨b1,xs1,ey,hb1,bl1⟩:∃ b xs,e1.2.1=.ref b∧H8 b=some (.tup xs)∧BiL [q1.1,q1.2] xs:=by
                        have:=hk1';rw [ek1] at this;exact this
                      refine ⟨_,rfl,d,_,rfl,.inr (.inl ⟨ks,bn8.dm,rfl⟩),_,rfl,ks,e1.1,_,bn8.dm,hk1',nk bn8.dm.nd m1,?_⟩;have bnd8:=bn8.drop (k:=e1.1) nD dw;have ld:(dt ks e1.1).length≤ks.length:=abu _ _;generalize hHd:upd H8 d (dmX w d (dt ks e1.1))=Hd at bnd8 ⊢;have ebd:Hd b1=some (.tup xs1):=by rw [← hHd,aq (fun z=>by rw [z,bn8.dm.at_] at hb1;cases hb1)];exact hb1
                      have lx1:xs1.length=2:=(aaC bl1).symm;refine ⟨_,rfl,_,rfl,t2,fun pv npv=>?_⟩;have spv:=Same.new npv (.tup [V.int lo,.int hi]);have epv:upd Hd pv (.tup [V.int lo,.int hi]) pv=_:=ad;have bn9:=bnd8.same spv;have eb9:=spv _ _ ebd;generalize upd Hd pv (.tup [V.int lo,.int hi])=H9 at spv epv bn9 eb9 ⊢;rw [ey];refine ⟨_,rfl,_,rfl,b1,rfl,⟨_,SqT.of eb9⟩,?_⟩;refine b_ (Trn.tup (xs:=xs1)) (fun j ys H'=>Same H9 H'∧BiL ([q1.1,q1.2].take j) ys) ⟨Same.refl _,.nil⟩ (fun j ys H' hj p=>⟨SqT.of (p.1 _ _ eb9),aa2 (show ys.length≤2 by rw [← aaC p.2,aax];exact Nat.min_le_right _ _) (by rw [sizeLine_eq];decide)⟩) (fun j x ys H0 H' hj hx p Nx nx=>?_) (fun ys H' p p5 n5=>?_)
                      · obtain ⟨S,bl⟩:=p;obtain ⟨rfl,hx⟩:=hx;obtain ⟨k,hk,bk⟩:=Paired.at bl1 hx;have kr:0≤k∧k≤8:=by
                          have:=aas hk;simp only [aai,aaP,or_false] at this;rcases this with rfl|rfl <;> lia
                        have stepT:∀ v,BiV k v→BiL ([q1.1,q1.2].take (j+1)) (ys++[v]):=fun v hv=>by
                          rw [aay,hk];exact Paired.app bl (.cons hv .nil)
                        refine ⟨_,rfl,(by show 3≤sizeLine;decide),fun pq npq=>?_⟩;have spq:=Same.new npq (.lst [V.bl false,.bl true,x]);refine ⟨_,rfl,_,_,2,k,rfl,.inl rfl,bk,?_⟩;by_cases ck:k < 2
                        · rw [if_pos ck];have : k=0∨k=1:=by lia
                          rcases this with rfl|rfl
                          · exact ⟨pq,_,0,.bl false,rfl,bk,SqL.of ad,rfl,by decide,nx _ _ ⟨S.trans spq,stepT _ (.inr ⟨false,rfl,rfl⟩)⟩⟩
                          · exact ⟨pq,_,1,.bl true,rfl,bk,SqL.of ad,rfl,by decide,nx _ _ ⟨S.trans spq,stepT _ (.inr ⟨true,rfl,rfl⟩)⟩⟩
                        · rw [if_neg ck];exact ⟨pq,_,2,x,rfl,.inl rfl,SqL.of ad,rfl,by decide,nx _ _ ⟨S.trans spq,stepT _ bk⟩⟩
                      · obtain ⟨S,bl⟩:=p;rw [lx1] at bl;have s5:=Same.new n5 (.lst ys);refine ⟨p5,ys,rfl,.inl ⟨SqL.of ad,fun l nl=>?_⟩⟩;have sl':=(S.trans s5).trans (Same.new nl (.tup ys));have el:upd (upd H' p5 (.lst ys)) l (.tup ys) l=some (.tup ys):=ad;have bn10:=bn9.same sl';have epv10:=sl' _ _ epv;have wl10:l≠wl:=(bn9.pot.keep (S.trans s5)).ne nl;have ld10:l≠d:=fun z=>by have:=(S.trans s5) _ _ bn9.dm.at_;rw [z,this] at nl;cases nl
                        generalize upd (upd H' p5 (.lst ys)) l (.tup ys)=H10 at sl' el bn10 epv10 ⊢;have hkl:MkIn H10 (.tup [q1.1,q1.2]) (.ref l):=⟨l,ys,rfl,el,bl⟩
                        have gkl:Good (bL wl d H10) (.ref l):=mH hkl rfl (fun k hk=>by
                          simp only [aai,aaP,or_false] at hk;rcases hk with rfl|rfl <;> lia) (by show 2≤4;decide) bn10.pot bn10.dm.at_ fH
                        have gvl:Good (bL wl d H10) (.ref pv):=iz hB epv10 (by lia) (by lia) bn10.pot bn10.dm.at_ fH;refine ⟨d,dt ks e1.1,_,rfl,bn10.dm,hkl,by lia,?_⟩;exact ⟨_,rfl,bn10.put nD dw hkl gkl gvl (by lia),aaE (di _ _ _ _) (by lia)⟩
                  · exact tl
                case tt =>
                  refine (fun (tl:(?R2:Prop))=>?mn2) ?tt2
                  case mn2 =>
                    refine ⟨_,rfl,rfl,_,rfl,g_ (fun c6=>?_) (fun c6=>aB ?_)⟩
                    · refine ⟨_,rfl,_,rfl,a,_,rfl,⟨es8,e1.1,pd8,hk1',rfl⟩,_,rfl,?_⟩;rcases kH hes8 e1.1 with z|⟨q1,hq1,ek1,t1,z,ht1⟩
                      · rw [z];refine aB (aB ?_);exact tl
                      · rw [z];refine aI ⟨_,rfl,_,rfl,a,_,rfl,⟨es8,e2.1,pd8,hk2',rfl⟩,_,rfl,?_⟩;rcases kH hes8 e2.1 with z2|⟨q2,hq2,ek2',t2',z2,ht2⟩
                        · rw [z2];refine aB ?_;exact tl
                        · rw [z2];refine aI ?_;obtain ⟨x1,x2⟩:=hq q1 hq1;have x3:=hX n9 hq1;obtain ⟨y1,y2⟩:=hq q2 hq2;have y3:=hX n9 hq2;have hC:(10:Nat) ^ 270 < 10 ^ 280:=by decide +kernel
                          have g1:Good (bL wl d H8) (.ref t1):=iz hC ht1 (by lia) (by lia) hP8 bn8.dm.at_ fH;have g2:Good (bL wl d H8) (.ref t2'):=iz hC ht2 (by lia) (by lia) hP8 bn8.dm.at_ fH;refine ⟨_,rfl,_,rfl,a,_,rfl,⟨es8,e2.1,pd8,hk2',z2.symm⟩,_,rfl,_,rfl,a,_,rfl,⟨es8,e1.1,pd8,hk1',z.symm⟩,t2,fun pt npt=>?_⟩;have spt:=Same.new npt (.tup [V.ref t2',.ref t1]);have ept:upd H8 pt (.tup [V.ref t2',.ref t1]) pt=_:=ad;have bn9:=bn8.same spt;have g1:=g1.mono (cY spt);have g2:=g2.mono (cY spt);generalize upd H8 pt (.tup [V.ref t2',.ref t1])=H9 at spt ept bn9 g1 g2 ⊢;have bn10:=bn9.put (k:=e1.1) nD dw (bn9.dm.keys _ m1) (bn9.vo _ m1).1 g2 (by lia);have hk2'':MkIn (upd H9 d (dmX w d (ci ks e1.1 e1.2.1 (.ref t2')))) e2.1 e2.2.1:=(bn9.dm.keys _ m2).mono fun b xs e=>by rw [aq (fun z=>by rw [z,bn9.dm.at_] at e;cases e)];exact e
                          have gy2':Good (bL wl d (upd H9 d (dmX w d (ci ks e1.1 e1.2.1 (.ref t2'))))) e2.2.1:=by rw [gz];exact (bn9.vo _ m2).1
                          have g1':Good (bL wl d (upd H9 d (dmX w d (ci ks e1.1 e1.2.1 (.ref t2'))))) (.ref t1):=by rw [gz];exact g1
                          have lq:=di ks e1.1 e1.2.1 (.ref t2');have lq2:(ci (ci ks e1.1 e1.2.1 (.ref t2')) e2.1 e2.2.1 (.ref t1)).length≤45+(i+1):=by
                            have a1:=tG (v:=.ref t2') bn9.dm.nd m1;have a2:∃ e0∈ci ks e1.1 e1.2.1 (.ref t2'),e0.1=e2.1:=q_ m2;have a3:=lX (v:=.ref t1) (y:=e2.2.1) a2;lia
                          refine ⟨pt,_,rfl,SqT.of ept,rfl,_,_,rfl,_,rfl,_,rfl,d,ks,e1.1,rfl,bn9.dm,bn9.dm.keys _ m1,by lia,?_⟩;refine ⟨_,_,rfl,_,rfl,_,rfl,d,_,e2.1,rfl,bn10.dm,hk2'',by lia,rfl,?_⟩;exact ⟨_,rfl,bn10.put nD dw hk2'' gy2' g1' (by lia),lq2⟩
                    · exact tl
                  case tt2=>exact ⟨_,rfl,bn8,by lia⟩
    · rintro σ H9 ⟨ks9,rfl,bn9,l9⟩;refine ⟨_,rfl,fun pe npe=>?_⟩;have spe:=Same.new npe (.dK []);have bn10:=bn9.same spe;have epe:upd H9 pe (.dK []) pe=some (.dK []):=ad;refine ⟨d,pe,ks9,rfl,rfl,bn10.dm,epe,_,rfl,?_⟩;cases ks9 with
      | nil=>exact aI ⟨_,rfl,q d [] _ bn10.but bn10.pot nD bn10.dm (fun e he=>nomatch he) (aaU _)⟩
      | cons e0 ks9=>exact aB ⟨e0 :: ks9,_,_,_,_,_,_,_,_,rfl,bn10.but,bn10.pot,bn10.dm,bn10.vo,(fun z=>nomatch z),l9⟩
  · rintro σ H3 ⟨ks,c3,c4,c5,c6,c7,c8,c9,ca,rfl,B3,hP3,dm3,vo3,ne3,l3⟩;exact ⟨_,rfl,q d ks H3 B3 hP3 nD dm3 (vo3.mono off_le) (by lia)⟩
end
open PySem L2
theorem Pd.butL {w:World} {p:Addr} {H H':Hp} {xs:List V} (b:But p H H') (hp:H p=some (.lst xs)) {a:Addr} {es:List (MK × V)} (h:Pd w H a es):Pd w H' a es:=by
  have g:∀ c o,(∀ ys,o≠.lst ys)→H c=some o→H' c=some o:=fun c o n e=>b _ _ (fun z=>by rw [z,hp] at e;injection e with e;exact n _ e.symm) e;rcases h with ⟨kvs,h,e⟩|⟨kvs,h,e⟩|⟨h,e⟩
  · exact .inl ⟨kvs,g _ _ (fun _ z=>nomatch z) h,e⟩
  · exact .inr (.inl ⟨kvs,⟨g _ _ (fun _ z=>nomatch z) h.at_,fun q hq=>(h.keys q hq).mono fun c xs=>g c _ (fun _ z=>nomatch z),h.nd,h.len⟩,e⟩)
  · exact .inr (.inr ⟨g _ _ (fun _ z=>nomatch z) h,e⟩)
theorem iO:∀ n,n≤9→(sfl n n).length=n * (n+1) / 2:=by decide +kernel
theorem jb {α:Type} [DecidableEq α]:∀ {l r:List α},l.Nodup→(∀ x∈l,x∈r)→l.length≤r.length
  | [],_,_,_=>aaU _
  | a :: l,r,h,s=>by
    obtain ⟨h1,h2⟩:=aba.mp h;have ha:=s a aat;have:=jb (r:=r.erase a) h2 fun x hx=>(List.mem_erase_of_ne (fun e=>h1 (by rw [← e];exact hx))).mpr (s x (aak _ hx));rw [List.length_erase_of_mem ha] at this;have:=ab2 ha;simp only [aaY];lia
theorem jW {d:PyData}:a8 d=(prD d).isSome:=by rw [rh]
def gtP (ps:PPa) (q:Int × Int):PyData:=(lkP ps q).getD .none
theorem r9 {ns:List Int} {gs:List Sg} {ps:PPa} {q:Int × Int} (h0:0≤q.1) (h1:q.1≤q.2) (h2:q.2 < ns.length) (h:a8 (gtP ps q)=false):cT ns gs ps=false:=by
  unfold cT;cases e:lkP ps q with
  | none =>
    have : ir ns.length (some ps)=false:=by
      rw [cy,Bool.and_eq_false_iff];refine .inr (ace.mpr ⟨q,ng h0 h1 h2,?_⟩);rw [e];exact aad
    rw [this];rfl
  | some d =>
    have e2:gtP ps q=d:=by unfold gtP;rw [e];rfl
    rw [e2,jW] at h;have : ps.all (fun p=>(prD p.2).isSome)=false:=ace.mpr ⟨_,gA e,by rw [show (MK.tup [q.1,q.2],d).2=d from rfl,h];exact aad⟩;rw [this,acH,abZ]
theorem r8 {ns:List Int} {gs:List Sg} {ps:PPa} {q:Int × Int} (h0:0≤q.1) (h1:q.1≤q.2) (h2:q.2 < ns.length) (h:fI ns gs (EP ps) q=false):cT ns gs ps=false:=by
  unfold cT;rw [show (sfl ns.length ns.length).all (fI ns gs (EP ps))=false from ace.mpr ⟨q,ng h0 h1 h2,by rw [h];exact aad⟩,acH]
theorem r_ {ns:List Int} {gs:List Sg} {ps:PPa} (h9:ns.length≤9) (h:ps.length≠ns.length * (ns.length+1) / 2):cT ns gs ps=false:=by
  unfold cT;rw [cy,iO _ h9,decide_eq_false h];rfl
theorem nX {n:Nat} {ps:PPa} (h9:n≤9) (nd:(ps.map (·.1)).Nodup) (hl:ps.length=n * (n+1) / 2) (h:∀ q:Int × Int,0≤q.1→q.1≤q.2→q.2 < n→a8 (gtP ps q)=true):ir n (some ps)=true∧ps.all (fun p=>(prD p.2).isSome)=true:=by
  have at_:∀ q∈sfl n n,∃ d,lkP ps q=some d∧(prD d).isSome=true:=fun q hq=>by
    obtain ⟨h0,h1,h2⟩:=iP n q hq;have:=h q h0 h1 h2;cases e:lkP ps q with
    | none=>rw [show gtP ps q=.none by unfold gtP;rw [e];rfl] at this;cases this
    | some d=>rw [show gtP ps q=d by unfold gtP;rw [e];rfl,jW] at this;exact ⟨d,rfl,this⟩
  have h1:ir n (some ps)=true:=by
    rw [cy,iO _ h9,decide_eq_true hl,abk,aaV];intro q hq;obtain ⟨d,e,_⟩:=at_ q hq;rw [e];rfl
  refine ⟨h1,List.all_eq_true.mpr fun p hp=>?_⟩;by_cases c:∃ q∈sfl n n,p.1=.tup [q.1,q.2]
  · obtain ⟨q,hq,e⟩:=c;obtain ⟨d,e2,e3⟩:=at_ q hq;have hm:=gA e2;have : p=(MK.tup [q.1,q.2],d):=by
      obtain ⟨i,hi⟩:=List.getElem?_of_mem hp;obtain ⟨j,hj⟩:=List.getElem?_of_mem hm;have a1:(ps.map (·.1))[i]?=some (MK.tup [q.1,q.2]):=by rw [aao,hi,← e];rfl
      have a2:(ps.map (·.1))[j]?=some (MK.tup [q.1,q.2]):=by rw [aao,hj];rfl
      have il:=(aaT.mp a1).1;have:=(List.getElem?_inj il nd).mp (a1.trans a2.symm);subst this;exact aal (hi.symm.trans hj)
    rw [this];exact e3
  · exfalso
    have big:=jb (l:=p.1 :: (sfl n n).map fun q=>MK.tup [q.1,q.2]) (r:=ps.map (·.1)) (by
      refine List.nodup_cons.mpr ⟨fun z=>?_,?_⟩
      · obtain ⟨q,hq,e⟩:=aan.mp z;exact c ⟨q,hq,e.symm⟩
      · refine List.Pairwise.map _ (fun a b hab z=>hab ?_) (pZ n h9);injection z with z
        injection z with z1 z
        injection z with z2
        exact Prod.ext z1 z2) (fun x hx=>by
      rcases aai.mp hx with rfl|hx
      · exact abo hp
      · obtain ⟨q,hq,rfl⟩:=aan.mp hx;obtain ⟨d,e2,_⟩:=at_ q hq;exact aan.mpr ⟨_,gA e2,rfl⟩)
    simp only [aaY,aab,iO n h9] at big;lia
theorem xj {E:Int × Int→Int × Int} {ns:List Int} {gs:List Sg} {q:Int × Int} {x:Int} (h:q.1≤q.2):x∈fnE E ns gs q↔x∈wiL E ns gs q:=by
  unfold fnE wiL;by_cases e:q.1=q.2
  · have : fA E gs q=[]:=by
      unfold fA bj;rw [show (q.2 - q.1).toNat=0 by lia];rfl
    rw [if_pos e,if_pos e,this,List.append_nil]
  · rw [if_neg e,if_neg e,List.nil_append,mem_je]
section
variable {P:Program} {w:World} {K:aaa} {mg:Str→Option Value} {base:Heap} {f:Addr} {fd:FuncData}
def mW (w:World) (K:aaa):Sp:=fun vs H Q _=>∃ (r:Addr) (ns:List Int) (gs:List Sg) (t:Option PPa) (v:V),vs=[.ref r,.str (al gs),v]∧H r=some (.lst (ns.map V.int))∧1≤ns.length∧ns.length≤9∧1≤gs.length∧gs.length≤3∧ThIn w K H t v∧(∀ ps,t=some ps→OkP ps∧(ps.map (·.1)).Nodup) ∧
  ∀ H',Same H H'→(cI ns gs t=none→Q .non H')∧(∀ e tt,cI ns gs t=some e→H' tt=some (.tup [.int e.1,.int e.2])→Q (.ref tt) H')
abbrev fe:Stmt:=top 45
theorem aU:FnScope ["row","signs","thing","many","i","j","pair","some","k","one","other"] ["row","signs","thing"] (am fe):=⟨rfl,rfl,rfl,by decide +kernel,rfl,by decide +kernel,by decide +kernel⟩
theorem mf (F:Fun K "_law_said" "_law_said" fe f fd) (B:Bu K mg) (C__law_put:Cal P w K mg base "_law_put" 1 ["sign","one","other"] gF) (C__law_is_pair:Cal P w K mg base "_law_is_pair" 1 ["thing"] gH):FnOk P w K mg base CX0 2 f fd ["row","signs","thing"] (mW w K):=by
  refine F.ok aU (fun vs H Q E h=>?_) (fun cdv A outer s H vs Q E0 hr h=>?_)
  · obtain ⟨r,ns,gs,t,v,rfl,_⟩:=h;rfl
  obtain ⟨r,ns,gs,t,v,rfl,er,n1,n9,g1,g3,ht,hok,qq⟩:=h;refine ⟨_,(@af _ _ _ _ _ (@av _ _ (3) _ _ _ _ (aU).nd rfl (Or.inl rfl) (@ak _ _ _ _ _ _ _ _ _ ay rfl B.ilen aaO (@aa _ _ _ _ _ (pv 0) ac (by rfl)) (by decide) (by decide) (by rfl) (by rfl)) (by rfl) (by first|exact .inl rfl|exact .inr rfl|assumption)) (@af _ _ _ _ _ (@aY _ _ _ _ _ _ _ _ (@PW.pt _ _ _ (@gj _ _ _ _ _ _ _ (@bT _ _ _ _ (@bh _ _ _ (@ak _ _ _ _ _ _ _ _ _ (@gB _ ("dict") (w) _ rfl rfl) rfl B.iisinstance aap (@aa _ _ _ _ _ (pv 2) (@aa _ _ _ _ _ (@bu _ _ (.ty "dict") _ _ rfl B.idict acB rfl (by decide) (by decide)) ac (by rfl)) (by rfl)) (by decide) (by decide) (by rfl) (by rfl)) (by intro _;rfl))) (@fi _ _ _ _ (@aF _ _ _ _ _ _ _ _ rD (@ak _ _ _ _ _ _ _ _ _ (@jZ _ (w) rfl) rfl B.ilen aaO (@aa _ _ _ _ _ (pv 2) ac (by rfl)) (by decide) (by decide) (by rfl) (by rfl)) (@ap _ _ _ _ _ _ _ _ iY (@ap _ _ _ _ _ _ _ _ dq (pv 3) (@ap _ _ _ _ _ _ _ _ bf (pv 3) ae)) ae) (az _))))) (@ag _ _ _ (@ar _ _ _ _ bO)) aG) (@af _ _ _ _ _ (@bb _ _ _ _ _ _ _ _ aaz rfl (@bz _ _ _ _ _ _ rfl B.irange (@aa _ _ _ _ _ (pv 3) ac (by rfl)) (by rfl)) (@aj _ _ (4) _ (aU).nd rfl (Or.inl rfl) (.inl rfl)) (@ag _ _ _ (@bb _ _ _ _ _ _ _ _ aaz rfl (@cu _ _ _ _ _ _ _ rfl B.irange (@aa _ _ _ _ _ (pv 4) (@aa _ _ _ _ _ (pv 3) ac (by rfl)) (by rfl)) (by rfl) (by rfl)) (@aj _ _ (5) _ (aU).nd rfl (Or.inl rfl) (.inl rfl)) (@af _ _ _ _ _ (@av _ _ (6) _ _ _ _ (aU).nd rfl (Or.inl rfl) (@l4 _ _ _ _ _ _ _ _ _ (w) rfl (u1 hr.units) (pv 2) (@au _ _ _ _ _ (@aa _ _ _ _ _ (pv 4) (@aa _ _ _ _ _ (pv 5) ac (by rfl)) (by rfl))) bO ⟨rfl,rfl,rfl,rfl⟩) (by rfl) (by first|exact .inl rfl|exact .inr rfl|assumption)) (@ag _ _ _ (@aY _ _ _ _ _ _ _ _ (@bT _ _ _ _ (@bh _ _ _ (@ah _ _ _ _ _ _ _ _ _ _ _ C__law_is_pair hr (by lia) rfl (@aa _ _ _ _ _ (pv 6) ac (by rfl)) (by decide) (by rfl) (by rfl)) (by intro _;rfl))) (@ag _ _ _ (@ar _ _ _ _ bO)) aG))) (by intro _;rfl))) (by intro _;rfl)) (@af _ _ _ _ _ (@bb _ _ _ _ _ _ _ _ aaz rfl (@bz _ _ _ _ _ _ rfl B.irange (@aa _ _ _ _ _ (pv 3) ac (by rfl)) (by rfl)) (@aj _ _ (4) _ (aU).nd rfl (Or.inl rfl) (.inl rfl)) (@ag _ _ _ (@bb _ _ _ _ _ _ _ _ aaz rfl (@cu _ _ _ _ _ _ _ rfl B.irange (@aa _ _ _ _ _ (pv 4) (@aa _ _ _ _ _ (pv 3) ac (by rfl)) (by rfl)) (by rfl) (by rfl)) (@aj _ _ (5) _ (aU).nd rfl (Or.inl rfl) (.inl rfl)) (@af _ _ _ _ _ (@av _ _ (7) _ _ _ _ (aU).nd rfl (Or.inl rfl) (@ap _ _ _ _ _ _ _ _ kJ (@aJ _ _ _ _ (@aa _ _ _ _ _ (@aM _ _ _ _ _ _ _ aQ (pv 0) (pv 4) (fun _ _=>rfl)) ac (by rfl))) (@bo _ _ _ _ _ _ _ _ _ cA rfl B.iint aa3 (@aa _ _ _ _ _ (@aO _ _ _ _ _ _ _ _ bw (pv 4) (pv 5) (az _)) ac (by rfl)) (by decide) (by decide) (by rfl) (by rfl))) (by rfl) (by first|exact .inl rfl|exact .inr rfl|assumption)) (@af _ _ _ _ _ (@bb _ _ _ _ _ _ _ _ aaz rfl (@cu _ _ _ _ _ _ _ rfl B.irange (@aa _ _ _ _ _ (pv 4) (@aa _ _ _ _ _ (pv 5) ac (by rfl)) (by rfl)) (by rfl) (by rfl)) (@aj _ _ (8) _ (aU).nd rfl (Or.inl rfl) (.inl rfl)) (@ag _ _ _ (@bb _ _ _ _ _ _ _ _ aaz rfl (@eJ _ _ _ _ (@bY _ _ _ _ _ _ (w) rfl (u1 hr.units) (pv 2) (@au _ _ _ _ _ (@aa _ _ _ _ _ (pv 4) (@aa _ _ _ _ _ (pv 8) ac (by rfl)) (by rfl))) (fun _ _=>rfl))) (@aj _ _ (9) _ (aU).nd rfl (Or.inr rfl) (.inl rfl)) (@ag _ _ _ (@bb _ _ _ _ _ _ _ _ aaz rfl (@eJ _ _ _ _ (@bY _ _ _ _ _ _ (w) rfl (u1 hr.units) (pv 2) (@au _ _ _ _ _ (@aa _ _ _ _ _ (@ap _ _ _ _ _ _ _ _ bf (pv 8) ae) (@aa _ _ _ _ _ (pv 5) ac (by rfl)) (by rfl))) (fun _ _=>rfl))) (@aj _ _ (10) _ (aU).nd rfl (Or.inr rfl) (.inl rfl)) (@ag _ _ _ (@bS _ _ _ _ (@iW _ _ _ _ _ _ _ _ _ _ _ _ aa5 abT abU fG (pv 7) (@aa _ _ _ _ _ (@bZ _ _ _ _ _ _ _ _ (["sign","one","other"]) ([none,some 9,some 10]) _ _ _ _ rfl (@gR _ _ _ _ (pv 1)) rfl ⟨rfl,⟨rfl,trivial⟩⟩ ⟨⟨rfl,Or.inl rfl,Or.inl rfl⟩,⟨⟨rfl,Or.inl rfl,Or.inl rfl⟩,trivial⟩⟩ (fun _ _ _ _=>⟨(@aj _ _ (0) _ (show aaX (["sign","one","other"]:List Str) by decide +kernel) rfl (Or.inl rfl) (.inr rfl)),aH,(@ah _ _ _ _ _ _ _ _ _ _ _ C__law_put hr (by lia) rfl (@aa _ _ _ _ _ (pv 0) (@aa _ _ _ _ _ (pv 1) (@aa _ _ _ _ _ (pv 2) ac (by rfl)) (by rfl)) (by rfl)) (by decide) (by rfl) (by rfl))⟩) (by rfl) (by rfl) (by rfl) (by rfl) (by intro _;rfl)) ac (by rfl)) (by rfl) (by rfl) (by rfl) (by rfl) (by rfl)) (by rfl))) (by intro _;rfl))) (by intro _;rfl))) (by intro _;rfl)) (@ag _ _ _ (@aY _ _ _ _ _ _ _ _ (@bT _ _ _ _ (@qe _ _ _ _ _ _ _ _ _ _ _ _ _ _ _ _ ic ic ic (@aM _ _ _ _ _ _ _ bP (@bY _ _ _ _ _ _ (w) rfl (u1 hr.units) (pv 2) (@au _ _ _ _ _ (@aa _ _ _ _ _ (pv 4) (@aa _ _ _ _ _ (pv 5) ac (by rfl)) (by rfl))) (fun _ _=>rfl)) ae (fun _ _=>rfl)) (@ak _ _ _ _ _ _ _ _ _ (@dS _ rfl) rfl B.imin abv (@aa _ _ _ _ _ (pv 7) ac (by rfl)) (by decide) (by decide) (by rfl) (by rfl)) (@ak _ _ _ _ _ _ _ _ _ (@dU _ rfl) rfl B.imax abJ (@aa _ _ _ _ _ (pv 7) ac (by rfl)) (by decide) (by decide) (by rfl) (by rfl)) (@aM _ _ _ _ _ _ _ bP (@bY _ _ _ _ _ _ (w) rfl (u1 hr.units) (pv 2) (@au _ _ _ _ _ (@aa _ _ _ _ _ (pv 4) (@aa _ _ _ _ _ (pv 5) ac (by rfl)) (by rfl))) (fun _ _=>rfl)) ae (fun _ _=>rfl)) (by with_unfolding_all rfl))) (@ag _ _ _ (@ar _ _ _ _ bO)) aG)))) (by intro _;rfl))) (by intro _;rfl)) (@ag _ _ _ (@ar _ _ _ _ (@bY _ _ _ _ _ _ (w) rfl (u1 hr.units) (pv 2) (@au _ _ _ _ _ (@aa _ _ _ _ _ ae (@aa _ _ _ _ _ (@ap _ _ _ _ _ _ _ _ dn (pv 3) ae) ac (by rfl)) (by rfl))) (fun _ _=>rfl)))))))),?_⟩;have hl:(ns.map V.int).length=ns.length:=aab _;have gne:gs≠[]:=fun z=>by rw [z] at g1;simp at g1
  have t2:(2:Nat)≤sizeLine:=by decide
  refine ⟨_,rfl,r,_,rfl,.inl (SqL.of er),?_⟩;rw [hl];cases t with
  | none =>
    obtain ⟨n,ty,hk⟩:=ht;exact ⟨_,rfl,_,_,false,rfl,.inl ty,hk,false,rfl,aI ((qq _ (Same.refl _)).1 rfl)⟩
  | some ps =>
  obtain ⟨hokp,hnd⟩:=hok ps rfl;obtain ⟨d,rfl,hpa⟩:=ht;obtain ⟨es,pd,hes⟩:=id hpa;have lk:es.length=ps.length:=(aaC hes).symm;have mul9:ns.length * (ns.length+1)≤9 * 10:=acj n9 (by lia);refine ⟨_,rfl,_,_,true,rfl,.inr ⟨d,es,rfl,pd,rfl⟩,rfl,true,rfl,aB ⟨_,rfl,d,es,rfl,pd,_,rfl,_,rfl,_,_,rfl,rfl,_,_,rfl,rfl,.inl ⟨by lia,by lia⟩,_,_,rfl,rfl,⟨by decide,by decide⟩,?_⟩⟩;rw [lk];have hz:((ns.length:Int) * ((ns.length:Int)+1)) / 2=((ns.length * (ns.length+1) / 2:Nat):Int):=by
    have e:((ns.length * (ns.length+1):Nat):Int)=(ns.length:Int) * ((ns.length:Int)+1):=by rw [Int.natCast_mul];rfl
    rw [← e];lia
  show rNe (V.int (ps.length:Nat)) (V.int (((ns.length:Int) * ((ns.length:Int)+1)) / 2)) H _;rw [hz];refine ⟨rfl,_,rfl,?_⟩;by_cases c:ps.length=ns.length * (ns.length+1) / 2
  case neg =>
    have e:=fD (r_ (gs:=gs) n9 c);have cz:¬ V.int (ps.length:Nat)=V.int ((ns.length * (ns.length+1) / 2:Nat):Int):=fun z=>c (by have:=V.int.inj z;lia);show if (!decide (V.int (ps.length:Nat)=V.int ((ns.length * (ns.length+1) / 2:Nat):Int)))=true then _ else _
    rw [decide_eq_false cz];exact aI ((qq _ (Same.refl _)).1 e)
  refine rS (by rw [c]) ?_;have hlr:ns.length < 2 ^ 60:=by lia
  refine ⟨_,rfl,_,rfl,by lia,by lia,?_⟩;refine bq (n:=((ns.length:Nat):Int).toNat) (fun a σ H'=>∃ (c4 c5 c6 c7 c8 c9 ca:Option V),σ=[some (.ref r),some (.str (al gs)),some (.ref d),some (.int (ns.length:Nat)),c4,c5,c6,c7,c8,c9,ca]∧Same H H'∧∀ q:Int × Int,0≤q.1→q.1 < (a:Int)→q.1≤q.2→q.2 < ns.length→a8 (gtP ps q)=true) ⟨_,_,_,_,_,_,_,rfl,Same.refl _,fun q a b=>absurd b (by lia)⟩ ?_ ?_
  · rintro a σ H1 ha ⟨c4,c5,c6,c7,c8,c9,ca,rfl,S1,h1⟩;obtain ⟨i0,hi0⟩:∃ i0:Int,(0:Int)+(a:Int)=i0:=⟨_,rfl⟩
    rw [hi0];have hai:(a:Int)=i0:=by lia
    refine ⟨_,rfl,_,rfl,i0,(ns.length:Int),rfl,⟨by lia,by lia,by lia,by lia⟩,?_⟩;refine bq (n:=((ns.length:Int) - i0).toNat) (fun b σ H'=>∃ (c5 c6 c7 c8 c9 ca:Option V),σ=[some (.ref r),some (.str (al gs)),some (.ref d),some (.int (ns.length:Nat)),some (.int i0),c5,c6,c7,c8,c9,ca]∧Same H H'∧∀ b':Int,i0≤b'→b' < i0+(b:Int)→a8 (gtP ps (i0,b'))=true) ⟨_,_,_,_,_,_,rfl,S1,fun b' x y=>absurd y (by lia)⟩ ?_ ?_
    · rintro b σ H2 hb ⟨c5,c6,c7,c8,c9,ca,rfl,S2,h2⟩;obtain ⟨j,hj⟩:∃ j:Int,i0+(b:Int)=j:=⟨_,rfl⟩
      rw [hj] at h2 ⊢;refine ⟨_,rfl,d,es,rfl,pd.mono S2,_,rfl,_,rfl,t2,fun k1 nk1=>?_⟩;have sk:=Same.new nk1 (.tup [.int i0,.int j]);have S3:=S2.trans sk;have ek1:upd H2 k1 (.tup [.int i0,.int j]) k1=_:=ad;generalize upd H2 k1 (.tup [.int i0,.int j])=H3 at sk S3 ek1 ⊢;have hd:Dat H3 (gtP ps (i0,j)) ((bB es (.tup [i0,j])).getD .non):=by
        unfold gtP;rcases nC hes (i0,j) with ⟨e1,e2⟩|⟨dd,v,e1,e2,h⟩
        · rw [e1,show bB es (.tup [i0,j])=none from e2];simp only [Option.getD_none,Dat]
        · rw [e1,show bB es (.tup [i0,j])=some v from e2];exact Dat.mono S3 _ _ h
      refine ⟨_,⟨es,_,pd.mono S3,MkIn.pair (i:=i0) (j:=j) ek1,rfl⟩,?_⟩;refine ⟨_,rfl,_,_,rfl,hd,fun H4 s4=>⟨_,rfl,?_⟩⟩;have S4:=S3.trans s4;cases hp:a8 (gtP ps (i0,j)) with
      | false=>exact aI ((qq _ S4).1 (fD (r9 (q:=(i0,j)) (by simp only;lia) (by simp only;lia) (by simp only;lia) hp)))
      | true =>
        refine aB ⟨_,_,_,_,_,_,rfl,S4,fun b' x y=>?_⟩;by_cases z:b' < j
        · exact h2 b' x z
        · have : b'=j:=by lia
          rw [this];exact hp
    · rintro σ H2 ⟨c5,c6,c7,c8,c9,ca,rfl,S2,h2⟩;refine ⟨_,_,_,_,_,_,_,rfl,S2,fun q q0 q1 q2 q3=>?_⟩;by_cases z:q.1 < (a:Int)
      · exact h1 q q0 z q2 q3
      · have e:q.1=i0:=by lia
        have:=h2 q.2 (by lia) (by lia)
        rwa [← e] at this
  rintro σ H2 ⟨c4,c5,c6,c7,c8,c9,ca,rfl,S2,h2⟩;obtain ⟨hh,hpr⟩:=nX n9 hnd c (fun q a b z=>h2 q a (by lia) b z);have hG:=(rY hpa hh hpr).mono S2;have hB:=uF hokp;have e0:=lQ (ns:=ns) (gs:=gs) (ps:=ps);have e1:∀ {q:Int × Int},0≤q.1→q.1≤q.2→q.2 < ns.length→fI ns gs (EP ps) q=false→cI ns gs (some ps)=none:=fun a b c d=>fD (r8 a b c d);obtain ⟨E,hE⟩:∃ E,EP ps=E:=⟨_,rfl⟩
  rw [hE] at hG hB e1;refine ⟨_,rfl,_,rfl,by lia,by lia,?_⟩;refine bq (n:=((ns.length:Nat):Int).toNat) (fun a σ H'=>∃ (c4 c5 c6 c7 c8 c9 ca:Option V),σ=[some (.ref r),some (.str (al gs)),some (.ref d),some (.int (ns.length:Nat)),c4,c5,c6,c7,c8,c9,ca]∧Same H2 H'∧∀ q:Int × Int,0≤q.1→q.1 < (a:Int)→q.1≤q.2→q.2 < ns.length→fI ns gs E q=true) ⟨_,_,_,_,_,_,_,rfl,Same.refl _,fun q a b=>absurd b (by lia)⟩ ?_ ?_
  · rintro a σ H1 ha ⟨c4,c5,c6,c7,c8,c9,ca,rfl,S1,h1⟩;obtain ⟨i0,hi0⟩:∃ i0:Int,(0:Int)+(a:Int)=i0:=⟨_,rfl⟩
    rw [hi0];have hai:(a:Int)=i0:=by lia
    refine ⟨_,rfl,_,rfl,i0,(ns.length:Int),rfl,⟨by lia,by lia,by lia,by lia⟩,?_⟩;refine bq (n:=((ns.length:Int) - i0).toNat) (fun b σ H'=>∃ (c5 d6 c7 c8 c9 ca:Option V),σ=[some (.ref r),some (.str (al gs)),some (.ref d),some (.int (ns.length:Nat)),some (.int i0),c5,d6,c7,c8,c9,ca]∧Same H2 H'∧∀ b':Int,i0≤b'→b' < i0+(b:Int)→fI ns gs E (i0,b')=true) ⟨_,_,_,_,_,_,rfl,S1,fun b' x y=>absurd y (by lia)⟩ ?_ ?_
    · rintro b σ H4 hb ⟨c5,d6,c7,c8,c9,ca,rfl,S4,hok4⟩;obtain ⟨j,hj⟩:∃ j:Int,i0+(b:Int)=j:=⟨_,rfl⟩
      rw [hj] at hok4 ⊢;obtain ⟨q0,eq0⟩:∃ q0:Int × Int,q0=(i0,j):=⟨_,rfl⟩
      have q1:q0.1=i0:=by rw [eq0]
      have q2:q0.2=j:=by rw [eq0]
      have i0a:0≤i0:=by lia
      have i0j:i0≤j:=by lia
      have hix:i0.toNat < ns.length:=by lia
      have eat:atI (ns.map V.int) i0=some (.int (ns.getD i0.toNat 0)):=by
        have h:atI (ns.map V.int) ((i0.toNat:Nat):Int)=some (.int (ns.getD i0.toNat 0)):=cG (by rw [aao,aac hix,aaG,aac hix];rfl)
        rwa [show ((i0.toNat:Nat):Int)=i0 by lia] at h
      have er4:=S4 _ _ (S2 _ _ er);refine ⟨_,rfl,_,rfl,r,_,_,_,rfl,rfl,SqL.of er4,eat,?_⟩;refine ⟨(by show 1≤sizeLine;decide),fun p1 n1=>⟨_,rfl,_,rfl,rfl,.inr ⟨_,rfl,p1,_,_,rfl,rfl,ad,by split <;> decide,by split <;> decide,(by split <;> first|(show 1 * 1≤sizeLine;decide)|(show 1 * 0≤sizeLine;decide)),fun ps nps=>?_⟩⟩⟩;obtain ⟨b0,hb0⟩:∃ b0:List Int,(if q0.1=q0.2 then [ns.getD q0.1.toNat 0] else [])=b0:=⟨_,rfl⟩
      have eb0:(aaQ (if decide (V.int i0=V.int j)=true then (1:Int) else 0).toNat [V.int (ns.getD i0.toNat 0)]).flatten=b0.map V.int:=by
        rw [← hb0,q1,q2];by_cases c:i0=j
        · rw [decide_eq_true (by rw [c]),if_pos c];rfl
        · rw [decide_eq_false (fun z=>c (by injection z)),if_neg c];rfl
      rw [eb0];have lb0:b0.length≤1:=by rw [← hb0];split <;> simp
      have s5:=(Same.new n1 (.lst [V.int (ns.getD i0.toNat 0)])).trans (Same.new nps (.lst (b0.map V.int)));have nps4:H4 ps=none:=(Same.new n1 (.lst [V.int (ns.getD i0.toNat 0)])).free nps;have e6:upd (upd H4 p1 (.lst [V.int (ns.getD i0.toNat 0)])) ps (.lst (b0.map V.int)) ps=some (.lst (b0.map V.int)):=ad;generalize upd (upd H4 p1 (.lst [V.int (ns.getD i0.toNat 0)])) ps (.lst (b0.map V.int))=H5 at s5 e6 ⊢;have hG5:=(hG.mono S4).mono s5;have look:∀ {H':Hp} {q':Int × Int} {k:Addr},But ps H5 H'→0≤q'.1→q'.1≤q'.2→q'.2 < ns.length→H' k=some (.tup [.int q'.1,.int q'.2])→∃ t,sV w H' d (.ref k) (some (.ref t))∧H' t=some (.tup [.int (E q').1,.int (E q').2]):=fun {H' q' k} b z0 z1 z2 hk=>by
        obtain ⟨es,pd,hg⟩:=hG5;obtain ⟨t,v1,v2⟩:=hg q' z0 z1 z2;exact ⟨t,⟨es,_,Pd.butL b e6 pd,MkIn.pair hk,v1.symm⟩,b _ _ (fun z=>by rw [z,e6] at v2;cases v2) v2⟩
      refine ⟨_,rfl,_,rfl,i0,j,rfl,⟨by lia,by lia,by lia,by lia⟩,?_⟩;refine bq (n:=(j - i0).toNat) (fun c σ H'=>∃ (xs:List Int) (c6 c7 c8:Option V),σ=[some (.ref r),some (.str (al gs)),some (.ref d),some (.int (ns.length:Nat)),some (.int i0),some (.int j),d6,some (.ref ps),c6,c7,c8]∧But ps H5 H'∧H' ps=some (.lst (xs.map V.int))∧xs.length≤1+c * 12∧xs=b0++((bj q0).take c).flatMap fun c=>(two (E (q0.1,c))).flatMap fun x=>(two (E (c+1,q0.2))).flatMap fun y=>bg gs x y) ⟨b0,_,_,_,rfl,But.refl,e6,by lia,by simp⟩ ?_ ?_
      · rintro c σ H6 hc ⟨xs6,f6,f7,f8,rfl,b6,ep6,l6,x6⟩;have hcut:(bj q0)[c]?=some (i0+(c:Int)):=by
          unfold bj;rw [aao,aa4 (by rw [q1,q2];lia),q1];rfl
        obtain ⟨cv,hcv⟩:∃ cv:Int,i0+(c:Int)=cv:=⟨_,rfl⟩
        rw [hcv] at hcut ⊢;have cv1:i0≤cv:=by lia
        have cv2:cv < j:=by lia
        refine ⟨_,rfl,_,rfl,_,rfl,t2,fun k1 nk1=>?_⟩;have sk1:=Same.new nk1 (.tup [.int i0,.int cv]);have ep7:=sk1 _ _ ep6;have ek1:upd H6 k1 (.tup [.int i0,.int cv]) k1=_:=ad;have b7:=b6.trans (But.of sk1);generalize upd H6 k1 (.tup [.int i0,.int cv])=H7 at b7 ep7 ek1 ⊢;obtain ⟨v1,dg1,ev1⟩:=look (q':=(i0,cv)) b7 i0a cv1 (by simp only;lia) ek1;refine ⟨d,_,rfl,dg1,v1,rfl,⟨_,SqT.of ev1⟩,?_⟩;have nv1p:v1≠ps:=fun e=>by rw [e,ep7] at ev1;cases ev1
        obtain ⟨bs1,bs2⟩:=hB (i0,cv);obtain ⟨bt1,bt2⟩:=hB (cv+1,j);obtain ⟨E1,hE1⟩:∃ E1,E (i0,cv)=E1:=⟨_,rfl⟩
        obtain ⟨E2,hE2⟩:∃ E2,E (cv+1,j)=E2:=⟨_,rfl⟩
        rw [hE1] at bs1 bs2 ev1;rw [hE2] at bt1 bt2;have fin:∀ {xs:List Int},xs=xs6++((two E1).flatMap fun x=>(two E2).flatMap fun y=>bg gs x y)→xs=b0++((bj q0).take (c+1)).flatMap fun c=>(two (E (q0.1,c))).flatMap fun x=>(two (E (c+1,q0.2))).flatMap fun y=>bg gs x y:=fun {xs} e=>by
          rw [aZ hcut,← aaA,← x6,e,q1,q2,hE1,hE2]
        refine dG (Trn.tup (xs:=[V.int E1.1,V.int E1.2])) (fun o σ H'=>∃ (xs:List Int) (c7 c8:Option V),σ=[some (.ref r),some (.str (al gs)),some (.ref d),some (.int (ns.length:Nat)),some (.int i0),some (.int j),d6,some (.ref ps),some (.int cv),c7,c8]∧But ps H7 H'∧H' ps=some (.lst (xs.map V.int))∧xs.length≤1+c * 12+o * 6∧xs=xs6++((two E1).take o).flatMap fun x=>(two E2).flatMap fun y=>bg gs x y) ⟨xs6,_,_,rfl,But.refl,ep7,by lia,by simp⟩ ?_ ?_ ?_
        · rintro o σ H8 _ ⟨xs8,_,_,rfl,b8,_⟩;exact SqT.of (b8 _ _ nv1p ev1)
        · rintro o x σ H8 H8' ho ⟨rfl,hx⟩ ⟨xs8,c7,c8,rfl,b8,ep8,l8,x8⟩;have ho2:o < 2:=ho;obtain ⟨xv,hxv,rfl,bxv⟩:∃ xv,(two E1)[o]?=some xv∧x=V.int xv∧xv.natAbs < 2 ^ 4000:=by
            have : o=0∨o=1:=by lia
            rcases this with rfl|rfl
            · exact ⟨_,rfl,(aal hx).symm,bs1⟩
            · exact ⟨_,rfl,(aal hx).symm,bs2⟩
          refine ⟨_,rfl,_,rfl,_,_,rfl,rfl,_,rfl,t2,fun k2 nk2=>?_⟩;have sk2:=Same.new nk2 (.tup [.int (cv+1),.int j]);have ep9:=sk2 _ _ ep8;have ek2:upd H8' k2 (.tup [.int (cv+1),.int j]) k2=_:=ad;have b9:=b8.trans (But.of sk2);generalize upd H8' k2 (.tup [.int (cv+1),.int j])=H9 at b9 ep9 ek2 ⊢;obtain ⟨v2,dg2,ev2⟩:=look (q':=(cv+1,j)) (b7.trans b9) (by simp only;lia) (by simp only;lia) (by simp only;lia) ek2;rw [hE2] at ev2;refine ⟨d,_,rfl,dg2,v2,rfl,⟨_,SqT.of ev2⟩,?_⟩;have nv2p:v2≠ps:=fun e=>by rw [e,ep9] at ev2;cases ev2
          refine dG (Trn.tup (xs:=[V.int E2.1,V.int E2.2])) (fun u σ H'=>∃ (xs:List Int) (c8:Option V),σ=[some (.ref r),some (.str (al gs)),some (.ref d),some (.int (ns.length:Nat)),some (.int i0),some (.int j),d6,some (.ref ps),some (.int cv),some (.int xv),c8]∧But ps H9 H'∧H' ps=some (.lst (xs.map V.int))∧xs.length≤1+c * 12+o * 6+u * 3∧xs=xs8++((two E2).take u).flatMap fun y=>bg gs xv y) ⟨xs8,_,rfl,But.refl,ep9,by lia,by simp⟩ ?_ ?_ ?_
          · rintro u σ H8 _ ⟨xs8,_,rfl,b8,_⟩;exact SqT.of (b8 _ _ nv2p ev2)
          · rintro u y σ Ha Ha' hu ⟨rfl,hy⟩ ⟨xsa,c8,rfl,ba,epa,la,xa⟩;have hu2:u < 2:=hu;obtain ⟨yv,hyv,rfl,byv⟩:∃ yv,(two E2)[u]?=some yv∧y=V.int yv∧yv.natAbs < 2 ^ 4000:=by
              have : u=0∨u=1:=by lia
              rcases this with rfl|rfl
              · exact ⟨_,rfl,(aal hy).symm,bt1⟩
              · exact ⟨_,rfl,(aal hy).symm,bt2⟩
            refine ⟨_,rfl,.inl ⟨rfl,_,SqL.of epa⟩,_,rfl,_,rfl,cj gs,?_⟩;refine b_ (Trn.str (z:=al gs)) (fun i ys H'=>H'=Ha'∧ys=((gs.take i).map fun g=>V.int (g.op xv yv))) ⟨rfl,rfl⟩ (fun i ys H' hi z=>⟨trivial,?_⟩) (fun i x ys H1 H' hi it z Nx nx=>?_) (fun ys H' z p9 n9=>?_)
            · rw [z.2,aab,aax];exact aA (by lia)
            · obtain ⟨rfl,rfl⟩:=z;obtain ⟨rfl,cc,hcc,rfl⟩:=it;obtain ⟨g,hg,rfl⟩:=jO hcc;refine ⟨_,rfl,_,rfl,_,rfl,xv,g,yv,by rw [bJ];rfl,bxv,byv,nx _ _ ⟨rfl,?_⟩⟩;rw [aay,hg,aaH];rfl
            · obtain ⟨rfl,rfl⟩:=z;have s9:=Same.new n9 (.lst ((gs.take (al gs).cps.size).map fun g=>V.int (g.op xv yv)));have ez:(gs.take (al gs).cps.size).map (fun g=>V.int (g.op xv yv))=(bg gs xv yv).map V.int:=by
                rw [dZ,aaZ];unfold bg;rw [aaR];rfl
              have lg:(bg gs xv yv).length=gs.length:=by unfold bg;rw [aab]
              refine ⟨ps,p9,_,_,rfl,rfl,s9 _ _ epa,ad,?_,?_⟩
              · rw [ez,aab,aab,lg];exact abz (aA (by lia))
              · rw [ez] at s9 ⊢;refine ⟨xsa++bg gs xv yv,_,rfl,?_,by rw [aaH];exact ad,?_,?_⟩
                · intro b o hb e;rw [aq hb];exact s9 _ _ (ba _ _ hb e)
                · rw [aaj,lg];lia
                · rw [aZ hyv,xa,aaA]
          · rintro σ Ha ⟨xsa,c8,rfl,ba,epa,la,xa⟩;refine ⟨xsa,_,_,rfl,b9.trans ba,epa,?_,?_⟩
            · have la:xsa.length≤1+c * 12+o * 6+2 * 3:=la;lia
            · rw [xa,aZ hxv,x8,aaA];rfl
        · rintro σ H8 ⟨xs8,c7,c8,rfl,b8,ep8,l8,x8⟩;refine ⟨xs8,_,_,_,rfl,b7.trans b8,ep8,?_,fin x8⟩;have l8:xs8.length≤1+c * 12+2 * 6:=l8;lia
      · rintro σ H6 ⟨xs6,f6,f7,f8,rfl,b6,ep6,l6,x6⟩;have q12:q0.1≤q0.2:=by rw [q1,q2];lia
        have x6:xs6=fnE E ns gs q0:=by
          rw [x6,aa1 (by rw [show (bj q0).length=(q0.2 - q0.1).toNat by simp [bj],q1,q2];lia),← hW,← hb0];rfl
        have hne:xs6≠[]:=by rw [x6];exact nY gne q12
        have sK:∀ {H':Hp},But ps H5 H'→Same H2 H':=fun {H'} b=>S4.trans (fun b' o e=>b _ _ (ao e nps4) (s5 _ _ e));refine ⟨_,rfl,_,rfl,_,rfl,t2,fun k1 nk1=>?_⟩;have sk1:=Same.new nk1 (.tup [.int i0,.int j]);have ep7:=sk1 _ _ ep6;have ek1:upd H6 k1 (.tup [.int i0,.int j]) k1=_:=ad;have b7:=b6.trans (But.of sk1);generalize upd H6 k1 (.tup [.int i0,.int j])=H7 at b7 ep7 ek1 ⊢;obtain ⟨v1,dg1,ev1⟩:=look (q':=(i0,j)) b7 i0a i0j (by simp only;lia) ek1;refine ⟨d,_,rfl,dg1,v1,_,0,_,rfl,rfl,SqT.of ev1,rfl,_,rfl,ps,xs6,rfl,SqL.of ep7,hne,fun m hm hmin=>⟨_,_,rfl,rfl,_,rfl,?_⟩⟩;have mw:∀ x,x∈xs6↔x∈wiL E ns gs (i0,j):=fun x=>by rw [x6,eq0];exact xj (by simp only;lia)
        have no:∀ {H':Hp},Same H2 H'→fI ns gs E (i0,j)=false→Q .non H':=fun g z=>(qq _ (S2.trans g)).1 (e1 (q:=(i0,j)) i0a i0j (by simp only;lia) z);by_cases c1:(E (i0,j)).1≤m
        case neg =>
          rw [decide_eq_false c1];exact aB ⟨_,rfl,aI (no (sK b7) (ace.mpr ⟨m,(mw m).mp hm,by rw [decide_eq_false c1,abZ];exact aad⟩))⟩
        rw [decide_eq_true c1];refine aI ⟨_,rfl,ps,xs6,rfl,SqL.of ep7,hne,fun M hM hmax=>⟨_,_,rfl,rfl,_,rfl,?_⟩⟩;rw [decide_eq_true (hmax m hm)];refine aI ⟨_,rfl,_,rfl,_,rfl,t2,fun k2 nk2=>?_⟩;have sk2:=Same.new nk2 (.tup [.int i0,.int j]);have ek2:upd H7 k2 (.tup [.int i0,.int j]) k2=_:=ad;have b8:=b7.trans (But.of sk2);generalize upd H7 k2 (.tup [.int i0,.int j])=H8 at b8 ek2 ⊢;obtain ⟨v2,dg2,ev2⟩:=look (q':=(i0,j)) b8 i0a i0j (by simp only;lia) ek2;refine ⟨d,_,rfl,dg2,v2,_,1,_,rfl,rfl,SqT.of ev2,rfl,_,_,rfl,rfl,_,rfl,?_⟩;by_cases c2:M≤(E (i0,j)).2
        case neg =>
          rw [decide_eq_false c2];exact aI (no (sK b8) (ace.mpr ⟨M,(mw M).mp hM,by rw [decide_eq_false c2,acH];exact aad⟩))
        rw [decide_eq_true c2];refine aB ⟨_,_,_,_,_,_,rfl,sK b8,fun b' x y=>?_⟩;by_cases z:b' < j
        · exact hok4 b' x z
        · have : b'=j:=by lia
          rw [this];refine List.all_eq_true.mpr fun x hx=>?_;have hx:=(mw x).mpr hx;rw [aaS,decide_eq_true_eq,decide_eq_true_eq];exact ⟨Int.le_trans c1 (hmin x hx),Int.le_trans (hmax x hx) c2⟩
    · rintro σ H3 ⟨c5,d6,c7,c8,c9,ca,rfl,S3,h3⟩;refine ⟨_,_,_,_,_,_,_,rfl,S3,fun q q0 q1 q2 q3=>?_⟩;by_cases z:q.1 < (a:Int)
      · exact h1 q q0 z q2 q3
      · have e:q.1=i0:=by lia
        have:=h3 q.2 (by lia) (by lia)
        rwa [← e] at this
  · rintro σ H3 ⟨c4,c5,c6,c7,c8,c9,ca,rfl,S3,h3⟩;have e:cI ns gs (some ps)=some (E (0,(ns.length:Int) - 1)):=by
      rw [← hE];refine e0 ?_;unfold cT;rw [hh,hpr,abk,abk,aaV,hE];intro q hq;obtain ⟨a,b,z⟩:=iP _ q hq;exact h3 q a (by lia) b z
    have SF:=S2.trans S3;refine ⟨_,rfl,_,rfl,_,_,rfl,rfl,t2,fun k1 nk1=>?_⟩;have sk:=Same.new nk1 (.tup [.int 0,.int ((ns.length:Int) - 1)]);obtain ⟨es2,pd2,g2⟩:=(hG.mono S3).mono sk;obtain ⟨t,v1,v2⟩:=g2 (0,(ns.length:Int) - 1) (Int.le_refl _) (by simp only;lia) (by simp only;lia);exact ⟨d,.ref t,rfl,⟨es2,_,pd2,MkIn.pair (i:=0) (j:=(ns.length:Int) - 1) ad,v1.symm⟩,(qq _ (SF.trans sk)).2 _ t e v2⟩
end
open PySem L2
theorem oD:∀ d:PyData,1≤szX d
  | .none=>by simp [szX]
  | .bool _=>by simp [szX]
  | .int _=>by simp [szX]
  | .str _=>by simp [szX]
  | .list _=>by simp [szX]
  | .tuple _=>by simp [szX]
  | .dict _=>by simp [szX]
def sgD:PyData→Bool
  | .str z=>qw z
  | _=>false
mutual
def aR:PyData→Option Nat
  | .int _=>some 1
  | .tuple ds=>cntT ds
  | .none=>none
  | .bool _=>none
  | .str _=>none
  | .list _=>none
  | .dict _=>none
def cntT:List PyData→Option Nat
  | []=>none
  | [_]=>none
  | [_,_]=>none
  | [s,l,r]=>if sgD s then (match aR l,aR r with|some a,some b=>some (a+b)|_,_=>none) else none
  | _ :: _ :: _ :: _ :: _=>none
end
def bH (d:PyData):Bool:=match aR d with
  | some n=>decide (n≤9)
  | none=>false
def tot:List PyData→Option Nat
  | []=>some 0
  | d :: ds=>match aR d,tot ds with|some a,some b=>some (a+b)|_,_=>none
def szL (ds:List PyData):Nat:=(ds.map szX).sum
theorem dL:∀ (ds:List PyData) (d:PyData),tot (ds++[d])=(match tot ds,aR d with|some a,some b=>some (a+b)|_,_=>none)
  | [],d=>by
    show (match aR d,some 0 with|some a,some b=>some (a+b)|_,_=>none)=_;cases aR d <;> simp [tot]
  | e :: ds,d=>by
    show (match aR e,tot (ds++[d]) with|some a,some b=>some (a+b)|_,_=>none)=(match (match aR e,tot ds with|some a,some b=>some (a+b)|_,_=>none),aR d with|some a,some b=>some (a+b)|_,_=>none)
    rw [dL ds d];cases aR e <;> cases tot ds <;> cases aR d <;> simp [Nat.add_assoc]
theorem mL:∀ (d:PyData) (n:Nat),aR d=some n→1≤n
  | .int _,n,h=>by simp only [aR] at h;injection h with h;lia
  | .tuple ds,n,h=>by
    simp only [aR] at h
    match ds,h with
    | [],h=>simp [cntT] at h
    | [_],h=>simp [cntT] at h
    | [_,_],h=>simp [cntT] at h
    | [s,l,r],h =>
      simp only [cntT] at h;split at h
      · cases e1:aR l with
        | none=>rw [e1] at h;cases h
        | some a =>
          cases e2:aR r with
          | none=>rw [e1,e2] at h;cases h
          | some b =>
            rw [e1,e2] at h;have:=mL l a e1;injection h with h;lia
      · cases h
    | _ :: _ :: _ :: _ :: _,h=>simp [cntT] at h
  | .none,n,h=>by simp [aR] at h
  | .bool _,n,h=>by simp [aR] at h
  | .str _,n,h=>by simp [aR] at h
  | .list _,n,h=>by simp [aR] at h
  | .dict _,n,h=>by simp [aR] at h
theorem oC:∀ (ds:List PyData) (t:Nat),tot ds=some t→ds.length≤t
  | [],t,h=>aaU _
  | d :: ds,t,h=>by
    have h':(match aR d,tot ds with|some a,some b=>some (a+b)|_,_=>none)=some t:=h;cases e1:aR d with
    | none=>rw [e1] at h';cases h'
    | some a =>
      cases e2:tot ds with
      | none=>rw [e1,e2] at h';cases h'
      | some b =>
        rw [e1,e2] at h';have:=mL d a e1;have:=oC ds b e2;injection h' with h'
        rw [aaY];lia
theorem iE (ds:List PyData) (d:PyData):szL (ds++[d])=szL ds+szX d:=by simp [szL]
def Left (n:Nat) (ds:List PyData) (d0:PyData):Prop:=aR d0=(tot ds).map (·+n)
theorem Left.bad {n:Nat} {ds:List PyData} {d d0:PyData} (h:Left n (ds++[d]) d0) (e:aR d=none):bH d0=false:=by
  unfold Left at h;rw [dL,e] at h;have h2:aR d0=none:=by rw [h];cases tot ds <;> rfl
  unfold bH;rw [h2]
theorem Left.num {n:Nat} {ds:List PyData} {i:Int} {d0:PyData} (h:Left n (ds++[.int i]) d0):Left (n+1) ds d0:=by
  unfold Left at h ⊢;rw [h,dL];have e:aR (.int i)=some 1:=by simp only [aR]
  rw [e];cases tot ds with
  | none=>rfl
  | some a=>show some (a+1+n)=some (a+(n+1));congr 1;lia
theorem Left.node {n:Nat} {ds:List PyData} {s l r d0:PyData} (h:Left n (ds++[.tuple [s,l,r]]) d0) (hs:sgD s=true):Left n (ds++[l]++[r]) d0:=by
  unfold Left at h ⊢;have e:aR (.tuple [s,l,r])=(match aR l,aR r with|some a,some b=>some (a+b)|_,_=>none):=by
    simp only [aR,cntT];rw [if_pos hs] <;> (cases aR l <;> cases aR r <;> rfl)
  rw [h,dL,dL,dL,e];cases tot ds <;> cases aR l <;> cases aR r <;> simp [Nat.add_assoc]
theorem Left.full {n:Nat} {ds:List PyData} {d0:PyData} (h:Left n ds d0) (h2:9 < n+ds.length):bH d0=false:=by
  unfold Left at h;unfold bH;rw [h];cases e:tot ds with
  | none=>rfl
  | some t =>
    have:=oC ds t e;show decide (t+n≤9)=false;exact decide_eq_false (by lia)
theorem Left.done {n:Nat} {d0:PyData} (h:Left n [] d0):bH d0=decide (n≤9):=by
  unfold Left at h;unfold bH;rw [h];show decide (0+n≤9)=decide (n≤9);rw [Nat.zero_add]
section
variable {P:Program} {w:World} {K:aaa} {mg:Str→Option Value} {base:Heap} {f:Addr} {fd:FuncData}
def ki:Sp:=fun vs H Q _=>∃ d v,vs=[v]∧Dat H d v∧Q (.bl (sgD d)) H
theorem mo {tk:Tok} {aS:Addr} (F:Fun K "is_sign" "is_sign" fE f fd) (B:Bu K mg) (B':Co K mg tk aS):FnOk P w K mg base CX0 1 f fd ["thing"] ki:=by
  refine F.ok iR (fun vs H Q E h=>?_) (fun cdv A outer s H vs Q E hr h=>?_)
  · obtain ⟨d,x,rfl,_⟩:=h;rfl
  obtain ⟨d,v,rfl,hd,q⟩:=h;refine ⟨_,(@ag _ _ _ (@ar _ _ _ _ (@b5 _ _ _ _ _ _ _ (@ak _ _ _ _ _ _ _ _ _ (@aN _ ("str")) rfl B.iisinstance aap (@aa _ _ _ _ _ (pv 0) (@aa _ _ _ _ _ (@bu _ _ (.ty "str") _ _ rfl B.istr aca rfl (by decide) (by decide)) ac (by rfl)) (by rfl)) (by decide) (by decide) (by rfl) (by rfl)) (@eK _ _ _ _ _ (@aO _ _ _ _ _ _ _ _ fF (pv 0) (@gp _ _ (.ref aS) _ _ rfl B'.gSIGNS rfl (by decide)) (by with_unfolding_all rfl)))))),?_⟩;cases d with
  | str z =>
    simp only [Dat] at hd;subst hd;exact ⟨_,rfl,_,_,true,rfl,.str z,rfl,true,rfl,aI ⟨_,rfl,aS,_,rfl,.inr (B'.sSIGNS H),rfl,rfl,q⟩⟩
  | none=>exact ⟨_,rfl,_,_,false,rfl,hd.ty,rfl,false,rfl,aB q⟩
  | bool b=>exact ⟨_,rfl,_,_,false,rfl,hd.ty,rfl,false,rfl,aB q⟩
  | int i=>exact ⟨_,rfl,_,_,false,rfl,hd.ty,rfl,false,rfl,aB q⟩
  | list ds=>exact ⟨_,rfl,_,_,false,rfl,hd.ty,rfl,false,rfl,aB q⟩
  | tuple ds=>exact ⟨_,rfl,_,_,false,rfl,hd.ty,rfl,false,rfl,aB q⟩
  | dict ds=>exact ⟨_,rfl,_,_,false,rfl,hd.ty,rfl,false,rfl,aB q⟩
def iJ:Sp:=fun vs H Q _=>∃ d v,vs=[v]∧Dat H d v∧∀ H',Same H H'→Q (.bl (bH d)) H'
theorem ye {H:Hp} {ds:List PyData} {xs:List V} (h:DatAll H ds xs) (h3:xs.length=3):∃ s l r x y z,ds=[s,l,r]∧xs=[x,y,z]∧Dat H s x∧Dat H l y∧Dat H r z:=by
  have hl:=h.len;obtain ⟨x,y,z,rfl⟩:=wR h3;obtain ⟨s,l,r,rfl⟩:=wR (hl.trans h3);simp only [DatAll] at h;obtain ⟨_,_,e1,h1,_,_,e2,h2,_,_,e3,h3,_⟩:=h;injection e1 with e1 t1;subst t1
  injection e2 with e2 t2;subst t2
  injection e3 with e3 t3
  subst e1 e2 e3;exact ⟨s,l,r,x,y,z,rfl,rfl,h1,h2,h3⟩
theorem uf {ds:List PyData} (h:ds.length≠3):aR (.tuple ds)=none:=by
  simp only [aR]
  match ds,h with
  | [],_=>simp [cntT]
  | [_],_=>simp [cntT]
  | [_,_],_=>simp [cntT]
  | [_,_,_],h=>exact absurd rfl h
  | _ :: _ :: _ :: _ :: _,_=>simp [cntT]
theorem vM {s l r:PyData} (h:sgD s=false):aR (.tuple [s,l,r])=none:=by
  simp only [aR,cntT,h];rfl
theorem nJ {tk:Tok} {aS:Addr} (F:Fun K "is_way" "is_way" iS f fd) (B:Bu K mg) (B':Co K mg tk aS) (C_is_whole:Cal P w K mg base "is_whole" 1 ["thing"] (du K)) (C_is_sign:Cal P w K mg base "is_sign" 1 ["thing"] ki) :
    FnOk P w K mg base CX0 2 f fd ["thing"] iJ:=by
  refine F.ok dP (fun vs H Q E h=>?_) (fun cdv A outer s H vs Q E hr h=>?_)
  · obtain ⟨x,v,rfl,_⟩:=h;rfl
  obtain ⟨d0,v,rfl,hd0,q⟩:=h;refine ⟨_,(@af _ _ _ _ _ (@av _ _ (1) _ _ _ _ (dP).nd rfl (Or.inl rfl) (@aJ _ _ _ _ (@aa _ _ _ _ _ (pv 0) ac (by rfl))) (by rfl) (by first|exact .inl rfl|exact .inr rfl|assumption)) (@af _ _ _ _ _ (@av _ _ (2) _ _ _ _ (dP).nd rfl (Or.inl rfl) ae (by rfl) (by first|exact .inl rfl|exact .inr rfl|assumption)) (@af _ _ _ _ _ (@rg _ _ _ _ _ _ aaz (@PW.pt _ _ _ (@fW _ _ _ _ _ _ _ (@re _ _ _ (pv 1) (fun _=>rfl)) (@gl _ _ _ _ (@aF _ _ _ _ _ _ _ _ ic (@ap _ _ _ _ _ _ _ _ bf (pv 2) (@ak _ _ _ _ _ _ _ _ _ ay rfl B.ilen aaO (@aa _ _ _ _ _ (pv 1) ac (by rfl)) (by decide) (by decide) (by rfl) (by rfl))) (@gp _ _ (.int 9) _ _ rfl B'.gMOST_NUMBERS ⟨_,rfl⟩ (by decide)) (az _))))) (@af _ _ _ _ _ (@av _ _ (3) _ _ _ _ (dP).nd rfl (Or.inl rfl) (@ve _ _ _ _ _ _ _ _ _ aa5 PySem.F.slot_list_pop PySem.F.type_list_pop vt (pv 1) (by rfl) (by rfl)) (by rfl) (by first|exact .inl rfl|exact .inr rfl|assumption)) (@ag _ _ _ (@aY _ _ _ _ _ _ _ _ (@bh _ _ _ (@ah _ _ _ _ _ _ _ _ _ _ _ C_is_whole hr (by lia) rfl (@aa _ _ _ _ _ (pv 3) ac (by rfl)) (by decide) (by rfl) (by rfl)) (by intro _;rfl)) (@ag _ _ _ (@uW _ _ (2) _ _ _ _ _ _ (dP).nd rfl (Or.inl rfl) ae vH (by first|exact .inl rfl|exact .inr rfl|assumption))) (@ag _ _ _ (@aY _ _ _ _ _ _ _ _ (@PW.pt _ _ _ (@fW _ _ _ _ _ _ _ (@bh _ _ _ (@ak _ _ _ _ _ _ _ _ _ (@aN _ ("tuple")) rfl B.iisinstance aap (@aa _ _ _ _ _ (pv 3) (@aa _ _ _ _ _ (@bu _ _ (.ty "tuple") _ _ rfl B.ituple abm rfl (by decide) (by decide)) ac (by rfl)) (by rfl)) (by decide) (by decide) (by rfl) (by rfl)) (by intro _;rfl)) (@fW _ _ _ _ _ _ _ (@aF _ _ _ _ _ _ _ _ bw (@ak _ _ _ _ _ _ _ _ _ ay rfl B.ilen aaO (@aa _ _ _ _ _ (pv 3) ac (by rfl)) (by decide) (by decide) (by rfl) (by rfl)) ae (az _)) (@gl _ _ _ _ (@bh _ _ _ (@ah _ _ _ _ _ _ _ _ _ _ _ C_is_sign hr (by lia) rfl (@aa _ _ _ _ _ (@aM _ _ _ _ _ _ _ bP (pv 3) ae (fun _ _=>rfl)) ac (by rfl)) (by decide) (by rfl) (by rfl)) (by intro _;rfl)))))) (@af _ _ _ _ _ (@bS _ _ _ _ (@iW _ _ _ _ _ _ _ _ _ _ _ _ aa5 acq acr g0 (pv 1) (@aa _ _ _ _ _ (@aM _ _ _ _ _ _ _ bP (pv 3) ae (fun _ _=>rfl)) ac (by rfl)) (by rfl) (by rfl) (by rfl) (by rfl) (by rfl)) (by rfl)) (@ag _ _ _ (@bS _ _ _ _ (@iW _ _ _ _ _ _ _ _ _ _ _ _ aa5 acq acr g0 (pv 1) (@aa _ _ _ _ _ (@aM _ _ _ _ _ _ _ bP (pv 3) ae (fun _ _=>rfl)) ac (by rfl)) (by rfl) (by rfl) (by rfl) (by rfl) (by rfl)) (by rfl)))) (@ag _ _ _ (@ar _ _ _ _ cJ)))))))) (@ag _ _ _ (@ar _ _ _ _ (tK (pv 1))))))),?_⟩;refine ⟨_,rfl,(by show 1≤sizeLine;decide),fun p hp=>?_⟩;refine ⟨fun m σ H'=>∃ (n:Nat) (ds:List PyData) (vs:List V) (part:Option V),σ=[some v,some (.ref p),some (.int n),part]∧H' p=some (.lst vs)∧DatAll H ds vs∧Same H H'∧n≤9∧vs.length≤100∧Left n ds d0∧m=szL ds,?_,?_⟩
  · refine ⟨_,0,[d0],[v],_,rfl,ad,DatAll.one hd0,Same.new hp _,by lia,by simp,?_,rfl⟩;unfold Left;have e:tot [d0]=(match aR d0,some 0 with|some a,some b=>some (a+b)|_,_=>none):=rfl;rw [e];cases aR d0 <;> simp
  rintro m σ H' ⟨n,ds,vs,part,rfl,hH,hall,hS,hn,hvl,hL,rfl⟩;have hlen:=hall.len;by_cases ne:vs=[]
  · subst ne;have e:ds=[]:=abl.mp hlen;subst e;refine ⟨_,rfl,false,.inl ⟨[],SqL.of hH,rfl⟩,aB (aB ?_)⟩;have z:=q H' hS;rw [hL.done,decide_eq_true hn] at z;exact ⟨_,rfl,false,.inl ⟨[],SqL.of hH,rfl⟩,z⟩
  refine ⟨_,rfl,true,.inl ⟨_,SqL.of hH,by simpa using ne⟩,aI ⟨_,rfl,_,rfl,p,_,rfl,.inl (SqL.of hH),_,_,rfl,rfl,_,_,rfl,rfl,decide ((n:Int)+(vs.length:Nat)≤9),rfl,?_⟩⟩;by_cases c9:(n:Int)+(vs.length:Nat)≤9
  · refine ij c9 ⟨fun σ' H'=>∃ m',m' < szL ds∧_,fun _ _ h=>h,?_⟩;obtain ⟨ds',d,vs',v',rfl,rfl,hall',hd⟩:=hall.last ne;refine ⟨_,rfl,.inl ⟨rfl,_,SqL.of hH⟩,p,_,v',rfl,rfl,hH,tX _ _,?_⟩;rw [vW];have hp0:H p=none:=hp;have hS2:Same H (upd H' p (.lst vs')):=hS.upd hp0;rw [iE];have zp:=oD d;have hd2:=Dat.mono hS2 d v' hd;rw [aaj,ab6] at c9;have bad:aR d=none→Q (.bl false) (upd H' p (.lst vs')):=fun e=>by
      have z:=q _ hS2;rw [hL.bad e] at z;exact z
    cases d with
    | int i =>
      simp only [Dat] at hd2;subst hd2;refine ⟨_,rfl,_,"int",rfl,.int i,true,rfl,aI ⟨_,rfl,_,_,rfl,rfl,?_⟩⟩;exact ⟨szL ds',by simp only [szX];lia,n+1,ds',vs',_,rfl,ad,hall',hS2,by lia,by lia,hL.num,rfl⟩
    | tuple xs =>
      have ty:=hd2.ty (K:=K);simp only [Dat] at hd2 hd;obtain ⟨a,us,rfl,ha,hxs⟩:=hd;have ha2:upd H' p (.lst vs') a=some (.tup us):=hS2 _ _ ha;refine ⟨_,rfl,_,"tuple",rfl,ty,false,rfl,aB ?_⟩;refine ⟨_,rfl,_,_,true,rfl,ty,rfl,true,rfl,aI ⟨_,rfl,a,_,rfl,.inr (SqT.of ha2),rfl,decide (V.int (us.length:Nat)=V.int 3),rfl,?_⟩⟩;have lx:=hxs.len;by_cases c3:us.length=3
      · obtain ⟨s,l,r,x,y,z,rfl,rfl,h1,h2,h3⟩:=ye hxs c3;refine ij rfl ?_;refine ⟨_,rfl,a,_,_,_,rfl,rfl,SqT.of ha2,rfl,s,x,rfl,Dat.mono hS2 s x h1,sgD s,rfl,?_⟩;cases hs:sgD s with
        | true =>
          refine aI ?_;refine ⟨_,rfl,.inl ⟨rfl,_,SqL.of ad⟩,_,rfl,a,_,_,_,rfl,rfl,SqT.of ha2,rfl,p,_,_,rfl,rfl,ad,aA (by lia),?_⟩;have k1:Same H (upd (upd H' p (.lst vs')) p (.lst (vs'++[y]))):=hS2.upd hp0;refine ⟨_,rfl,.inl ⟨rfl,_,SqL.of ad⟩,_,rfl,a,_,_,_,rfl,rfl,SqT.of (k1 _ _ ha),rfl,p,_,_,rfl,rfl,ad,aA (by rw [aaj,ab6];lia),?_⟩;refine ⟨szL (ds'++[l]++[r]),?_,n,ds'++[l]++[r],vs'++[y]++[z],_,rfl,ad,(hall'.app (DatAll.one h2)).app (DatAll.one h3),k1.upd hp0,hn,by rw [aaj,aaj];simp;lia,hL.node hs,rfl⟩;rw [iE,iE];simp only [szX,szXs];have:=oD s;lia
        | false=>exact aB (bad (vM hs))
      · refine fJ (fun e=>c3 (by injection e with e;lia)) (bad (uf (by lia)))
    | none=>exact ⟨_,rfl,_,_,rfl,hd2.ty,false,rfl,aB ⟨_,rfl,_,_,false,rfl,hd2.ty,rfl,false,rfl,aB (bad (by simp only [aR]))⟩⟩
    | bool b=>exact ⟨_,rfl,_,_,rfl,hd2.ty,false,rfl,aB ⟨_,rfl,_,_,false,rfl,hd2.ty,rfl,false,rfl,aB (bad (by simp only [aR]))⟩⟩
    | str b=>exact ⟨_,rfl,_,_,rfl,hd2.ty,false,rfl,aB ⟨_,rfl,_,_,false,rfl,hd2.ty,rfl,false,rfl,aB (bad (by simp only [aR]))⟩⟩
    | list b=>exact ⟨_,rfl,_,_,rfl,hd2.ty,false,rfl,aB ⟨_,rfl,_,_,false,rfl,hd2.ty,rfl,false,rfl,aB (bad (by simp only [aR]))⟩⟩
    | dict b=>exact ⟨_,rfl,_,_,rfl,hd2.ty,false,rfl,aB ⟨_,rfl,_,_,false,rfl,hd2.ty,rfl,false,rfl,aB (bad (by simp only [aR]))⟩⟩
  · refine fJ c9 ?_;have z:=q H' hS;rw [hL.full (by lia)] at z;exact ⟨_,rfl,true,.inl ⟨_,SqL.of hH,by simpa using ne⟩,z⟩
def t_ (z:Str) (y:Str):Bool:=!(Builtin.Str.occurrences z y 0 z.length 1).isEmpty
def qT:Sp:=fun vs H Q _=>∃ (wy:Wy) (v:V) (z:Str),vs=[v,.str z]∧WyIn H wy v∧wy.size≤20∧∀ H',Same H H'→Q (.bl (wy.sgs.all fun g=>t_ z g.str)) H'
abbrev bW:Stmt:=top 22
theorem fM:FnScope ["way","signs"] ["way","signs"] (am bW):=⟨rfl,rfl,rfl,by decide +kernel,rfl,by decide +kernel,by decide +kernel⟩
theorem kT (F:Fun K "has_signs_among" "has_signs_among" bW f fd) (B:Bu K mg) (C_join_signs:Cal P w K mg base "join_signs" 21 ["way"] (oG 20)):FnOk P w K mg base CX0 22 f fd ["way","signs"] qT:=by
  refine F.ok fM (fun vs H Q E h=>?_) (fun cdv A outer s H vs Q E hr h=>?_)
  · obtain ⟨wy,v,z,rfl,_⟩:=h;rfl
  obtain ⟨wy,v,z,rfl,hw,h20,q⟩:=h;refine ⟨_,(@ag _ _ _ (@ar _ _ _ _ (@ak _ _ _ _ _ _ _ _ _ (@fB _ rfl) rfl B.iall abI (@aa _ _ _ _ _ (@bZ _ _ _ _ _ _ _ _ (["sign","signs"]) ([none,some 1]) _ _ _ _ rfl (@gR _ _ _ _ (@ah _ _ _ _ _ _ _ _ _ _ _ C_join_signs hr (by lia) rfl (@aa _ _ _ _ _ (pv 0) ac (by rfl)) (by decide) (by rfl) (by rfl))) rfl ⟨rfl,trivial⟩ ⟨⟨rfl,Or.inl rfl,Or.inl rfl⟩,trivial⟩ (fun _ _ _ _=>⟨(@aj _ _ (0) _ (show aaX (["sign","signs"]:List Str) by decide +kernel) rfl (Or.inl rfl) (.inr rfl)),aH,(@aO _ _ _ _ _ _ _ _ qj (pv 0) (pv 1) (by with_unfolding_all rfl))⟩) (by rfl) (by rfl) (by rfl) (by rfl) (by intro _;rfl)) ac (by rfl)) (by decide) (by decide) (by rfl) (by rfl)))),?_⟩;have dl:=wy.deep_le;have sl:=wy.sgs_len;refine ⟨_,rfl,wy,v,rfl,hw,h20,by lia,fun H1 g1=>⟨_,rfl,cj _,?_⟩⟩;refine vy (fun i ys H'=>H'=H1∧ys=((wy.sgs.take i).map fun g=>t_ z g.str).map V.bl) ⟨rfl,rfl⟩ ?_ ?_ ?_
  · rintro i ys H' hi ⟨rfl,rfl⟩;rw [aab,aab,aax];exact aA (by lia)
  · rintro i c ys H' hc ⟨rfl,rfl⟩ nx;obtain ⟨g,hg,rfl⟩:=jO hc;refine ⟨_,rfl,_,rfl,_,_,rfl,rfl,nx ⟨rfl,?_⟩⟩;rw [aay,hg,aaH,aaH,← bJ];rfl
  · rintro ys H' ⟨rfl,rfl⟩ p np;rw [dZ,aaZ];refine ⟨p,_,rfl,SqL.of ad,?_⟩;rw [List.all_map];exact q _ (g1.trans (Same.new np _))
end
def Wy.wv:Wy→Int
  | .num i=>i
  | .node g l r=>g.op l.wv r.wv
def Wy.bd:Wy→Prop
  | .num i=>i.natAbs≤10 ^ (30 * 1)
  | .node g l r=>l.bd∧r.bd∧(g.op l.wv r.wv).natAbs≤10 ^ (30 * (l.size+r.size))
theorem Wy.wv_bd:∀ {w:Wy},w.bd→w.wv.natAbs≤10 ^ (30 * w.size)
  | .num _,h=>h
  | .node _ _ _,h=>h.2.2
theorem Wy.wv_lt (w:Wy) (h:w.bd) (hs:w.size≤9):w.wv.natAbs < 2 ^ 4000:=aa2 (Wy.wv_bd h) (jP hs)
section
variable {P:Program} {w:World} {K:aaa} {mg:Str→Option Value} {base:Heap} {f:Addr} {fd:FuncData}
def iL (n:Nat):Sp:=fun vs H Q _=>∃ (w:Wy) (v:V),vs=[v]∧WyIn H w v∧w.size≤n∧n≤9∧w.bd∧Q (.int w.wv) H
abbrev d_:Stmt:=top 25
theorem cC:FnScope ["way","sign","left","right"] ["way"] (am d_):=⟨rfl,rfl,rfl,by decide +kernel,rfl,by decide +kernel,by decide +kernel⟩
theorem jE (F:Fun K "find_worth" "find_worth" d_ f fd) (bF:Binds K fd ["way"] []) (mF:mg "find_worth" = some (.ref f)) (C_is_whole:Cal P w K mg base "is_whole" 1 ["thing"] (du K)) (C_put_sign:Cal P w K mg base "put_sign" 1 ["left","sign","right"] fC) :
    ∀ n,FnOk P w K mg base CX0 (n+1) f fd ["way"] (iL n):=by
  intro n
  induction n with
  | zero =>
    refine ⟨fun vs H Q E h=>?_,fun A outer s H args us vs Q E _ _ _ _ h=>?_⟩
    · obtain ⟨x,v,rfl,_⟩:=h;rfl
    · obtain ⟨wy,v,_,_,hd,_⟩:=h;have:=wy.size_pos;lia
  | succ n ih =>
    have C_find_worth:Cal P w K mg base "find_worth" (n+1) ["way"] (iL n):=⟨f,fd,ih,bF,F.kp,mF⟩
    refine F.ok cC (fun vs H Q E h=>?_) (fun cdv A outer s H vs Q E hr h=>?_)
    · obtain ⟨x,v,rfl,_⟩:=h;rfl
    obtain ⟨wy,v,rfl,hw,hn,h9,hB,q⟩:=h;refine ⟨_,(@af _ _ _ _ _ (@aY _ _ _ _ _ _ _ _ (@bh _ _ _ (@ah _ _ _ _ _ _ _ _ _ _ _ C_is_whole hr (by lia) rfl (@aa _ _ _ _ _ (pv 0) ac (by rfl)) (by decide) (by rfl) (by rfl)) (by intro _;rfl)) (@ag _ _ _ (@ar _ _ _ _ (pv 0))) aG) (@af _ _ _ _ _ (@dE _ _ _ _ _ _ (pv 0) (@dF _ _ _ _ _ _ rfl (@aD _ _ _ _ _ (@aj _ _ (1) _ (cC).nd rfl (Or.inl rfl) (.inl rfl)) (@aD _ _ _ _ _ (@aj _ _ (2) _ (cC).nd rfl (Or.inl rfl) (.inl rfl)) (@aD _ _ _ _ _ (@aj _ _ (3) _ (cC).nd rfl (Or.inl rfl) (.inl rfl)) bX (by rfl)) (by rfl)) (by rfl)) (by rfl) (by rfl)) (by rfl) (by rfl) (by rfl)) (@ag _ _ _ (@ar _ _ _ _ (@ah _ _ _ _ _ _ _ _ _ _ _ C_put_sign hr (by lia) rfl (@aa _ _ _ _ _ (@ah _ _ _ _ _ _ _ _ _ _ _ C_find_worth hr (by lia) rfl (@aa _ _ _ _ _ (pv 2) ac (by rfl)) (by decide) (by rfl) (by rfl)) (@aa _ _ _ _ _ (pv 1) (@aa _ _ _ _ _ (@ah _ _ _ _ _ _ _ _ _ _ _ C_find_worth hr (by lia) rfl (@aa _ _ _ _ _ (pv 3) ac (by rfl)) (by decide) (by rfl) (by rfl)) ac (by rfl)) (by rfl)) (by rfl)) (by decide) (by rfl) (by rfl)))))),?_⟩;cases wy with
    | num i =>
      cases hw;exact ⟨_,rfl,_,"int",rfl,.int i,true,rfl,aI ⟨_,rfl,q⟩⟩
    | node g l r =>
      obtain ⟨a,vl,vr,rfl,ha,hl,hr'⟩:=hw;refine ⟨_,rfl,_,"tuple",rfl,.tup ha,false,rfl,aB ?_⟩;have z:l.size+r.size≤n+1:=hn;have zl:=l.size_pos;have zr:=r.size_pos;refine ⟨_,rfl,a,_,rfl,SqT.of ha,rfl,_,_,rfl,_,_,rfl,_,_,rfl,rfl,?_⟩;refine ⟨_,rfl,l,vl,rfl,hl,by lia,by lia,hB.1,?_⟩;refine ⟨_,rfl,_,rfl,r,vr,rfl,hr',by lia,by lia,hB.2.1,?_⟩;exact ⟨_,g,_,rfl,l.wv_lt hB.1 (by lia),r.wv_lt hB.2.1 (by lia),q⟩
end
open PySem L2
theorem sY {a b:Nat} (ha:1≤a) (hb:1≤b):10 ^ (30 * a) * 10 ^ 25+10 ^ (30 * b)+10 ^ 25≤10 ^ (30 * (a+b)):=by
  have e:10 ^ (30 * (a+b))=10 ^ (30 * a) * 10 ^ (30 * b):=by rw [← Nat.pow_add];congr 1;lia
  have h1:10 ^ 30≤10 ^ (30 * a):=abe (by decide) (by lia);have h2:10 ^ 30≤10 ^ (30 * b):=abe (by decide) (by lia);rw [e];generalize 10 ^ (30 * a)=x at h1 ⊢;generalize 10 ^ (30 * b)=y at h2 ⊢;have h3:x * 10 ^ 30≤x * y:=Nat.mul_le_mul_left _ h2;have h4:10 ^ 30 * y≤x * y:=Nat.mul_le_mul_right _ h1;have a1:x * (10 ^ 25 * 4)≤x * 10 ^ 30:=Nat.mul_le_mul_left x (by decide);have a2:4 * y≤10 ^ 30 * y:=Nat.mul_le_mul_right y (by decide);have a3:10 ^ 25 * 4≤y:=aaE (by decide) h2;have b1:=aaE a1 h3;have b2:=aaE a2 h4;rw [← Nat.mul_assoc] at b1;clear a1 a2 h1 h2 h3 h4 e;generalize x * y=m at b1 b2 ⊢;generalize x * 10 ^ 25=u at b1 ⊢;generalize 10 ^ 25=v at a3 ⊢;lia
theorem wO (g:Sg) {a b:Int} {m n:Nat} (hm:1≤m) (hn:1≤n) (ha:a.natAbs≤10 ^ (30 * m)) (hb:b.natAbs≤10 ^ (30 * n)):(g.op a b).natAbs≤10 ^ (30 * (m+n)):=by
  have tp:=sY hm hn;have em:10 ^ (30 * (m+n))=10 ^ (30 * m) * 10 ^ (30 * n):=by rw [← Nat.pow_add];congr 1;lia
  generalize 10 ^ (30 * m)=x at ha tp em ⊢;generalize 10 ^ (30 * n)=y at hb tp em ⊢;generalize 10 ^ (30 * (m+n))=z at tp em ⊢;cases g with
  | plus=>show (a+b).natAbs≤z;lia
  | minus=>show (a - b).natAbs≤z;lia
  | times=>show (a * b).natAbs≤z;rw [Int.natAbs_mul,em];exact acj ha hb
theorem qE (xs:List V) (c:Nat) (h:c≤xs.length):fw xs none (some (c:Int))=xs.take c:=by
  have e0:HT.sIx xs.length 0 none=0:=by simp [HT.sIx]
  have e1:HT.sIx xs.length xs.length (some (c:Int))=c:=by
    simp only [HT.sIx];split <;> lia
  unfold fw;rw [e0,e1,List.drop_zero];rfl
theorem qF (xs:List V) (c:Nat) (h:c≤xs.length):fw xs (some (c:Int)) none=xs.drop c:=by
  have e0:HT.sIx xs.length xs.length none=xs.length:=by simp [HT.sIx]
  have e1:HT.sIx xs.length 0 (some (c:Int))=c:=by
    simp only [HT.sIx];split <;> lia
  unfold fw;rw [e0,e1,aa1 (by rw [abf];exact aah _)]
def Wy.within (gs:List Sg):Wy→Prop
  | .num _=>True
  | .node g l r=>g∈gs∧l.within gs∧r.within gs
def awC (a:List Int→List Wy) (gs:List Sg) (ns:List Int) (c:Nat):List Wy:=gs.flatMap fun g=>(a (ns.take c)).flatMap fun l=>(a (ns.drop c)).map fun r=>Wy.node g l r
def aw:Nat→List Sg→List Int→List Wy
  | 0,_,_=>[]
  | n+1,gs,ns=>if ns.length=1 then ns.map Wy.num else (aa0 (ns.length - 1)).flatMap fun k=>awC (aw n gs) gs ns (k+1)
def lw:Nat→Nat→Nat→Nat
  | 0,_,_=>0
  | n+1,s,m=>if m=1 then 1 else ((aa0 (m - 1)).map fun k=>s * (lw n s (k+1) * lw n s (m - (k+1)))).sum
theorem jj {α β:Type} (l:List α) (f:α→List β) (c:Nat) (h:∀ x∈l,(f x).length=c):(l.flatMap f).length=l.length * c:=by
  induction l with
  | nil=>simp
  | cons a r ih =>
    rw [List.flatMap_cons,aaj,h a aat,ih fun x hx=>h x (aak _ hx),aaY,Nat.succ_mul];lia
theorem uh (a:List Int→List Wy) (gs:List Sg) (ns:List Int) (c:Nat):(awC a gs ns c).length=gs.length * ((a (ns.take c)).length * (a (ns.drop c)).length):=by
  unfold awC;exact jj _ _ _ fun g _=>jj _ _ _ fun l _=>by rw [aab]
theorem js:∀ (n:Nat) (gs:List Sg) (ns:List Int),(aw n gs ns).length=lw n gs.length ns.length
  | 0,_,_=>rfl
  | n+1,gs,ns=>by
    unfold aw lw;by_cases c:ns.length=1
    · rw [if_pos c,if_pos c,aab,c]
    · rw [if_neg c,if_neg c,List.length_flatMap];congr 1;refine acn fun k hk=>?_;have hk:=aaN.mp hk;rw [uh,js n gs,js n gs,aax,abf,abR (by lia)]
theorem rM:∀ n,n≤6→∀ s,s≤3→∀ m,m≤6→lw n s m≤10206:=by decide +kernel
theorem g6 (gs:List Sg) (w:Wy):∀ (n:Nat) (ns:List Int),1≤ns.length→ns.length≤n→(w∈aw n gs ns↔w.nums=ns∧w.within gs):=by
  intro n
  induction n generalizing w with
  | zero=>intro ns h1 h2;lia
  | succ n ih =>
    intro ns h1 h2;unfold aw;by_cases c:ns.length=1
    · rw [if_pos c];obtain ⟨i,rfl⟩:∃ i,ns=[i]:=List.length_eq_one_iff.mp c;constructor
      · intro h;simp at h;subst h;exact ⟨rfl,trivial⟩
      · rintro ⟨h,_⟩;cases w with
        | num j=>simp [Wy.nums] at h;subst h;simp
        | node g l r =>
          have:=congrArg acF h;have a:=l.size_pos;have b:=r.size_pos;rw [Wy.nums_len] at this;have : l.size+r.size=1:=this;lia
    · rw [if_neg c,abn];constructor
      · rintro ⟨k,hk,hw⟩;have hk:=aaN.mp hk;unfold awC at hw;obtain ⟨g,hg,hw⟩:=abn.mp hw;obtain ⟨l,hl,hw⟩:=abn.mp hw;obtain ⟨r,hr,rfl⟩:=aan.mp hw;obtain ⟨e1,w1⟩:=(ih l (ns.take (k+1)) (by rw [aax];lia) (by rw [aax];lia)).mp hl;obtain ⟨e2,w2⟩:=(ih r (ns.drop (k+1)) (by rw [abf];lia) (by rw [abf];lia)).mp hr;exact ⟨by show l.nums++r.nums=ns;rw [e1,e2,List.take_append_drop],hg,w1,w2⟩
      · rintro ⟨h,hw⟩;cases w with
        | num j=>have:=congrArg acF h;simp [Wy.nums] at this;lia
        | node g l r =>
          have h:l.nums++r.nums=ns:=h;have a:=l.size_pos;have b:=r.size_pos;have ll:=l.nums_len;have lr:=r.nums_len;have hlen:l.size+r.size=ns.length:=by rw [← h,aaj,ll,lr]
          have e1:ns.take (l.size - 1+1)=l.nums:=by rw [← h,show l.size - 1+1=l.nums.length by lia,List.take_left]
          have e2:ns.drop (l.size - 1+1)=r.nums:=by rw [← h,show l.size - 1+1=l.nums.length by lia,List.drop_left]
          refine ⟨l.size - 1,aaN.mpr (by lia),?_⟩;unfold awC;refine List.mem_flatMap.mpr ⟨g,hw.1,List.mem_flatMap.mpr ⟨l,?_,aan.mpr ⟨r,?_,rfl⟩⟩⟩
          · rw [e1];exact (ih l l.nums (by lia) (by lia)).mpr ⟨rfl,hw.2.1⟩
          · rw [e2];exact (ih r r.nums (by lia) (by lia)).mpr ⟨rfl,hw.2.2⟩
theorem WyAll.app {H:Hp} {ws ws':List Wy} {us us':List V} (a:WyAll H ws us) (b:WyAll H ws' us'):WyAll H (ws++ws') (us++us'):=Paired.app a b
theorem lE {H:Hp} {ws:List Wy} {us:List V} (h:WyAll H ws us) {j:Nat} {x:V} (e:us[j]?=some x):∃ w,ws[j]?=some w∧WyIn H w x:=Paired.at h e
theorem Wy.bd_of:∀ (w:Wy),cL w.nums→w.bd
  | .num i,h=>by
    have:=h i (by simp [Wy.nums]);have e10:(10:Nat) ^ (30 * 1)=1000000000000000000000000000000:=by decide
    show i.natAbs≤10 ^ (30 * 1);rw [e10];lia
  | .node g l r,h=>by
    have b1:=l.bd_of fun i hi=>h i (aaD _ hi);have b2:=r.bd_of fun i hi=>h i (aar _ hi);exact ⟨b1,b2,wO g l.size_pos r.size_pos (Wy.wv_bd b1) (Wy.wv_bd b2)⟩
section
variable {P:Program} {w:World} {K:aaa} {mg:Str→Option Value} {base:Heap} {f:Addr} {fd:FuncData}
def gE (n:Nat):Sp:=fun vs H Q _=>∃ (r:Addr) (ns:List Int) (gs:List Sg),vs=[.ref r,.str (al gs)]∧H r=some (.lst (ns.map V.int))∧1≤ns.length∧ns.length≤n∧n≤6∧1≤gs.length∧gs.length≤3 ∧
  ∀ p us H',Same H H'→H p=none→H' p=some (.lst us)→WyAll H' (aw n gs ns) us→Q (.ref p) H'
abbrev fb:Stmt:=top 42
theorem bC:FnScope ["row","signs","found","many","lefts","rights","sign","one"] ["row","signs"] (am fb):=⟨rfl,rfl,rfl,by decide +kernel,rfl,by decide +kernel,by decide +kernel⟩
theorem ie (F:Fun K "_law_ways" "_law_ways" fb f fd) (bF:Binds K fd ["row","signs"] []) (mF:mg "_law_ways" = some (.ref f)) (B:Bu K mg):∀ n,FnOk P w K mg base CX0 (n+1) f fd ["row","signs"] (gE n):=by
  intro n
  induction n with
  | zero =>
    refine ⟨fun vs H Q E h=>?_,fun A outer s H args us vs Q E _ _ _ _ h=>?_⟩
    · obtain ⟨r,ns,gs,rfl,_⟩:=h;rfl
    · obtain ⟨r,ns,gs,_,_,h1,h2,_⟩:=h;lia
  | succ n ih =>
    have C__law_ways:Cal P w K mg base "_law_ways" (n+1) ["row","signs"] (gE n):=⟨f,fd,ih,bF,F.kp,mF⟩
    refine F.ok bC (fun vs H Q E h=>?_) (fun cdv A outer s H vs Q E hr h=>?_)
    · obtain ⟨r,ns,gs,rfl,_⟩:=h;rfl
    obtain ⟨r,ns,gs,rfl,er,h1,h2,h5,g1,g3,q⟩:=h;refine ⟨_,(@af _ _ _ _ _ (@aY _ _ _ _ _ _ _ _ (@aF _ _ _ _ _ _ _ _ bw (@ak _ _ _ _ _ _ _ _ _ ay rfl B.ilen aaO (@aa _ _ _ _ _ (pv 0) ac (by rfl)) (by decide) (by decide) (by rfl) (by rfl)) ae (az _)) (@ag _ _ _ (@ar _ _ _ _ (@aJ _ _ _ _ (@aa _ _ _ _ _ (@aM _ _ _ _ _ _ _ aQ (pv 0) ae (fun _ _=>rfl)) ac (by rfl))))) aG) (@af _ _ _ _ _ (@av _ _ (2) _ _ _ _ (bC).nd rfl (Or.inl rfl) (@aJ _ _ _ _ ac) (by rfl) (by first|exact .inl rfl|exact .inr rfl|assumption)) (@af _ _ _ _ _ (@bb _ _ _ _ _ _ _ _ aaz rfl (@cu _ _ _ _ _ _ _ rfl B.irange (@aa _ _ _ _ _ ae (@aa _ _ _ _ _ (@ak _ _ _ _ _ _ _ _ _ ay rfl B.ilen aaO (@aa _ _ _ _ _ (pv 0) ac (by rfl)) (by decide) (by decide) (by rfl) (by rfl)) ac (by rfl)) (by rfl)) (by rfl) (by rfl)) (@aj _ _ (3) _ (bC).nd rfl (Or.inl rfl) (.inl rfl)) (@af _ _ _ _ _ (@av _ _ (4) _ _ _ _ (bC).nd rfl (Or.inl rfl) (@ah _ _ _ _ _ _ _ _ _ _ _ C__law_ways hr (by lia) rfl (@aa _ _ _ _ _ (@dj _ _ _ _ _ _ _ _ _ _ ge (pv 0) eI (@eF _ _ _ (pv 3))) (@aa _ _ _ _ _ (pv 1) ac (by rfl)) (by rfl)) (by decide) (by rfl) (by rfl)) (by rfl) (by first|exact .inl rfl|exact .inr rfl|assumption)) (@af _ _ _ _ _ (@av _ _ (5) _ _ _ _ (bC).nd rfl (Or.inl rfl) (@ah _ _ _ _ _ _ _ _ _ _ _ C__law_ways hr (by lia) rfl (@aa _ _ _ _ _ (@dj _ _ _ _ _ _ _ _ _ _ ge (pv 0) (@eF _ _ _ (pv 3)) eI) (@aa _ _ _ _ _ (pv 1) ac (by rfl)) (by rfl)) (by decide) (by rfl) (by rfl)) (by rfl) (by first|exact .inl rfl|exact .inr rfl|assumption)) (@ag _ _ _ (@bb _ _ _ _ _ _ _ _ aaz rfl (@gR _ _ _ _ (pv 1)) (@aj _ _ (6) _ (bC).nd rfl (Or.inr rfl) (.inl rfl)) (@ag _ _ _ (@bb _ _ _ _ _ _ _ _ aaz rfl (@cV _ _ _ _ (pv 4)) (@aj _ _ (7) _ (bC).nd rfl (Or.inr rfl) (.inl rfl)) (@ag _ _ _ (@bS _ _ _ _ (@iW _ _ _ _ _ _ _ _ _ _ _ _ aa5 abT abU fG (pv 2) (@aa _ _ _ _ _ (@bZ _ _ _ _ _ _ _ _ (["other","sign","one"]) ([none,some 6,some 7]) _ _ _ _ rfl (@cV _ _ _ _ (pv 5)) rfl ⟨rfl,⟨rfl,trivial⟩⟩ ⟨⟨rfl,Or.inl rfl,Or.inl rfl⟩,⟨⟨rfl,Or.inl rfl,Or.inl rfl⟩,trivial⟩⟩ (fun _ _ _ _=>⟨(@aj _ _ (0) _ (show aaX (["other","sign","one"]:List Str) by decide +kernel) rfl (Or.inl rfl) (.inr rfl)),aH,(@au _ _ _ _ _ (@aa _ _ _ _ _ (pv 1) (@aa _ _ _ _ _ (pv 2) (@aa _ _ _ _ _ (pv 0) ac (by rfl)) (by rfl)) (by rfl)))⟩) (by rfl) (by rfl) (by rfl) (by rfl) (by intro _;rfl)) ac (by rfl)) (by rfl) (by rfl) (by rfl) (by rfl) (by rfl)) (by rfl))) (by intro _;rfl))) (by intro _;rfl))))) (by intro _;rfl)) (@ag _ _ _ (@ar _ _ _ _ (pv 2)))))),?_⟩;have hl:(ns.map V.int).length=ns.length:=aab _;have hB:=rM (n+1) h5 gs.length g3 ns.length (by lia);rw [← js] at hB;refine ⟨_,rfl,r,_,rfl,.inl (SqL.of er),rfl,_,rfl,g_ (fun c=>?_) (fun c=>?_)⟩
    · have c:ns.length=1:=by
        have:=of_decide_eq_true c;injection this with this
        rw [hl] at this;lia
      obtain ⟨i,rfl⟩:∃ i,ns=[i]:=List.length_eq_one_iff.mp c;refine ⟨_,rfl,r,_,_,_,rfl,rfl,SqL.of er,rfl,(by show 1≤sizeLine;decide),fun p np=>q p _ _ (Same.new np _) np ad ?_⟩;unfold aw;rw [if_pos c];exact .cons rfl .nil
    have cn:ns.length≠1:=fun z=>c (by rw [hl,z];rfl);refine ⟨(by show 0≤sizeLine;decide),fun pf nf=>?_⟩;have sf:=Same.new nf (.lst []);have ef:upd H pf (.lst []) pf=some (.lst ([]:List V)):=ad;generalize upd H pf (.lst [])=H0 at sf ef ⊢;have er0:=sf _ _ er;have nrf:r≠pf:=ao er nf;refine ⟨_,rfl,r,_,rfl,.inl (SqL.of er0),1,((ns.map V.int).length:Nat),rfl,⟨by decide,by decide,by lia,by lia⟩,?_⟩;rw [hl];have e1:(((ns.length:Nat):Int) - 1).toNat=ns.length - 1:=by lia
    refine bq (n:=(((ns.length:Nat):Int) - 1).toNat) (fun j σ H'=>∃ (us:List V) (c3 c4 c5 c6 c7:Option V),σ=[some (.ref r),some (.str (al gs)),some (.ref pf),c3,c4,c5,c6,c7]∧H' pf=some (.lst us)∧WyAll H' (((aa0 (ns.length - 1)).take j).flatMap fun k=>awC (aw n gs) gs ns (k+1)) us∧Same H H') ⟨[],_,_,_,_,_,rfl,ef,.nil,sf⟩ ?_ ?_
    · rintro j σ H1 hj ⟨us,c3,c4,c5,c6,c7,rfl,ef1,hw1,S1⟩;have hj':j < ns.length - 1:=by lia
      have hjr:(aa0 (ns.length - 1))[j]?=some j:=aa4 hj';have eaw:ns.length≠1:=by lia
      have eaw2:aw (n+1) gs ns=(aa0 (ns.length - 1)).flatMap fun k=>awC (aw n gs) gs ns (k+1):=by conv=>lhs;unfold aw;rw [if_neg eaw]
      have ej:(1:Int)+(j:Int)=((j+1:Nat):Int):=by lia
      rw [ej];have lt:(ns.take (j+1)).length=j+1:=by rw [aax];lia
      have ld:(ns.drop (j+1)).length=ns.length - (j+1):=by rw [abf]
      refine ⟨_,rfl,_,rfl,((j+1:Nat):Int),rfl,r,_,rfl,SqL.of (S1 _ _ er),fun p2 n2=>?_⟩;rw [qE _ _ (by lia),← act];have s2:=Same.new n2 (.lst ((ns.take (j+1)).map V.int));refine ⟨_,rfl,p2,ns.take (j+1),gs,rfl,ad,by lia,by lia,by lia,g1,g3,fun pl ul H3 s3 npl epl hwl=>?_⟩;have S3:=s2.trans s3;refine ⟨_,rfl,_,rfl,((j+1:Nat):Int),rfl,r,_,rfl,SqL.of ((S1.trans S3) _ _ er),fun p4 n4=>?_⟩;rw [qF _ _ (by lia),← List.map_drop];have s4:=Same.new n4 (.lst ((ns.drop (j+1)).map V.int));refine ⟨_,rfl,p4,ns.drop (j+1),gs,rfl,ad,by lia,by lia,by lia,g1,g3,fun pr ur H5 s5 npr epr hwr=>?_⟩;have S5:=s4.trans s5;have S15:=S3.trans S5;have ef5:=S15 _ _ ef1;have epl5:=S5 _ _ epl;have hwl5:=hwl.mono (Tups.of S5);have hw5:=hw1.mono (Tups.of S15);have nlf:pl≠pf:=fun e=>by rw [e] at npl;rw [s2 _ _ ef1] at npl;cases npl
      have nrf':pr≠pf:=fun e=>by rw [e] at npr;rw [s4 _ _ (S3 _ _ ef1)] at npr;cases npr
      have SS5:=S1.trans S15;have lul:=hwl.length;have lur:=hwr.length;generalize hA:((aa0 (ns.length - 1)).take j).flatMap (fun k=>awC (aw n gs) gs ns (k+1))=A at hw5;have preA:∀ q,q <+: awC (aw n gs) gs ns (j+1)→(A++q).length≤10206:=fun q hq=>by
        have:=(fj (f:=fun k=>awC (aw n gs) gs ns (k+1)) hjr hq).length_le;rw [hA,← eaw2] at this;lia
      refine ⟨_,rfl,_,rfl,cj gs,ub (fun a σ H'=>∃ (us:List V) (c6 c7:Option V),σ=[some (.ref r),some (.str (al gs)),some (.ref pf),some (.int ((j+1:Nat):Int)),some (.ref pl),some (.ref pr),c6,c7]∧H' pf=some (.lst us)∧H' pl=some (.lst ul)∧H' pr=some (.lst ur)∧WyAll H' (aw n gs (ns.take (j+1))) ul∧WyAll H' (aw n gs (ns.drop (j+1))) ur∧WyAll H' (A++((gs.take a).flatMap fun g=>(aw n gs (ns.take (j+1))).flatMap fun l=>(aw n gs (ns.drop (j+1))).map fun r=>Wy.node g l r)) us∧Same H H') ⟨us,_,_,rfl,ef5,epl5,epr,hwl5,hwr,by simpa using hw5,SS5⟩ ?_ ?_⟩
      · rintro a c σ H6 hc ⟨us6,c6,c7,rfl,ef6,epl6,epr6,hwl6,hwr6,hw6,S6⟩;obtain ⟨g,hg,rfl⟩:=jO hc;generalize hGA:(gs.take a).flatMap (fun g=>(aw n gs (ns.take (j+1))).flatMap fun l=>(aw n gs (ns.drop (j+1))).map fun r=>Wy.node g l r)=GA at hw6;refine ⟨_,rfl,pl,rfl,⟨_,SqL.of epl6⟩,sx (xs:=ul) (fun b σ H'=>∃ (us:List V) (c7:Option V),σ=[some (.ref r),some (.str (al gs)),some (.ref pf),some (.int ((j+1:Nat):Int)),some (.ref pl),some (.ref pr),some (.str ⟨#[g.code]⟩),c7]∧H' pf=some (.lst us)∧H' pl=some (.lst ul)∧H' pr=some (.lst ur)∧WyAll H' (aw n gs (ns.take (j+1))) ul∧WyAll H' (aw n gs (ns.drop (j+1))) ur∧WyAll H' (A++(GA++(((aw n gs (ns.take (j+1))).take b).flatMap fun l=>(aw n gs (ns.drop (j+1))).map fun r=>Wy.node g l r))) us∧Same H H') ⟨us6,_,rfl,ef6,epl6,epr6,hwl6,hwr6,by simpa using hw6,S6⟩ ?_ ?_ ?_⟩
        · rintro b σ H7 _ ⟨_,_,rfl,_,e,_⟩;exact SqL.of e
        · rintro b x σ H7 hx ⟨us7,c7,rfl,ef7,epl7,epr7,hwl7,hwr7,hw7,S7⟩;obtain ⟨lw0,hlw,hlx⟩:=lE hwl7 hx;refine ⟨_,rfl,.inl ⟨rfl,_,SqL.of ef7⟩,?_⟩;refine ⟨_,rfl,pr,rfl,⟨_,SqL.of epr7⟩,?_⟩;have lrb:=rM n (by lia) gs.length g3 (ns.drop (j+1)).length (by lia);rw [← js] at lrb;refine b_ (Trn.list (xs:=ur)) (fun i ys H'=>Same H7 H'∧WyAll H' (((aw n gs (ns.drop (j+1))).take i).map fun r=>Wy.node g lw0 r) ys) ⟨Same.refl _,.nil⟩ (fun i ys H' hi z=>⟨SqL.of (z.1 _ _ epr7),gC (by have:=z.2.length;rw [← this,aab,aax];lia)⟩) (fun i y ys H0' H' hi hy z Nx nx=>?_) (fun ys H' z p9 n9=>?_)
          · obtain ⟨rfl,hy⟩:=hy;obtain ⟨S8,hys⟩:=z;obtain ⟨rw0,hrw,hry⟩:=lE (hwr7.mono (Tups.of S8)) hy;refine ⟨_,rfl,_,rfl,_,rfl,(by show 3≤sizeLine;decide),fun t ht=>nx _ _ ?_⟩;have st:=Same.new ht (.tup [.str ⟨#[g.code]⟩,x,y]);refine ⟨S8.trans st,?_⟩;rw [aay,hrw,aaH];refine WyAll.app (hys.mono (Tups.of st)) (.cons ⟨t,x,y,rfl,?_,(hlx.mono (Tups.of (S8.trans st))),hry.mono (Tups.of st)⟩ .nil);rw [ad,bJ]
          obtain ⟨S8,hys⟩:=z;rw [← hwr7.length,aaZ] at hys;have s9:=Same.new n9 (.lst ys);have S9:=S8.trans s9;have ef9:=S9 _ _ ef7;have hys9:=hys.mono (Tups.of s9);have hpre:(A++(GA++(((aw n gs (ns.take (j+1))).take b).flatMap (fun l=>(aw n gs (ns.drop (j+1))).map fun r=>Wy.node g l r)++(aw n gs (ns.drop (j+1))).map fun r=>Wy.node g lw0 r))).length≤10206:=by
            refine preA _ ?_;unfold awC;rw [← hGA];exact fj (f:=fun g=>(aw n gs (ns.take (j+1))).flatMap fun l=>(aw n gs (ns.drop (j+1))).map fun r=>Wy.node g l r) hg (fj (f:=fun l=>(aw n gs (ns.drop (j+1))).map fun r=>Wy.node g l r) hlw (List.prefix_refl _))
          have l7:=hw7.length;have l9:=hys.length;simp only [aaj] at hpre l7;have nfp:pf≠p9:=ao (S8 _ _ ef7) n9;refine ⟨pf,p9,_,_,rfl,rfl,ef9,ad,?_,?_⟩
          · exact abz (gC (by lia))
          have T9:Tups (upd H' p9 (.lst ys)) (upd (upd H' p9 (.lst ys)) pf (.lst (us7++ys))):=fun c xs hc=>by rw [aq (fun e=>by rw [e,ef9] at hc;cases hc)];exact hc
          have T79:=(Tups.of S9).trans T9;refine ⟨us7++ys,_,rfl,?_,?_,?_,hwl7.mono T79,hwr7.mono T79,?_,(S7.trans S9).upd nf⟩
          · exact ad
          · rw [aq nlf];exact S9 _ _ epl7
          · rw [aq nrf'];exact S9 _ _ epr7
          · rw [aZ (f:=fun l=>(aw n gs (ns.drop (j+1))).map fun r=>Wy.node g l r) hlw];have:=WyAll.app (hw7.mono T79) (hys9.mono T9);simpa [aaA] using this
        · rintro σ H7 ⟨us7,c7,rfl,ef7,epl7,epr7,hwl7,hwr7,hw7,S7⟩;refine ⟨us7,_,_,rfl,ef7,epl7,epr7,hwl7,hwr7,?_,S7⟩;rw [← hwl7.length,aaZ] at hw7;rw [aZ (f:=fun g=>(aw n gs (ns.take (j+1))).flatMap fun l=>(aw n gs (ns.drop (j+1))).map fun r=>Wy.node g l r) hg,hGA];exact hw7
      · rintro σ H6 ⟨us6,c6,c7,rfl,ef6,epl6,epr6,hwl6,hwr6,hw6,S6⟩;refine ⟨us6,_,_,_,_,_,rfl,ef6,?_,S6⟩;rw [dZ,aaZ] at hw6;rw [aZ (f:=fun k=>awC (aw n gs) gs ns (k+1)) hjr,hA];exact hw6
    · rintro σ H1 ⟨us,c3,c4,c5,c6,c7,rfl,ef1,hw1,S1⟩;rw [e1,aa1 (by simp)] at hw1;refine ⟨_,rfl,q pf us H1 S1 nf ef1 ?_⟩;unfold aw;rw [if_neg cn];exact hw1
def gc (n:Nat):Sp:=fun vs H Q _=>∃ (w:Wy) (v:V),vs=[v]∧WyIn H w v∧w.size≤n∧n≤9∧w.bd∧∀ H',Same H H'→Q (.int w.wv) H'
abbrev eu:Stmt:=top 41
theorem jz:FnScope ["way"] ["way"] (am eu):=⟨rfl,rfl,rfl,by decide +kernel,rfl,by decide +kernel,by decide +kernel⟩
theorem kM (F:Fun K "_law_worth" "_law_worth" eu f fd) (bF:Binds K fd ["way"] []) (mF:mg "_law_worth" = some (.ref f)) (B:Bu K mg) (C__law_put:Cal P w K mg base "_law_put" 1 ["sign","one","other"] gF):∀ n,FnOk P w K mg base CX0 (n+2) f fd ["way"] (gc n):=by
  intro n
  induction n with
  | zero =>
    refine ⟨fun vs H Q E h=>?_,fun A outer s H args us vs Q E _ _ _ _ h=>?_⟩
    · obtain ⟨w,v,rfl,_⟩:=h;rfl
    · obtain ⟨w,v,_,_,h2,_⟩:=h;have:=w.size_pos;lia
  | succ n ih =>
    have C__law_worth:Cal P w K mg base "_law_worth" (n+2) ["way"] (gc n):=⟨f,fd,ih,bF,F.kp,mF⟩
    refine F.ok jz (fun vs H Q E h=>?_) (fun cdv A outer s H vs Q E hr h=>?_)
    · obtain ⟨w,v,rfl,_⟩:=h;rfl
    obtain ⟨w,v,rfl,hw,hn,h9,hb,q⟩:=h;refine ⟨_,(@af _ _ _ _ _ (@aY _ _ _ _ _ _ _ _ (@bh _ _ _ (@ak _ _ _ _ _ _ _ _ _ (@aN _ ("tuple")) rfl B.iisinstance aap (@aa _ _ _ _ _ (pv 0) (@aa _ _ _ _ _ (@bu _ _ (.ty "tuple") _ _ rfl B.ituple abm rfl (by decide) (by decide)) ac (by rfl)) (by rfl)) (by decide) (by decide) (by rfl) (by rfl)) (by intro _;rfl)) (@ag _ _ _ (@ar _ _ _ _ (@ah _ _ _ _ _ _ _ _ _ _ _ C__law_put hr (by lia) rfl (@aa _ _ _ _ _ (@aM _ _ _ _ _ _ _ bP (pv 0) ae (fun _ _=>rfl)) (@aa _ _ _ _ _ (@ah _ _ _ _ _ _ _ _ _ _ _ C__law_worth hr (by lia) rfl (@aa _ _ _ _ _ (@aM _ _ _ _ _ _ _ bP (pv 0) ae (fun _ _=>rfl)) ac (by rfl)) (by decide) (by rfl) (by rfl)) (@aa _ _ _ _ _ (@ah _ _ _ _ _ _ _ _ _ _ _ C__law_worth hr (by lia) rfl (@aa _ _ _ _ _ (@aM _ _ _ _ _ _ _ bP (pv 0) ae (fun _ _=>rfl)) ac (by rfl)) (by decide) (by rfl) (by rfl)) ac (by rfl)) (by rfl)) (by rfl)) (by decide) (by rfl) (by rfl)))) aG) (@ag _ _ _ (@ar _ _ _ _ (pv 0)))),?_⟩;cases w with
    | num i =>
      cases (show v=.int i from hw);exact ⟨_,rfl,_,_,false,rfl,.int i,rfl,false,rfl,aB ⟨_,rfl,q H (Same.refl _)⟩⟩
    | node g l r =>
      obtain ⟨a,vl,vr,rfl,ea,hl,hr'⟩:=hw;have p1:=l.size_pos;have p2:=r.size_pos;have hn:l.size+r.size≤n+1:=hn;obtain ⟨bl,br,bn⟩:=hb;refine ⟨_,rfl,_,_,true,rfl,.tup ea,rfl,true,rfl,aI ?_⟩;refine ⟨_,rfl,a,_,_,_,rfl,rfl,SqT.of ea,rfl,?_⟩;refine ⟨_,rfl,a,_,_,_,rfl,rfl,SqT.of ea,rfl,l,vl,rfl,hl,by lia,by lia,bl,fun H1 s1=>?_⟩;refine ⟨_,rfl,a,_,_,_,rfl,rfl,SqT.of (s1 _ _ ea),rfl,r,vr,rfl,hr'.mono (Tups.of s1),by lia,by lia,br,fun H2 s2=>?_⟩;exact ⟨_,g,_,rfl,l.wv_lt bl (by lia),r.wv_lt br (by lia),q _ (s1.trans s2)⟩
end
open PySem L2
def ax:Wy→PyData
  | .num i=>.int i
  | .node g l r=>.tuple [.str g.str,ax l,ax r]
theorem WyIn.dat {H:Hp}:∀ {w:Wy} {v:V},WyIn H w v→Dat H (ax w) v
  | .num i,v,h=>by
    simp only [ax,Dat];exact h
  | .node g l r,v,h=>by
    obtain ⟨a,vl,vr,rfl,ha,hl,hr⟩:=h;simp only [ax,Dat,DatAll];exact ⟨a,_,rfl,ha,_,_,rfl,rfl,_,_,rfl,WyIn.dat hl,_,_,rfl,WyIn.dat hr,rfl⟩
theorem eU:∀ w:Wy,(ax w).canLay0=true
  | .num i=>by simp [ax,abd]
  | .node g l r=>by
    have e:(PyData.str g.str).canLay0=true:=by cases g <;> decide +kernel
    simp only [ax,abd,aa6,eU l,eU r,acb];simpa [abd] using e
theorem mU:∀ gs:List Sg,gs.length≤3→cX gs→gs=[.plus]∨gs=[.minus]∨gs=[.times]∨gs=[.plus,.minus]∨gs=[.plus,.times]∨gs=[.minus,.times]∨gs=[.plus,.minus,.times]
  | [],_,h=>absurd h (by unfold cX;decide +kernel)
  | [a],_,_=>by cases a <;> simp
  | [a,b],_,h=>by
    cases a <;> cases b <;> first|decide|exact absurd h (by unfold cX;decide +kernel)
  | [a,b,c],_,h=>by
    cases a <;> cases b <;> cases c <;> first|decide|exact absurd h (by unfold cX;decide +kernel)
  | _ :: _ :: _ :: _ :: _,h,_=>by simp at h
mutual
def eP:PyData→Option Nat
  | .int _=>some 1
  | .bool _=>some 1
  | .tuple ds=>cntBT ds
  | .none=>none
  | .str _=>none
  | .list _=>none
  | .dict _=>none
def cntBT:List PyData→Option Nat
  | []=>none
  | [_]=>none
  | [_,_]=>none
  | [s,l,r]=>if sgD s then (match eP l,eP r with|some a,some b=>some (a+b)|_,_=>none) else none
  | _ :: _ :: _ :: _ :: _=>none
end
theorem uc {g:Sg} {d:PyData} (h:aaI (.str g.str) d=true):sgD d=true:=by
  cases d with
  | str z =>
    have : g.str=z:=by simpa [aaI] using h
    rw [← this];exact jh g
  | int j=>simp [aaI] at h
  | bool b=>simp [aaI] at h
  | none=>simp [aaI] at h
  | list ds=>simp [aaI] at h
  | tuple ds=>simp [aaI] at h
  | dict ds=>simp [aaI] at h
theorem k_:∀ (w:Wy) (d:PyData),aaI (ax w) d=true→eP d=some w.size
  | .num i,d,h=>by
    cases d with
    | int j=>rfl
    | bool b=>rfl
    | none=>simp [ax,aaI] at h
    | str z=>simp [ax,aaI] at h
    | list ds=>simp [ax,aaI] at h
    | tuple ds=>simp [ax,aaI] at h
    | dict ds=>simp [ax,aaI] at h
  | .node g l r,d,h=>by
    cases d with
    | int j=>simp [ax,aaI] at h
    | bool b=>simp [ax,aaI] at h
    | none=>simp [ax,aaI] at h
    | str z=>simp [ax,aaI] at h
    | list ds=>simp [ax,aaI] at h
    | dict ds=>simp [ax,aaI] at h
    | tuple ds =>
      simp only [ax,aaI] at h
      match ds,h with
      | [],h=>simp [acw] at h
      | [_],h=>simp [acw] at h
      | [_,_],h=>simp [acw] at h
      | [a,b,c],h =>
        simp only [acw,acb,aaS] at h;show (if sgD a then (match eP b,eP c with|some a,some b=>some (a+b)|_,_=>none) else none)=_;rw [k_ l b h.2.1,k_ r c h.2.2,if_pos (uc h.1)];rfl
      | _ :: _ :: _ :: _ :: _,h=>simp [acw] at h
theorem n_:∀ (w v:Wy),aaI (ax w) (ax v)=true→w=v
  | .num i,.num j,h=>by simp [ax,aaI] at h;rw [h]
  | .num i,.node g l r,h=>by simp [ax,aaI] at h
  | .node g l r,.num j,h=>by simp [ax,aaI] at h
  | .node g l r,.node g' l' r',h=>by
    simp only [ax,aaI,acw,acb,aaS] at h;have eg:g=g':=by
      have:=h.1;revert this;cases g <;> cases g' <;> first|(intro _;rfl)|(intro h;exact absurd h (by decide +kernel))
    rw [eg,n_ l l' h.2.1,n_ r r' h.2.2]
theorem jo:∀ w:Wy,aR (ax w)=some w.size
  | .num i=>rfl
  | .node g l r=>by
    show (if sgD (.str g.str) then (match aR (ax l),aR (ax r) with|some a,some b=>some (a+b)|_,_=>none) else none)=_;rw [jo l,jo r,show sgD (.str g.str)=true from jh g];rfl
theorem rT {w:Wy} (h:w.size≤9):bH (ax w)=true:=by
  unfold bH;rw [jo];exact decide_eq_true h
theorem vJ {gs:List Sg} (h3:gs.length≤3) (sp:cX gs) (g:Sg):t_ (al gs) g.str=decide (g∈gs):=by
  rcases mU gs h3 sp with rfl|rfl|rfl|rfl|rfl|rfl|rfl <;> cases g <;> decide +kernel
def WT (H:Hp) (n:Nat) (x:V):Option Wy→Prop
  | some w=>WyIn H w x∧w.size≤9∧w.bd
  | none=>(∃ d,Dat H d x∧bH d=false∧d.canLay0=true∧d.depth≤40∧((∃ b,x=.bl b)∨((∀ b,x≠.bl b)∧eP d≠some n)))∨∃ a,x=.ref a∧H a=some (.dK [])
theorem WT.mono {H H':Hp} {n:Nat} {x:V} {o:Option Wy} (g:Same H H') (h:WT H n x o):WT H' n x o:=by
  cases o with
  | some w=>exact ⟨h.1.mono (Tups.of g),h.2⟩
  | none =>
    rcases h with ⟨d,h1,h2⟩|⟨a,e,h⟩
    · exact .inl ⟨d,Dat.mono g _ _ h1,h2⟩
    · exact .inr ⟨a,e,g _ _ h⟩
def inW (ns:List Int) (gs:List Sg) (w:Wy):Bool:=decide (w.nums=ns) && w.sgs.all fun g=>decide (g∈gs)
def shR (ns:List Int) (gs:List Sg):Option (Int × Int)→Option Wy→Bool × Bool
  | some e,some w=>(inW ns gs w && decide (w.wv=e.2),inW ns gs w && decide (w.wv=e.1))
  | _,_=>(false,false)
theorem dO (ns:List Int) (gs:List Sg) (e:Int × Int) (w:Wy):shR ns gs (some e) (some w)=(inW ns gs w && decide (w.wv=e.2),inW ns gs w && decide (w.wv=e.1)):=rfl
theorem sE {K:aaa} {H:Hp} {a b:Addr} {ns ms:List Int} {Q:VK} (ha:SqL K H a (ns.map V.int)) (hb:SqL K H b (ms.map V.int)) (q:Q (.bl (decide (ns=ms))) H):uT K false (.ref a) (.ref b) H Q:=by
  refine ⟨0,a,b,_,_,by decide,rfl,rfl,ha,hb,?_⟩;by_cases c:(ns.map V.int).length=(ms.map V.int).length
  · refine .inr ⟨fun j=>eqV (.int (ns.getD j 0)) (.int (ms.getD j 0)),c,fun j x y hx hy=>?_,?_⟩
    · rw [aao] at hx hy;obtain ⟨i,hi,rfl⟩:=aa7.mp hx;obtain ⟨i',hi',rfl⟩:=aa7.mp hy;have e1:ns.getD j 0=i:=by rw [aaG,hi];rfl
      have e2:ms.getD j 0=i':=by rw [aaG,hi'];rfl
      show EqR K H 0 (.int i) (.int i') (eqV (.int (ns.getD j 0)) (.int (ms.getD j 0)));rw [e1,e2];exact EqR.flat rfl rfl
    · have c':ns.length=ms.length:=by simpa using c
      have e:((aa0 (ns.map V.int).length).all fun j=>eqV (.int (ns.getD j 0)) (.int (ms.getD j 0)))=decide (ns=ms):=by
        rw [abB,aaV,decide_eq_true_eq,aab];constructor
        · intro h;refine List.ext_getElem c' fun i h1 h2=>?_;have:=h i (aaN.mpr h1);rw [aaG,aaG,aac h1,aac h2] at this;have : decide (ns[i]=ms[i])=true:=by simpa [eqV] using this
          exact of_decide_eq_true this
        · rintro rfl j hj;exact jk rfl
      show Q (.bl (List.all _ _)) H;rw [e];exact q
  · have e:ns≠ms:=fun z=>c (by rw [z]);rw [decide_eq_false e] at q;exact .inl ⟨c,q⟩
section
variable {P:Program} {w:World} {K:aaa} {mg:Str→Option Value} {base:Heap} {f:Addr} {fd:FuncData}
def oJ:Sp:=fun vs H Q _=>∃ (r:Addr) (ns:List Int) (gs:List Sg) (x:V) (o:Option Wy),vs=[.ref r,.str (al gs),x]∧H r=some (.lst (ns.map V.int))∧ns.length≤9∧1≤gs.length∧gs.length≤3∧cX gs∧(∃ n0,WT H n0 x o)∧∀ H',Same H H'→Q (.bl (match o with|some w=>inW ns gs w|none=>false)) H'
abbrev dB:Stmt:=top 32
theorem iQ:FnScope ["row","signs","thing"] ["row","signs","thing"] (am dB):=⟨rfl,rfl,rfl,by decide +kernel,rfl,by decide +kernel,by decide +kernel⟩
theorem i_ (F:Fun K "is_way_with" "is_way_with" dB f fd) (C_is_way:Cal P w K mg base "is_way" 2 ["thing"] iJ) (C_list_numbers:Cal P w K mg base "list_numbers" 21 ["way"] (km 20)) (C_has_signs_among:Cal P w K mg base "has_signs_among" 22 ["way","signs"] qT):FnOk P w K mg base CX0 23 f fd ["row","signs","thing"] oJ:=by
  refine F.ok iQ (fun vs H Q E h=>?_) (fun cdv A outer s H vs Q E hr h=>?_)
  · obtain ⟨r,ns,gs,x,o,rfl,_⟩:=h;rfl
  obtain ⟨r,ns,gs,x,o,rfl,er,n9,g1,g3,sp,⟨n0,hx⟩,q⟩:=h;refine ⟨_,(@ag _ _ _ (@ar _ _ _ _ (@b5 _ _ _ _ _ _ _ (@ah _ _ _ _ _ _ _ _ _ _ _ C_is_way hr (by lia) rfl (@aa _ _ _ _ _ (pv 2) ac (by rfl)) (by decide) (by rfl) (by rfl)) (@b5 _ _ _ _ _ _ _ (@aO _ _ _ _ _ _ _ _ (@nF _ hr.units) (@ah _ _ _ _ _ _ _ _ _ _ _ C_list_numbers hr (by lia) rfl (@aa _ _ _ _ _ (pv 2) ac (by rfl)) (by decide) (by rfl) (by rfl)) (pv 0) (az _)) (@eK _ _ _ _ _ (@ah _ _ _ _ _ _ _ _ _ _ _ C_has_signs_among hr (by lia) rfl (@aa _ _ _ _ _ (pv 2) (@aa _ _ _ _ _ (pv 1) ac (by rfl)) (by rfl)) (by decide) (by rfl) (by rfl))))))),?_⟩;cases o with
  | none =>
    have go:∃ d,Dat H d x∧bH d=false:=by
      rcases hx with ⟨d,h1,h2,_⟩|⟨a,rfl,h⟩
      · exact ⟨d,h1,h2⟩
      · exact ⟨.dict [],by simp only [Dat,DatKv];exact ⟨a,[],rfl,h,rfl⟩,rfl⟩
    obtain ⟨d,hd,c⟩:=go;refine ⟨_,rfl,d,x,rfl,hd,fun H1 s1=>?_⟩;rw [c];exact ⟨false,rfl,aB (q H1 s1)⟩
  | some w0 =>
    obtain ⟨hw,sz,bd⟩:=hx;refine ⟨_,rfl,ax w0,x,rfl,hw.dat,fun H1 s1=>?_⟩;rw [rT sz];refine ⟨true,rfl,aI ?_⟩;have dl:=w0.deep_le;refine ⟨_,rfl,w0,x,rfl,hw.mono (Tups.of s1),by lia,by lia,fun p2 H2 s2 np2 ep2=>?_⟩;have S2:=s1.trans s2;refine ⟨_,rfl,sE (SqL.of ep2) (SqL.of (S2 _ _ er)) ⟨_,rfl,?_⟩⟩;by_cases c:w0.nums=ns
    · rw [decide_eq_true c];refine aI ⟨_,rfl,_,rfl,w0,x,_,rfl,hw.mono (Tups.of S2),by lia,fun H3 s3=>?_⟩;have q:=q H3 (S2.trans s3);have e:(w0.sgs.all fun g=>t_ (al gs) g.str)=inW ns gs w0:=by
        unfold inW;rw [decide_eq_true c,abk];congr 1;funext g;exact vJ g3 sp g
      rw [e];exact q
    · rw [decide_eq_false c];have q:=q H2 S2;have e:inW ns gs w0=false:=by unfold inW;rw [decide_eq_false c,abZ]
      have q:Q (.bl (inW ns gs w0)) H2:=q;rw [e] at q;exact aB q
def dY (w:World) (K:aaa) (k:Bool × Bool→Bool):Sp:=fun vs H Q _=>∃ (r:Addr) (ns:List Int) (gs:List Sg) (x:V) (o:Option Wy) (t:Option PPa) (v:V),vs=[.ref r,.str (al gs),x,v]∧H r=some (.lst (ns.map V.int))∧1≤ns.length∧ns.length≤9∧1≤gs.length∧gs.length≤3∧cX gs∧(∃ n0,WT H n0 x o)∧ThIn w K H t v∧(∀ ps,t=some ps→OkP ps) ∧
  ∀ H',Same H H'→Q (.bl (k (shR ns gs (cI ns gs t) o))) H'
abbrev cq:Stmt:=top 28
theorem dv:FnScope ["row","signs","way","thing","said"] ["row","signs","way","thing"] (am cq):=⟨rfl,rfl,rfl,by decide +kernel,rfl,by decide +kernel,by decide +kernel⟩
theorem gx (F:Fun K "greatest_shown" "greatest_shown" cq f fd) (C_bounds_say:Cal P w K mg base "bounds_say" 4 ["row","signs","thing"] (oH w K)) (C_is_way_with:Cal P w K mg base "is_way_with" 23 ["row","signs","thing"] oJ) (C_find_worth:Cal P w K mg base "find_worth" 10 ["way"] (iL 9)):FnOk P w K mg base CX0 24 f fd ["row","signs","way","thing"] (dY w K fun r=>r.1):=by
  refine F.ok dv (fun vs H Q E h=>?_) (fun cdv A outer s H vs Q E hr h=>?_)
  · obtain ⟨r,ns,gs,x,o,t,v,rfl,_⟩:=h;rfl
  obtain ⟨r,ns,gs,x,o,t,v,rfl,er,n1,n9,g1,g3,sp,⟨n0,hx⟩,ht,hok,q⟩:=h;refine ⟨_,(@af _ _ _ _ _ (@av _ _ (4) _ _ _ _ (dv).nd rfl (Or.inl rfl) (@ah _ _ _ _ _ _ _ _ _ _ _ C_bounds_say hr (by lia) rfl (@aa _ _ _ _ _ (pv 0) (@aa _ _ _ _ _ (pv 1) (@aa _ _ _ _ _ (pv 3) ac (by rfl)) (by rfl)) (by rfl)) (by decide) (by rfl) (by rfl)) (by rfl) (by first|exact .inl rfl|exact .inr rfl|assumption)) (@ag _ _ _ (@ar _ _ _ _ (@b5 _ _ _ _ _ _ _ (@aO _ _ _ _ _ _ _ _ oR (pv 4) bO (az _)) (@b5 _ _ _ _ _ _ _ (@ah _ _ _ _ _ _ _ _ _ _ _ C_is_way_with hr (by lia) rfl (@aa _ _ _ _ _ (pv 0) (@aa _ _ _ _ _ (pv 1) (@aa _ _ _ _ _ (pv 2) ac (by rfl)) (by rfl)) (by rfl)) (by decide) (by rfl) (by rfl)) (@eK _ _ _ _ _ (@aO _ _ _ _ _ _ _ _ bw (@ah _ _ _ _ _ _ _ _ _ _ _ C_find_worth hr (by lia) rfl (@aa _ _ _ _ _ (pv 2) ac (by rfl)) (by decide) (by rfl) (by rfl)) (@aM _ _ _ _ _ _ _ bP (pv 4) ae (fun _ _=>rfl)) (az _)))))))),?_⟩;refine ⟨_,rfl,_,rfl,_,rfl,r,ns,gs,t,v,rfl,er,n1,n9,g1,g3,sp,ht,hok,fun H1 s1=>?_⟩;constructor
  · intro e;have q:=q H1 s1;rw [e] at q;have e0:shR ns gs none o=(false,false):=by cases o <;> rfl
    rw [e0] at q;exact ⟨_,rfl,rfl,false,rfl,aB q⟩
  · intro e tt he ett;have q:=fun H' (g:Same H1 H')=>q H' (s1.trans g);rw [he] at q;refine ⟨_,rfl,rfl,true,rfl,aI ?_⟩;refine ⟨_,rfl,_,rfl,_,rfl,r,ns,gs,x,o,rfl,s1 _ _ er,n9,g1,g3,sp,⟨n0,hx.mono s1⟩,fun H2 s2=>?_⟩;cases o with
    | none=>exact ⟨false,rfl,aB (q _ s2)⟩
    | some w0 =>
      obtain ⟨hw,sz,bd⟩:=hx;have q2:=q _ s2;refine ⟨inW ns gs w0,rfl,?_⟩;cases c:inW ns gs w0 with
      | false =>
        have e0:(shR ns gs (some e) (some w0))=(false,false):=by rw [dO,c];rfl
        rw [e0] at q2;exact aB q2
      | true =>
        have e0:(shR ns gs (some e) (some w0))=(decide (w0.wv=e.2),decide (w0.wv=e.1)):=by rw [dO,c,abk,abk]
        rw [e0] at q2;refine aI ⟨_,rfl,w0,x,rfl,hw.mono (Tups.of (s1.trans s2)),sz,by decide,bd,_,rfl,tt,_,1,_,rfl,rfl,SqT.of (s2 _ _ ett),rfl,rfl,?_⟩;have ed:decide (V.int w0.wv=V.int e.2)=decide (w0.wv=e.2):=by
          by_cases z:w0.wv=e.2
          · rw [decide_eq_true z,decide_eq_true (congrArg V.int z)]
          · rw [decide_eq_false z,decide_eq_false (fun y=>z (V.int.inj y))]
        rw [ed];exact q2
abbrev dA:Stmt:=top 29
theorem eY:FnScope ["row","signs","way","thing","said"] ["row","signs","way","thing"] (am dA):=⟨rfl,rfl,rfl,by decide +kernel,rfl,by decide +kernel,by decide +kernel⟩
theorem iZ (F:Fun K "least_shown" "least_shown" dA f fd) (C_bounds_say:Cal P w K mg base "bounds_say" 4 ["row","signs","thing"] (oH w K)) (C_is_way_with:Cal P w K mg base "is_way_with" 23 ["row","signs","thing"] oJ) (C_find_worth:Cal P w K mg base "find_worth" 10 ["way"] (iL 9)):FnOk P w K mg base CX0 24 f fd ["row","signs","way","thing"] (dY w K fun r=>r.2):=by
  refine F.ok eY (fun vs H Q E h=>?_) (fun cdv A outer s H vs Q E hr h=>?_)
  · obtain ⟨r,ns,gs,x,o,t,v,rfl,_⟩:=h;rfl
  obtain ⟨r,ns,gs,x,o,t,v,rfl,er,n1,n9,g1,g3,sp,⟨n0,hx⟩,ht,hok,q⟩:=h;refine ⟨_,(@af _ _ _ _ _ (@av _ _ (4) _ _ _ _ (eY).nd rfl (Or.inl rfl) (@ah _ _ _ _ _ _ _ _ _ _ _ C_bounds_say hr (by lia) rfl (@aa _ _ _ _ _ (pv 0) (@aa _ _ _ _ _ (pv 1) (@aa _ _ _ _ _ (pv 3) ac (by rfl)) (by rfl)) (by rfl)) (by decide) (by rfl) (by rfl)) (by rfl) (by first|exact .inl rfl|exact .inr rfl|assumption)) (@ag _ _ _ (@ar _ _ _ _ (@b5 _ _ _ _ _ _ _ (@aO _ _ _ _ _ _ _ _ oR (pv 4) bO (az _)) (@b5 _ _ _ _ _ _ _ (@ah _ _ _ _ _ _ _ _ _ _ _ C_is_way_with hr (by lia) rfl (@aa _ _ _ _ _ (pv 0) (@aa _ _ _ _ _ (pv 1) (@aa _ _ _ _ _ (pv 2) ac (by rfl)) (by rfl)) (by rfl)) (by decide) (by rfl) (by rfl)) (@eK _ _ _ _ _ (@aO _ _ _ _ _ _ _ _ bw (@ah _ _ _ _ _ _ _ _ _ _ _ C_find_worth hr (by lia) rfl (@aa _ _ _ _ _ (pv 2) ac (by rfl)) (by decide) (by rfl) (by rfl)) (@aM _ _ _ _ _ _ _ bP (pv 4) ae (fun _ _=>rfl)) (az _)))))))),?_⟩;refine ⟨_,rfl,_,rfl,_,rfl,r,ns,gs,t,v,rfl,er,n1,n9,g1,g3,sp,ht,hok,fun H1 s1=>?_⟩;constructor
  · intro e;have q:=q H1 s1;rw [e] at q;have e0:shR ns gs none o=(false,false):=by cases o <;> rfl
    rw [e0] at q;exact ⟨_,rfl,rfl,false,rfl,aB q⟩
  · intro e tt he ett;have q:=fun H' (g:Same H1 H')=>q H' (s1.trans g);rw [he] at q;refine ⟨_,rfl,rfl,true,rfl,aI ?_⟩;refine ⟨_,rfl,_,rfl,_,rfl,r,ns,gs,x,o,rfl,s1 _ _ er,n9,g1,g3,sp,⟨n0,hx.mono s1⟩,fun H2 s2=>?_⟩;cases o with
    | none=>exact ⟨false,rfl,aB (q _ s2)⟩
    | some w0 =>
      obtain ⟨hw,sz,bd⟩:=hx;have q2:=q _ s2;refine ⟨inW ns gs w0,rfl,?_⟩;cases c:inW ns gs w0 with
      | false =>
        have e0:(shR ns gs (some e) (some w0))=(false,false):=by rw [dO,c];rfl
        rw [e0] at q2;exact aB q2
      | true =>
        have e0:(shR ns gs (some e) (some w0))=(decide (w0.wv=e.2),decide (w0.wv=e.1)):=by rw [dO,c,abk,abk]
        rw [e0] at q2;refine aI ⟨_,rfl,w0,x,rfl,hw.mono (Tups.of (s1.trans s2)),sz,by decide,bd,_,rfl,tt,_,0,_,rfl,rfl,SqT.of (s2 _ _ ett),rfl,rfl,?_⟩;have ed:decide (V.int w0.wv=V.int e.1)=decide (w0.wv=e.1):=by
          by_cases z:w0.wv=e.1
          · rw [decide_eq_true z,decide_eq_true (congrArg V.int z)]
          · rw [decide_eq_false z,decide_eq_false (fun y=>z (V.int.inj y))]
        rw [ed];exact q2
end
open PySem L2
theorem fK {gs:List Sg}:∀ w:Wy,w.within gs↔(w.sgs.all fun g=>decide (g∈gs))=true
  | .num _=>by simp [Wy.within,Wy.sgs]
  | .node g l r=>by
    have a:=fK (gs:=gs) l;have b:=fK (gs:=gs) r;simp only [Wy.within,Wy.sgs,List.all_append,List.all_cons,List.all_nil,acb,aaS,decide_eq_true_eq,a,b];constructor
    · rintro ⟨x,y,z⟩;simp_all
    · intro h;simp_all
theorem t9 {ns:List Int} {gs:List Sg} {w:Wy} {n:Nat} (h1:1≤ns.length) (h2:ns.length≤n):inW ns gs w=true↔w∈aw n gs ns:=by
  rw [g6 gs w n ns h1 h2];unfold inW;rw [aaS,decide_eq_true_eq,fK]
theorem sX {H:Hp} {ws:List Wy} {us:List V} (h:WyAll H ws us):Paired (Dat H) (ws.map ax) us:=by
  induction h with
  | nil=>exact .nil
  | cons h t ih=>exact .cons (WyIn.dat h) ih
theorem xx {H:Hp} {w:Wy} {x:V} (h:WyIn H w x):(∃ i,x=.int i)∨∃ a ys,x=.ref a∧H a=some (.tup ys):=by
  cases w with
  | num i=>exact .inl ⟨i,h⟩
  | node g l r =>
    obtain ⟨a,vl,vr,e,ea,_⟩:=h;exact .inr ⟨a,_,e,ea⟩
theorem c_:∀ w:Wy,(ax w).depth≤w.size
  | .num i=>by simp [ax,aaB]
  | .node g l r=>by
    have a:=c_ l;have b:=c_ r;have p1:=l.size_pos;have p2:=r.size_pos;show (PyData.tuple [.str g.str,ax l,ax r]).depth≤l.size+r.size;simp only [aaB,aaJ];lia
section
variable {P:Program} {w:World} {K:aaa} {mg:Str→Option Value} {base:Heap} {f:Addr} {fd:FuncData}
def qU:Sp:=fun vs H Q _=>∃ (r pw:Addr) (ns:List Int) (gs:List Sg) (us:List V) (x sv:V) (o:Option Wy) (e:Option (Int × Int)),vs=[.ref r,.str (al gs),.ref pw,x,sv]∧1≤ns.length∧ns.length≤5∧H pw=some (.lst us)∧WyAll H (aw 5 gs ns) us∧WT H ns.length x o ∧
  (e=none→sv=.non)∧(∀ p,e=some p→∃ t,sv=.ref t∧H t=some (.tup [.int p.1,.int p.2]))∧∀ p H',Same H H'→H' p=some (.tup [.bl (shR ns gs e o).1,.bl (shR ns gs e o).2])→Q (.ref p) H'
abbrev fV:Stmt:=top 51
theorem h7:FnScope ["row","signs","ways","way","said","worth"] ["row","signs","ways","way","said"] (am fV):=⟨rfl,rfl,rfl,by decide +kernel,rfl,by decide +kernel,by decide +kernel⟩
theorem nI (F:Fun K "_law_due" "_law_due" fV f fd) (B:Bu K mg) (C__law_worth:Cal P w K mg base "_law_worth" 11 ["way"] (gc 9)):FnOk P w K mg base CX0 12 f fd ["row","signs","ways","way","said"] qU:=by
  refine F.ok h7 (fun vs H Q E h=>?_) (fun cdv A outer s H vs Q E hr h=>?_)
  · obtain ⟨r,pw,ns,gs,us,x,sv,o,e,rfl,_⟩:=h;rfl
  obtain ⟨r,pw,ns,gs,us,x,sv,o,e,rfl,n1,n5,ew,hws,hx,he0,he1,q⟩:=h;refine ⟨_,(@af _ _ _ _ _ (@aY _ _ _ _ _ _ _ _ (@PW.pt _ _ _ (@gj _ _ _ _ _ _ _ (@aF _ _ _ _ _ _ _ _ vh (pv 4) bO (az _)) (@gj _ _ _ _ _ _ _ (@aF _ _ _ _ _ _ _ _ (@qh _ _ rfl hr.units) (pv 3) (pv 2) (by with_unfolding_all rfl)) (@fi _ _ _ _ (@bh _ _ _ (@ak _ _ _ _ _ _ _ _ _ (@aN _ ("bool")) rfl B.iisinstance aap (@aa _ _ _ _ _ (pv 3) (@aa _ _ _ _ _ (@bu _ _ (.ty "bool") _ _ rfl B.ibool ab3 rfl (by decide) (by decide)) ac (by rfl)) (by rfl)) (by decide) (by decide) (by rfl) (by rfl)) (by intro _;rfl)))))) (@ag _ _ _ (@ar _ _ _ _ (@au _ _ _ _ _ (@aa _ _ _ _ _ cJ (@aa _ _ _ _ _ cJ ac (by rfl)) (by rfl))))) aG) (@af _ _ _ _ _ (@av _ _ (5) _ _ _ _ (h7).nd rfl (Or.inl rfl) (@ah _ _ _ _ _ _ _ _ _ _ _ C__law_worth hr (by lia) rfl (@aa _ _ _ _ _ (pv 3) ac (by rfl)) (by decide) (by rfl) (by rfl)) (by rfl) (by first|exact .inl rfl|exact .inr rfl|assumption)) (@ag _ _ _ (@ar _ _ _ _ (@au _ _ _ _ _ (@aa _ _ _ _ _ (@aO _ _ _ _ _ _ _ _ bw (pv 5) (@aM _ _ _ _ _ _ _ bP (pv 4) ae (fun _ _=>rfl)) (az _)) (@aa _ _ _ _ _ (@aO _ _ _ _ _ _ _ _ bw (pv 5) (@aM _ _ _ _ _ _ _ bP (pv 4) ae (fun _ _=>rfl)) (az _)) ac (by rfl)) (by rfl))))))),?_⟩;have t2:(2:Nat)≤sizeLine:=by decide
  have ff:∀ {H':Hp},Same H H'→shR ns gs e o=(false,false)→2≤sizeLine∧∀ p,H' p=none→Q (.ref p) (upd H' p (.tup [.bl false,.bl false])):=fun {H'} g z=>by
    rw [z] at q;exact ⟨t2,fun p np=>q p _ (g.trans (Same.new np _)) ad⟩
  cases e with
  | none =>
    rw [he0 rfl];have e0:shR ns gs none o=(false,false):=by cases o <;> rfl
    exact ⟨_,rfl,rfl,true,rfl,aI (ff (Same.refl _) e0)⟩
  | some e =>
  obtain ⟨t,rfl,et⟩:=he1 e rfl;refine ⟨_,rfl,rfl,false,rfl,aB ?_⟩;have hd:=sX hws;have lay:∀ d∈(aw 5 gs ns).map ax,d.canLay0=true:=fun d hd=>by
    obtain ⟨w,_,rfl⟩:=aan.mp hd;exact eU w
  cases o with
  | none =>
    have e0:shR ns gs (some e) none=(false,false):=rfl;rcases hx with ⟨d,h1,_,h3,h4,h5⟩|⟨a,rfl,ha⟩
    · refine ⟨_,rfl,_,rfl,.inl ⟨d,pw,us,_,h1,rfl,SqL.of ew,hd,h3,h4,lay,?_⟩⟩;obtain ⟨k,hk⟩:∃ k,(((aw 5 gs ns).map ax).any fun e=>aaI e d)=k:=⟨_,rfl⟩
      rw [hk];refine ⟨_,rfl,?_⟩;cases k with
      | false=>exact aI (aI (ff (Same.refl _) e0))
      | true =>
        rcases h5 with ⟨b,rfl⟩|⟨_,h5⟩
        · exact aB ⟨_,rfl,_,_,true,rfl,.bl b,rfl,true,rfl,aI (ff (Same.refl _) e0)⟩
        · exfalso
          obtain ⟨d',hd',he⟩:=List.any_eq_true.mp hk;obtain ⟨w,hw,rfl⟩:=aan.mp hd';have c:=k_ w d he;have hn:=((g6 gs w 5 ns n1 n5).mp hw).1;rw [← hn,Wy.nums_len] at h5;exact h5 c
    · refine ⟨_,rfl,_,rfl,.inr ⟨a,pw,us,_,rfl,ha,rfl,SqL.of ew,hd,(fun d hd=>?_),?_⟩⟩
      · obtain ⟨w,_,rfl⟩:=aan.mp hd;cases w <;> rfl
      · exact ⟨_,rfl,aI (aI (ff (Same.refl _) e0))⟩
  | some w0 =>
    obtain ⟨hw,sz,bd⟩:=hx;have dp:(ax w0).depth≤40:=by have:=c_ w0;lia
    refine ⟨_,rfl,_,rfl,.inl ⟨ax w0,pw,us,_,hw.dat,rfl,SqL.of ew,hd,eU w0,dp,lay,?_⟩⟩;have ek:(((aw 5 gs ns).map ax).any fun e=>aaI e (ax w0))=inW ns gs w0:=by
      rw [abB,t9 n1 n5,List.any_eq_true];constructor
      · rintro ⟨d',hd',he⟩;obtain ⟨w,hw,rfl⟩:=aan.mp hd';rw [← n_ w w0 he];exact hw
      · intro h;exact ⟨_,abo h,PySem.SeqAt.eqv_refl _ (eU w0)⟩
    rw [ek];refine ⟨_,rfl,?_⟩;cases c:inW ns gs w0 with
    | false =>
      refine aI (aI (ff (Same.refl _) ?_));rw [dO,c];rfl
    | true =>
      have e0:shR ns gs (some e) (some w0)=(decide (w0.wv=e.2),decide (w0.wv=e.1)):=by rw [dO,c,abk,abk]
      rw [e0] at q;have ed:∀ i:Int,decide (V.int w0.wv=V.int i)=decide (w0.wv=i):=fun i=>by
        by_cases z:w0.wv=i
        · rw [decide_eq_true z,decide_eq_true (congrArg V.int z)]
        · rw [decide_eq_false z,decide_eq_false (fun y=>z (V.int.inj y))]
      have ty:∃ nm,TyOf K H x (.type nm)∧abN K (.type nm) (.type "bool")=some false:=by
        rcases xx hw with ⟨i,rfl⟩|⟨a,ys,rfl,ea⟩
        · exact ⟨_,.int i,rfl⟩
        · exact ⟨_,.tup ea,rfl⟩
      obtain ⟨nm,ty,kt⟩:=ty;refine aB ⟨_,rfl,_,_,false,rfl,ty,kt,false,rfl,aB ?_⟩;refine ⟨_,rfl,w0,x,rfl,hw,sz,by decide,bd,fun H1 s1=>?_⟩;refine ⟨_,rfl,_,rfl,t,_,1,_,rfl,rfl,SqT.of (s1 _ _ et),rfl,rfl,_,rfl,_,rfl,t,_,0,_,rfl,rfl,SqT.of (s1 _ _ et),rfl,rfl,?_⟩;rw [ed,ed];exact ⟨t2,fun p np=>q p _ (s1.trans (Same.new np _)) ad⟩
def RP (H:Hp) (x:V):Prop:=∃ d,Dat H d x∧OkX d∧szX d≤300∧d.depth≤20
theorem RP.mono {H H':Hp} {x:V} (g:Same H H') (h:RP H x):RP H' x:=by obtain ⟨d,h1,h2⟩:=h;exact ⟨d,Dat.mono g _ _ h1,h2⟩
def WR (H:Hp) (n:Nat) (x:V):Prop:=(∃ o,WT H n x o)∧RP H x
theorem WR.mono {H H':Hp} {n:Nat} {x:V} (g:Same H H') (h:WR H n x):WR H' n x:=⟨by obtain ⟨o,h⟩:=h.1;exact ⟨o,h.mono g⟩,h.2.mono g⟩
theorem jR:∀ {w:Wy},cL w.nums→OkX (ax w)
  | .num i,sm=>by
    simp only [ax,OkX];have h:=sm i (by simp [Wy.nums]);have e:(10:Nat) ^ 12=1000000000000:=by decide
    have h:i.natAbs < 10 ^ 12:=by rw [e];lia
    exact aam h (abe (by decide) (by decide))
  | .node g l r,sm=>by
    have a:=jR (w:=l) fun i hi=>sm i (aaD _ hi);have b:=jR (w:=r) fun i hi=>sm i (aar _ hi);simp only [ax,OkX,OkXs];exact ⟨by cases g <;> decide +kernel,a,b,trivial⟩
theorem jM:∀ w:Wy,szX (ax w)+2≤3 * w.size
  | .num i=>by simp [ax,szX,Wy.size]
  | .node g l r=>by
    have a:=jM l;have b:=jM r;show szX (ax (.node g l r))+2≤3 * (l.size+r.size);simp only [ax,szX,szXs];lia
theorem uG {H:Hp} {n:Nat} {x:V} {w:Wy} (hw:WyIn H w x) (h9:w.size≤9) (sm:cL w.nums):WR H n x :=
  ⟨⟨some w,hw,h9,w.bd_of sm⟩,ax w,hw.dat,jR sm,by have:=jM w;lia,by have:=c_ w;lia⟩
theorem kh {H:Hp} {n:Nat} {x:V} {d:PyData} (hd:Dat H d x) (iw:bH d=false) (lay:d.canLay0=true) (hc:(∃ b,x=.bl b)∨((∀ b,x≠.bl b)∧eP d≠some n)) (ok:OkX d) (sz:szX d≤100) (dp:d.depth≤20):WR H n x :=
  ⟨⟨none,.inl ⟨d,hd,iw,lay,by lia,hc⟩⟩,d,hd,ok,by lia,dp⟩
theorem da {H:Hp} {n:Nat} {p:Addr} {d:PyData} (hd:Dat H d (.ref p)) (iw:bH d=false) (lay:d.canLay0=true) (hc:eP d≠some n) (ok:OkX d) (sz:szX d≤100) (dp:d.depth≤20):WR H n (.ref p) :=
  kh hd iw lay (.inr ⟨(fun _ z=>nomatch z),hc⟩) ok sz dp
theorem vU {H:Hp} {n:Nat} {p:Addr} (h:H p=some (.dK [])):WR H n (.ref p) :=
  ⟨⟨none,.inr ⟨p,rfl,h⟩⟩,.dict [],by simp only [Dat,DatKv];exact ⟨p,[],rfl,h,rfl⟩,by simp only [OkX,OkKv],by simp [szX,szKv],by simp [aaB,ab0]⟩
theorem bG {H:Hp} {p:Addr} {ds:List PyData} {vs:List V} (h:H p=some (.tup vs)) (a:DatAll H ds vs):Dat H (.tuple ds) (.ref p):=by simp only [Dat];exact ⟨p,vs,rfl,h,a⟩
theorem mJ {H:Hp} {p:Addr} {ds:List PyData} {vs:List V} (h:H p=some (.lst vs)) (a:DatAll H ds vs):Dat H (.list ds) (.ref p):=by simp only [Dat];exact ⟨p,vs,rfl,h,a⟩
theorem da0 {H:Hp}:DatAll H [] []:=by simp only [DatAll]
theorem da1 {H:Hp} {d:PyData} {ds:List PyData} {v:V} {vs:List V} (h:Dat H d v) (a:DatAll H ds vs):DatAll H (d :: ds) (v :: vs):=by simp only [DatAll];exact ⟨_,_,rfl,h,a⟩
theorem ds_ {H:Hp} (z:Str):Dat H (.str z) (.str z):=by simp only [Dat]
theorem di_ {H:Hp} (z:Int):Dat H (.int z) (.int z):=by simp only [Dat]
theorem dn_ {H:Hp}:Dat H .none .non:=by simp only [Dat]
theorem db_ {H:Hp} (z:Bool):Dat H (.bool z) (.bl z):=by simp only [Dat]
theorem lh:∀ w:Wy,eP (ax w)=some w.size
  | .num i=>rfl
  | .node g l r=>by
    show (if sgD (.str g.str) then (match eP (ax l),eP (ax r) with|some a,some b=>some (a+b)|_,_=>none) else none)=_;rw [lh l,lh r,show sgD (.str g.str)=true from jh g];rfl
theorem wq:qw ("/":Str)=false∧qw ("+":Str)=true∧(reprText ("/":Str)).length≤3000∧(reprText ("+":Str)).length≤3000∧(reprText ("3":Str)).length≤3000∧(PyData.str "/").canLay0=true∧(PyData.str "+").canLay0=true∧(PyData.str "3").canLay0=true:=by decide +kernel
theorem uP:∀ g:Sg,qw (g.str++g.str)=false∧(reprText (g.str++g.str)).length≤3000∧(PyData.str (g.str++g.str)).canLay0=true∧g.str.length+g.str.length≤sizeLine∧(reprText g.str).length≤3000∧(PyData.str g.str).canLay0=true:=fun g=>by cases g <;> decide +kernel
def iI:Sp:=fun vs H Q _=>∃ (x:V) (w:Wy),vs=[x]∧WyIn H w x∧w.size≤9∧cL w.nums∧∀ p us H',Same H H'→H' p=some (.lst us)→us.length≤20→(∀ u∈us,WR H' w.size u)→Q (.ref p) H'
abbrev dg:Stmt:=top 50
theorem cM:FnScope ["way","odd"] ["way"] (am dg):=⟨rfl,rfl,rfl,by decide +kernel,rfl,by decide +kernel,by decide +kernel⟩
theorem nG (F:Fun K "_law_no_ways" "_law_no_ways" dg f fd) (B:Bu K mg):FnOk P w K mg base CX0 1 f fd ["way"] iI:=by
  refine F.ok cM (fun vs H Q E h=>?_) (fun cdv A outer s H vs Q E hr h=>?_)
  · obtain ⟨x,w,rfl,_⟩:=h;rfl
  obtain ⟨x,w,rfl,hw,h9,sm,q⟩:=h;refine ⟨_,(@af _ _ _ _ _ (@av _ _ (1) _ _ _ _ (cM).nd rfl (Or.inl rfl) (@aJ _ _ _ _ (@aa _ _ _ _ _ bO (@aa _ _ _ _ _ bc (@aa _ _ _ _ _ (@aJ _ _ _ _ (@aa _ _ _ _ _ (pv 0) ac (by rfl))) (@aa _ _ _ _ _ gq (@aa _ _ _ _ _ (@au _ _ _ _ _ ac) (@aa _ _ _ _ _ cJ (@aa _ _ _ _ _ (@au _ _ _ _ _ (@aa _ _ _ _ _ bc ac (by rfl))) (@aa _ _ _ _ _ (@au _ _ _ _ _ (@aa _ _ _ _ _ bc (@aa _ _ _ _ _ ae ac (by rfl)) (by rfl))) (@aa _ _ _ _ _ (@au _ _ _ _ _ (@aa _ _ _ _ _ bc (@aa _ _ _ _ _ (pv 0) (@aa _ _ _ _ _ ae ac (by rfl)) (by rfl)) (by rfl))) (@aa _ _ _ _ _ (@au _ _ _ _ _ (@aa _ _ _ _ _ bc (@aa _ _ _ _ _ (pv 0) (@aa _ _ _ _ _ bO ac (by rfl)) (by rfl)) (by rfl))) (@aa _ _ _ _ _ (@au _ _ _ _ _ (@aa _ _ _ _ _ bc (@aa _ _ _ _ _ (pv 0) (@aa _ _ _ _ _ cJ ac (by rfl)) (by rfl)) (by rfl))) ac (by rfl)) (by rfl)) (by rfl)) (by rfl)) (by rfl)) (by rfl)) (by rfl)) (by rfl)) (by rfl)) (by rfl)) (by rfl))) (by rfl) (by first|exact .inl rfl|exact .inr rfl|assumption)) (@af _ _ _ _ _ (@aY _ _ _ _ _ _ _ _ (@bh _ _ _ (@ak _ _ _ _ _ _ _ _ _ (@aN _ ("tuple")) rfl B.iisinstance aap (@aa _ _ _ _ _ (pv 0) (@aa _ _ _ _ _ (@bu _ _ (.ty "tuple") _ _ rfl B.ituple abm rfl (by decide) (by decide)) ac (by rfl)) (by rfl)) (by decide) (by decide) (by rfl) (by rfl)) (by intro _;rfl)) (@ag _ _ _ (@av _ _ (1) _ _ _ _ (cM).nd rfl (Or.inl rfl) (@ap _ _ _ _ _ _ _ _ fm (pv 1) (@aJ _ _ _ _ (@aa _ _ _ _ _ (@bo _ _ _ _ _ _ _ _ _ li rfl B.ilist acC (@aa _ _ _ _ _ (pv 0) ac (by rfl)) (by decide) (by decide) (by rfl) (by rfl)) (@aa _ _ _ _ _ (@dj _ _ _ _ _ _ _ _ _ _ qW (pv 0) (@eF _ _ _ ae) eI) (@aa _ _ _ _ _ (@ap _ _ _ _ _ _ _ _ oS (pv 0) (@au _ _ _ _ _ (@aa _ _ _ _ _ ae ac (by rfl)))) (@aa _ _ _ _ _ (@ap _ _ _ _ _ _ _ _ oS (@au _ _ _ _ _ (@aa _ _ _ _ _ (@ap _ _ _ _ _ _ _ _ fY (@aM _ _ _ _ _ _ _ bP (pv 0) ae (fun _ _=>rfl)) (@aM _ _ _ _ _ _ _ bP (pv 0) ae (fun _ _=>rfl))) ac (by rfl))) (@dj _ _ _ _ _ _ _ _ _ _ qW (pv 0) (@eF _ _ _ ae) eI)) ac (by rfl)) (by rfl)) (by rfl)) (by rfl)))) (by rfl) (by first|exact .inl rfl|exact .inr rfl|assumption))) aG) (@ag _ _ _ (@ar _ _ _ _ (pv 1))))),?_⟩;have t2:(2:Nat)≤sizeLine:=by decide
  refine ⟨_,rfl,(by show 1≤sizeLine;decide),fun p1 m1=>fun p2 m2=>⟨(by show 0≤sizeLine;decide),fun p3 m3=>⟨(by show 1≤sizeLine;decide),fun p4 m4=>⟨t2,fun p5 m5=>⟨_,rfl,(by show 3≤sizeLine;decide),fun p6 m6=>⟨_,rfl,(by show 3≤sizeLine;decide),fun p7 m7=>⟨_,rfl,(by show 3≤sizeLine;decide),fun p8 m8=>⟨(by show 11≤sizeLine;decide),fun p9 m9=>?_⟩⟩⟩⟩⟩⟩⟩⟩;have j1:=Same.new m1 (.lst [x]);have j2:=Same.new m2 (.dK []);have j3:=Same.new m3 (.tup []);have j4:=Same.new m4 (.tup [.str "+"]);have j5:=Same.new m5 (.tup [.str "+",.int 1]);have j6:=Same.new m6 (.tup [.str "/",x,.int 1]);have j7:=Same.new m7 (.tup [.str "+",x,.non]);have j8:=Same.new m8 (.tup [.str "+",x,.bl true]);have j9:=Same.new m9 (.lst [.non,.str "3",.ref p1,.ref p2,.ref p3,.bl true,.ref p4,.ref p5,.ref p6,.ref p7,.ref p8]);have J8:=j8.trans j9;have J7:=j7.trans J8;have J6:=j6.trans J7;have J5:=j5.trans J6;have J4:=j4.trans J5;have J3:=j3.trans J4;have J2:=j2.trans J3;have J1:=j1.trans J2;have e1:=J2 _ _ (ad (a:=p1));have e2:=J3 _ _ (ad (a:=p2));have e3:=J4 _ _ (ad (a:=p3));have e4:=J5 _ _ (ad (a:=p4));have e5:=J6 _ _ (ad (a:=p5));have e6:=J7 _ _ (ad (a:=p6));have e7:=J8 _ _ (ad (a:=p7));have e8:=j9 _ _ (ad (a:=p8));have e9:upd (upd (upd (upd (upd (upd (upd (upd (upd H p1 (.lst [x])) p2 (.dK [])) p3 (.tup [])) p4 (.tup [.str "+"])) p5 (.tup [.str "+",.int 1])) p6 (.tup [.str "/",x,.int 1])) p7 (.tup [.str "+",x,.non])) p8 (.tup [.str "+",x,.bl true])) p9 (.lst [.non,.str "3",.ref p1,.ref p2,.ref p3,.bl true,.ref p4,.ref p5,.ref p6,.ref p7,.ref p8]) p9=some (.lst [.non,.str "3",.ref p1,.ref p2,.ref p3,.bl true,.ref p4,.ref p5,.ref p6,.ref p7,.ref p8]):=ad;generalize upd (upd (upd (upd (upd (upd (upd (upd (upd H p1 (.lst [x])) p2 (.dK [])) p3 (.tup [])) p4 (.tup [.str "+"])) p5 (.tup [.str "+",.int 1])) p6 (.tup [.str "/",x,.int 1])) p7 (.tup [.str "+",x,.non])) p8 (.tup [.str "+",x,.bl true])) p9 (.lst [.non,.str "3",.ref p1,.ref p2,.ref p3,.bl true,.ref p4,.ref p5,.ref p6,.ref p7,.ref p8])=H1 at J1 e1 e2 e3 e4 e5 e6 e7 e8 e9 ⊢;have hw1:=hw.mono (Tups.of J1);have dw:=hw1.dat;have okw:=jR sm;have szw:=jM w;have dpw:=c_ w;have layw:=eU w;have cw:=lh w;obtain ⟨k1,k2,k3,k4,k5,k6,k7,k8⟩:=wq;have first:∀ u∈[V.non,.str "3",.ref p1,.ref p2,.ref p3,.bl true,.ref p4,.ref p5,.ref p6,.ref p7,.ref p8],WR H1 w.size u:=by
    intro u hu;simp only [aai,aaP,or_false] at hu;rcases hu with rfl|rfl|rfl|rfl|rfl|rfl|rfl|rfl|rfl|rfl|rfl
    · exact kh dn_ rfl rfl (.inr ⟨(fun _ z=>nomatch z),(fun z=>nomatch z)⟩) (by simp only [OkX]) (by simp [szX]) (by simp [aaB])
    · exact kh (ds_ _) rfl k8 (.inr ⟨(fun _ z=>nomatch z),(fun z=>nomatch z)⟩) (by simp only [OkX];exact k5) (by simp [szX]) (by simp [aaB])
    · exact da (mJ e1 (da1 dw da0)) rfl (by simp only [abd,aa6,layw];rfl) (fun z=>nomatch z) (by simp only [OkX,OkXs];exact ⟨okw,trivial⟩) (by simp only [szX,szXs];lia) (by simp only [aaB,aaJ];lia)
    · exact vU e2
    · exact da (bG e3 da0) rfl rfl (fun z=>nomatch z) (by simp only [OkX,OkXs]) (by simp [szX,szXs]) (by simp [aaB,aaJ])
    · exact kh (db_ _) rfl rfl (.inl ⟨_,rfl⟩) (by simp only [OkX]) (by simp [szX]) (by simp [aaB])
    · exact da (bG e4 (da1 (ds_ _) da0)) rfl (by simp only [abd,aa6] at k7 ⊢;simp [k7]) (fun z=>nomatch z) (by simp only [OkX,OkXs];exact ⟨k4,trivial⟩) (by simp [szX,szXs]) (by simp [aaB,aaJ])
    · exact da (bG e5 (da1 (ds_ _) (da1 (di_ _) da0))) rfl (by simp only [abd,aa6] at k7 ⊢;simp [k7]) (fun z=>nomatch z) (by simp only [OkX,OkXs];exact ⟨k4,by decide +kernel,trivial⟩) (by simp [szX,szXs]) (by simp [aaB,aaJ])
    · refine da (bG e6 (da1 (ds_ _) (da1 dw (da1 (di_ _) da0)))) ?_ (by simp only [abd,aa6,layw] at k6 ⊢;simp [k6]) (fun z=>?_) (by simp only [OkX,OkXs];exact ⟨k3,okw,by decide +kernel,trivial⟩) (by simp only [szX,szXs];lia) (by simp only [aaB,aaJ];lia)
      · show bH (.tuple [.str "/",ax w,.int 1])=false;unfold bH;rw [show aR (.tuple [.str "/",ax w,.int 1])=none by simp only [aR,cntT,sgD,k1];rfl]
      · rw [show eP (.tuple [.str "/",ax w,.int 1])=none by simp only [eP,cntBT,sgD,k1];rfl] at z;cases z
    · refine da (bG e7 (da1 (ds_ _) (da1 dw (da1 dn_ da0)))) ?_ (by simp only [abd,aa6,layw] at k7 ⊢;simp [k7]) (fun z=>?_) (by simp only [OkX,OkXs];exact ⟨k4,okw,trivial,trivial⟩) (by simp only [szX,szXs];lia) (by simp only [aaB,aaJ];lia)
      · unfold bH;rw [show aR (.tuple [.str "+",ax w,.none])=none by simp only [aR,cntT,sgD,k2,jo];rfl]
      · rw [show eP (.tuple [.str "+",ax w,.none])=none by simp only [eP,cntBT,sgD,k2,cw];rfl] at z;cases z
    · refine da (bG e8 (da1 (ds_ _) (da1 dw (da1 (db_ _) da0)))) ?_ (by simp only [abd,aa6,layw] at k7 ⊢;simp [k7]) (fun z=>?_) (by simp only [OkX,OkXs];exact ⟨k4,okw,trivial,trivial⟩) (by simp only [szX,szXs];lia) (by simp only [aaB,aaJ];lia)
      · unfold bH;rw [show aR (.tuple [.str "+",ax w,.bool true])=none by simp only [aR,cntT,sgD,k2,jo];rfl]
      · rw [show eP (.tuple [.str "+",ax w,.bool true])=some (w.size+1) by simp only [eP,cntBT,sgD,k2,cw];rfl] at z;injection z with z
        lia
  cases w with
  | num i =>
    cases (show x=.int i from hw);exact ⟨_,rfl,_,_,false,rfl,.int i,rfl,false,rfl,aB ⟨_,rfl,q _ _ _ J1 e9 (by show 11≤20;decide) first⟩⟩
  | node g l r =>
    obtain ⟨a,vl,vr,rfl,ea,hl,hr'⟩:=hw1;refine ⟨_,rfl,_,_,true,rfl,.tup ea,rfl,true,rfl,aI ?_⟩;have h10:¬ (HT.sIx [V.str g.str,vl,vr].length 0 (some 1)=0∧HT.sIx [V.str g.str,vl,vr].length [V.str g.str,vl,vr].length none=[V.str g.str,vl,vr].length):=by
      rintro ⟨z,_⟩;exact absurd z (by show ¬ (HT.sIx 3 0 (some 1)=0);decide)
    have ct:fw [V.str g.str,vl,vr] (some 1) none=[vl,vr]:=rfl;obtain ⟨z1,z2,z3,z4,z5,z6⟩:=uP g;refine ⟨_,rfl,_,rfl,a,_,rfl,.inr (SqT.of ea),fun q1 o1=>?_⟩;have i1:=Same.new o1 (.lst [.str g.str,vl,vr]);have f1:upd H1 q1 (.lst [.str g.str,vl,vr]) q1=_:=ad;have ea1:=i1 _ _ ea;generalize upd H1 q1 (.lst [.str g.str,vl,vr])=G1 at i1 f1 ea1 ⊢;refine ⟨_,rfl,1,rfl,a,_,rfl,SqT.of ea1,h10,fun q2 o2=>?_⟩;rw [ct];have i2:=Same.new o2 (.tup [vl,vr]);have f2:upd G1 q2 (.tup [vl,vr]) q2=_:=ad;have ea2:=i2 _ _ ea1;generalize upd G1 q2 (.tup [vl,vr])=G2 at i2 f2 ea2 ⊢;refine ⟨_,rfl,(by show 1≤sizeLine;decide),fun q3 o3=>?_⟩;have i3:=Same.new o3 (.tup [.int 0]);have f3:upd G2 q3 (.tup [.int 0]) q3=_:=ad;have ea3:=i3 _ _ ea2;generalize upd G2 q3 (.tup [.int 0])=G3 at i3 f3 ea3 ⊢;refine ⟨a,q3,_,_,rfl,rfl,SqT.of ea3,SqT.of f3,(fun z=>nomatch z),(by show 4≤sizeLine;decide),(fun z=>nomatch z),fun _ q4 o4=>?_⟩;have i4:=Same.new o4 (.tup ([.str g.str,vl,vr]++[.int 0]));have f4:upd G3 q4 (.tup ([.str g.str,vl,vr]++[.int 0])) q4=some (.tup [.str g.str,vl,vr,.int 0]):=ad;have ea4:=i4 _ _ ea3;generalize upd G3 q4 (.tup ([.str g.str,vl,vr]++[.int 0]))=G4 at i4 f4 ea4 ⊢;refine ⟨_,rfl,a,_,0,_,rfl,rfl,SqT.of ea4,rfl,_,rfl,a,_,0,_,rfl,rfl,SqT.of ea4,rfl,_,_,rfl,rfl,z4,(by show 1≤sizeLine;decide),fun q5 o5=>?_⟩;have i5:=Same.new o5 (.tup [.str (g.str++g.str)]);have f5:upd G4 q5 (.tup [.str (g.str++g.str)]) q5=_:=ad;have ea5:=i5 _ _ ea4;generalize upd G4 q5 (.tup [.str (g.str++g.str)])=G5 at i5 f5 ea5 ⊢;refine ⟨_,rfl,1,rfl,a,_,rfl,SqT.of ea5,h10,fun q6 o6=>?_⟩;rw [ct];have i6:=Same.new o6 (.tup [vl,vr]);have f6:upd G5 q6 (.tup [vl,vr]) q6=_:=ad;have f56:=i6 _ _ f5;generalize upd G5 q6 (.tup [vl,vr])=G6 at i6 f6 f56 ⊢;refine ⟨q5,q6,_,_,rfl,rfl,SqT.of f56,SqT.of f6,(fun z=>nomatch z),(by show 3≤sizeLine;decide),(fun z=>nomatch z),fun _ q7 o7=>?_⟩;have i7:=Same.new o7 (.tup ([.str (g.str++g.str)]++[vl,vr]));have f7:upd G6 q7 (.tup ([.str (g.str++g.str)]++[vl,vr])) q7=some (.tup [.str (g.str++g.str),vl,vr]):=ad;generalize upd G6 q7 (.tup ([.str (g.str++g.str)]++[vl,vr]))=G7 at i7 f7 ⊢;refine ⟨(by show 4≤sizeLine;decide),fun q8 o8=>?_⟩;have i8:=Same.new o8 (.lst [.ref q1,.ref q2,.ref q4,.ref q7]);have f8:upd G7 q8 (.lst [.ref q1,.ref q2,.ref q4,.ref q7]) q8=_:=ad;have I7:=i7.trans i8;have I4:=((i5.trans i6).trans I7)
    have I2:=(i3.trans i4).trans I4;have I1:=i2.trans I2;have g1:=I1 _ _ f1;have g2:=I2 _ _ f2;have g4:=I4 _ _ f4;have g7:=i8 _ _ f7;have g9:=(i1.trans I1) _ _ e9;have I0:=i1.trans I1;generalize upd G7 q8 (.lst [.ref q1,.ref q2,.ref q4,.ref q7])=G8 at f8 g1 g2 g4 g7 g9 I0 ⊢;refine ⟨p9,q8,_,_,rfl,rfl,g9,f8,(by show 15≤sizeLine;decide),fun q9 o9=>?_⟩;have i9:=Same.new o9 (.lst ([.non,.str "3",.ref p1,.ref p2,.ref p3,.bl true,.ref p4,.ref p5,.ref p6,.ref p7,.ref p8]++[.ref q1,.ref q2,.ref q4,.ref q7]));have I:=I0.trans i9;have dl:=(hl.mono (Tups.of I)).dat;have dr:=(hr'.mono (Tups.of I)).dat;have okl:OkX (ax l):=jR fun i hi=>sm i (aaD _ hi);have okr:OkX (ax r):=jR fun i hi=>sm i (aar _ hi);have szl:=jM l;have szr:=jM r;have dpl:=c_ l;have dpr:=c_ r;have layl:=eU l;have layr:=eU r;have h9:l.size+r.size≤9:=h9;refine ⟨_,rfl,q _ _ _ (J1.trans I) ad (by show 15≤20;decide) fun u hu=>?_⟩;rcases aav.mp hu with hu|hu
    · exact (first u hu).mono I
    simp only [aai,aaP,or_false] at hu;rcases hu with rfl|rfl|rfl|rfl
    · exact da (mJ (i9 _ _ g1) (da1 (ds_ _) (da1 dl (da1 dr da0)))) rfl (by simp only [abd,aa6,layl,layr] at z6 ⊢;simp [z6]) (fun z=>nomatch z) (by simp only [OkX,OkXs];exact ⟨z5,okl,okr,trivial⟩) (by simp only [szX,szXs];lia) (by simp only [aaB,aaJ];lia)
    · exact da (bG (i9 _ _ g2) (da1 dl (da1 dr da0))) rfl (by simp only [abd,aa6,layl,layr];rfl) (fun z=>nomatch z) (by simp only [OkX,OkXs];exact ⟨okl,okr,trivial⟩) (by simp only [szX,szXs];lia) (by simp only [aaB,aaJ];lia)
    · exact da (bG (i9 _ _ g4) (da1 (ds_ _) (da1 dl (da1 dr (da1 (di_ _) da0))))) rfl (by simp only [abd,aa6,layl,layr] at z6 ⊢;simp [z6]) (fun z=>nomatch z) (by simp only [OkX,OkXs];exact ⟨z5,okl,okr,by decide +kernel,trivial⟩) (by simp only [szX,szXs];lia) (by simp only [aaB,aaJ];lia)
    · refine da (bG (i9 _ _ g7) (da1 (ds_ _) (da1 dl (da1 dr da0)))) ?_ (by simp only [abd,aa6,layl,layr] at z3 ⊢;simp [z3]) (fun z=>?_) (by simp only [OkX,OkXs];exact ⟨z2,okl,okr,trivial⟩) (by simp only [szX,szXs];lia) (by simp only [aaB,aaJ];lia)
      · unfold bH;rw [show aR (.tuple [.str (g.str++g.str),ax l,ax r])=none by simp only [aR,cntT,sgD,z1];rfl]
      · rw [show eP (.tuple [.str (g.str++g.str),ax l,ax r])=none by simp only [eP,cntBT,sgD,z1];rfl] at z;cases z
end
open PySem L2
theorem qX:("+-*":Str)=al [.plus,.minus,.times]∧("+":Str)=al [.plus]:=by decide +kernel
theorem tV:∀ n,n≤6→∀ s,s≤3→∀ m,m≤6→(s=0∨m=0∨n < m∨1≤lw n s m):=by decide +kernel
theorem vw {n s m:Nat} (h6:n≤6) (s3:s≤3) (m6:m≤6) (s1:1≤s) (m1:1≤m) (mn:m≤n):1≤lw n s m:=by
  rcases tV n h6 s s3 m m6 with h|h|h|h <;> lia
theorem lA {n:Nat} {gs:List Sg} {ns:List Int} (h6:n≤6) (g1:1≤gs.length) (g3:gs.length≤3) (n1:1≤ns.length) (nn:ns.length≤n):1≤(aw n gs ns).length∧(aw n gs ns).length≤10206:=by
  rw [js];exact ⟨vw h6 g3 (by lia) g1 n1 nn,rM n h6 _ g3 _ (by lia)⟩
theorem x4 (a b c:Int):inV (.int a) [.int b,.int c]=(decide (b=a) || decide (c=a)):=by
  rw [abB];simp [inV,eqV]
def kp (vs:List Int) (w:Wy):Bool:=decide (∀ v∈vs,w.wv≤v) || decide (∀ v∈vs,v≤w.wv)
theorem wU {vs:List Int} {w:Wy} {m M:Int} (hw:w.wv∈vs) (hm:m∈vs) (h1:∀ v∈vs,m≤v) (hM:M∈vs) (h2:∀ v∈vs,v≤M):inV (.int w.wv) [.int m,.int M]=kp vs w:=by
  rw [x4];unfold kp;have a:decide (m=w.wv)=decide (∀ v∈vs,w.wv≤v):=by
    rw [decide_eq_decide];exact ⟨fun e=>e ▸ h1,fun h=>Int.le_antisymm (h1 _ hw) (h _ hm)⟩
  have b:decide (M=w.wv)=decide (∀ v∈vs,v≤w.wv):=by
    rw [decide_eq_decide];exact ⟨fun e=>e ▸ h2,fun h=>Int.le_antisymm (h _ hM) (h2 _ hw)⟩
  rw [a,b]
theorem kY:∀ {l:List Int},l≠[]→qp l∈l∧∀ x∈l,qp l≤x
  | [],h=>absurd rfl h
  | [x],_=>⟨List.mem_singleton.mpr rfl,fun y hy=>by rw [aaM.mp hy];exact Int.le_refl _⟩
  | x :: y :: r,_=>by
    obtain ⟨h1,h2⟩:=kY (l:=y :: r) (by simp);have e:qp (x :: y :: r)=min x (qp (y :: r)):=rfl;rw [e];refine ⟨?_,fun z hz=>?_⟩
    · by_cases c:x≤qp (y :: r)
      · rw [Int.min_eq_left c];exact aat
      · rw [Int.min_eq_right (by lia)];exact aak _ h1
    · rcases aai.mp hz with rfl|hz
      · exact Int.min_le_left _ _
      · exact Int.le_trans (Int.min_le_right _ _) (h2 z hz)
theorem wT {ws:List Wy} (h:ws≠[]):1≤(ws.filter (kp (ws.map Wy.wv))).length:=by
  have hne:ws.map Wy.wv≠[]:=fun z=>h (List.map_eq_nil_iff.mp z);obtain ⟨w,hw,e⟩:=aan.mp (kY hne).1;have : w∈ws.filter (kp (ws.map Wy.wv)):=List.mem_filter.mpr ⟨hw,by
    unfold kp;rw [Bool.or_eq_true,decide_eq_true_eq];exact .inl fun v hv=>by rw [e];exact (kY hne).2 v hv⟩
  exact ab2 this
def Wys (H:Hp) (W:Wy→Prop) (zs:List V):Prop:=∀ z∈zs,∃ w,W w∧WyIn H w z
theorem Wys.mono {H H':Hp} {W:Wy→Prop} {zs:List V} (t:Tups H H') (h:Wys H W zs):Wys H' W zs:=fun z hz=>by obtain ⟨w,a,b⟩:=h z hz;exact ⟨w,a,b.mono t⟩
theorem Wys.imp {H:Hp} {W W':Wy→Prop} {zs:List V} (h:Wys H W zs) (g:∀ w,W w→W' w):Wys H W' zs:=fun z hz=>by obtain ⟨w,a,b⟩:=h z hz;exact ⟨w,g w a,b⟩
theorem Wys.app {H:Hp} {W:Wy→Prop} {zs ys:List V} (h:Wys H W zs) (g:Wys H W ys):Wys H W (zs++ys):=fun z hz=>(aav.mp hz).elim (h z) (g z)
def GW (w:Wy):Prop:=w.size≤9∧cL w.nums
theorem eT {H:Hp} {W:List Wy} {us:List V} (h:WyAll H W us) {r:Int} (a:0≤r) (b:r < (us.length:Nat)):∃ x,atI us r=some x∧∃ w∈W,WyIn H w x:=by
  obtain ⟨j,rfl⟩:∃ j:Nat,r=(j:Int):=⟨r.toNat,by lia⟩
  have hj:j < us.length:=by lia
  obtain ⟨w,hw,hx⟩:=lE h (aac hj);exact ⟨us[j],cG (aac hj),w,aas hw,hx⟩
section
variable {P:Program} {w:World} {K:aaa} {mg:Str→Option Value} {base:Heap} {f:Addr} {fd:FuncData}
def mV:Sp:=fun vs H Q _=>∃ (wl r pw:Addr) (ns:List Int) (gs:List Sg) (us:List V),vs=[.ref wl,.ref r,.str (al gs),.ref pw]∧Pot H wl∧r≠wl∧pw≠wl∧H r=some (.lst (ns.map V.int))∧1≤ns.length∧ns.length≤5∧1≤gs.length∧gs.length≤3∧cX gs∧cL ns∧H pw=some (.lst us)∧WyAll H (aw 5 gs ns) us ∧
  ∀ p xs H',But wl H H'→Pot H' wl→H p=none→H' p=some (.lst xs)→xs.length≤40→(∀ x∈xs,WR H' ns.length x)→Q (.ref p) H'
abbrev cr:Stmt:=top 49
theorem aL:FnScope ["pot","row","signs","ways","worths","best","found","others","longer"] ["pot","row","signs","ways"] (am cr):=⟨rfl,rfl,rfl,by decide +kernel,rfl,by decide +kernel,by decide +kernel⟩
theorem kK (F:Fun K "_law_some_ways" "_law_some_ways" cr f fd) (B:Bu K mg) (C__law_take:Cal P w K mg base "_law_take" 2 ["pot","many"] dX) (C__law_worth:Cal P w K mg base "_law_worth" 11 ["way"] (gc 9)) (C__law_ways:Cal P w K mg base "_law_ways" 7 ["row","signs"] (gE 6)) (C__law_no_ways:Cal P w K mg base "_law_no_ways" 1 ["way"] iI):FnOk P w K mg base CX0 12 f fd ["pot","row","signs","ways"] mV:=by
  refine F.ok aL (fun vs H Q E h=>?_) (fun cdv A outer s H vs Q E hr h=>?_)
  · obtain ⟨wl,r,pw,ns,gs,us,rfl,_⟩:=h;rfl
  obtain ⟨wl,r,pw,ns,gs,us,rfl,hP,nrw,npw,er,n1,n5,g1,g3,sp,sm,ew,hws,q⟩:=h;refine ⟨_,(@af _ _ _ _ _ (@av _ _ (4) _ _ _ _ (aL).nd rfl (Or.inr rfl) (@bZ _ _ _ _ _ _ _ _ (["way"]) ([none]) _ _ _ _ rfl (@cV _ _ _ _ (pv 3)) rfl trivial trivial (fun _ _ _ _=>⟨(@aj _ _ (0) _ (show aaX (["way"]:List Str) by decide +kernel) rfl (Or.inl rfl) (.inr rfl)),aH,(@ah _ _ _ _ _ _ _ _ _ _ _ C__law_worth hr (by lia) rfl (@aa _ _ _ _ _ (pv 0) ac (by rfl)) (by decide) (by rfl) (by rfl))⟩) (by rfl) (by rfl) (by rfl) (by rfl) (by intro _;rfl)) (by rfl) (by first|exact .inl rfl|exact .inr rfl|assumption)) (@af _ _ _ _ _ (@av _ _ (5) _ _ _ _ (aL).nd rfl (Or.inr rfl) (@bZ _ _ _ _ _ _ _ _ (["way","worth","worths"]) ([none,none,some 4]) _ _ _ _ rfl (uY rfl B.izip (aa (pv 3) (aa (pv 4) ac))) rfl ⟨rfl,trivial⟩ ⟨⟨rfl,Or.inl rfl,Or.inl rfl⟩,trivial⟩ (fun _ _ _ _=>⟨(@oP _ _ _ _ _ _ (2) rfl rfl (@aD _ _ _ _ _ (@aj _ _ (0) _ (show aaX (["way","worth","worths"]:List Str) by decide +kernel) rfl (Or.inl rfl) (.inr rfl)) (@aD _ _ _ _ _ (@aj _ _ (1) _ (show aaX (["way","worth","worths"]:List Str) by decide +kernel) rfl (Or.inl rfl) (.inr rfl)) bX (by rfl)) (by rfl)) (by rfl) (by rfl)),(@iV _ _ _ (@aF _ _ _ _ _ _ _ _ (@nE _ _ rfl) (pv 1) (@au _ _ _ _ _ (@aa _ _ _ _ _ (@ak _ _ _ _ _ _ _ _ _ (@oj _ _ rfl rfl) rfl B.imin abv (@aa _ _ _ _ _ (pv 2) ac (by rfl)) (by decide) (by decide) (by rfl) (by rfl)) (@aa _ _ _ _ _ (@ak _ _ _ _ _ _ _ _ _ (@om _ _ rfl rfl) rfl B.imax abJ (@aa _ _ _ _ _ (pv 2) ac (by rfl)) (by decide) (by decide) (by rfl) (by rfl)) ac (by rfl)) (by rfl))) (by with_unfolding_all rfl))),(pv 0)⟩) (by rfl) (by rfl) (by rfl) (by rfl) (by intro _;rfl)) (by rfl) (by first|exact .inl rfl|exact .inr rfl|assumption)) (@af _ _ _ _ _ (@av _ _ (6) _ _ _ _ (aL).nd rfl (Or.inl rfl) (@ap _ _ _ _ _ _ _ _ fm (@bZ _ _ _ _ _ _ _ _ (["k","best","pot"]) ([none,some 5,some 0]) _ _ _ _ rfl (@bz _ _ _ _ _ _ rfl B.irange (@aa _ _ _ _ _ ae ac (by rfl)) (by rfl)) rfl ⟨rfl,⟨rfl,trivial⟩⟩ ⟨⟨rfl,Or.inl rfl,Or.inl rfl⟩,⟨⟨rfl,Or.inl rfl,Or.inl rfl⟩,trivial⟩⟩ (fun _ _ _ _=>⟨(@aj _ _ (0) _ (show aaX (["k","best","pot"]:List Str) by decide +kernel) rfl (Or.inl rfl) (.inr rfl)),aH,(@aM _ _ _ _ _ _ _ (@jg _ _ rfl) (pv 1) (@ah _ _ _ _ _ _ _ _ _ _ _ C__law_take hr (by lia) rfl (@aa _ _ _ _ _ (pv 2) (@aa _ _ _ _ _ (@ak _ _ _ _ _ _ _ _ _ (@dH _ _ rfl) rfl B.ilen aaO (@aa _ _ _ _ _ (pv 1) ac (by rfl)) (by decide) (by decide) (by rfl) (by rfl)) ac (by rfl)) (by rfl)) (by decide) (by rfl) (by rfl)) (fun _ _=>rfl))⟩) (by rfl) (by rfl) (by rfl) (by rfl) (by intro _;rfl)) (@bZ _ _ _ _ _ _ _ _ (["k","ways","pot"]) ([none,some 3,some 0]) _ _ _ _ rfl (@bz _ _ _ _ _ _ rfl B.irange (@aa _ _ _ _ _ ae ac (by rfl)) (by rfl)) rfl ⟨rfl,⟨rfl,trivial⟩⟩ ⟨⟨rfl,Or.inl rfl,Or.inl rfl⟩,⟨⟨rfl,Or.inl rfl,Or.inl rfl⟩,trivial⟩⟩ (fun _ _ _ _=>⟨(@aj _ _ (0) _ (show aaX (["k","ways","pot"]:List Str) by decide +kernel) rfl (Or.inl rfl) (.inr rfl)),aH,(@aM _ _ _ _ _ _ _ (@jg _ _ rfl) (pv 1) (@ah _ _ _ _ _ _ _ _ _ _ _ C__law_take hr (by lia) rfl (@aa _ _ _ _ _ (pv 2) (@aa _ _ _ _ _ (@ak _ _ _ _ _ _ _ _ _ (@dH _ _ rfl) rfl B.ilen aaO (@aa _ _ _ _ _ (pv 1) ac (by rfl)) (by decide) (by decide) (by rfl) (by rfl)) ac (by rfl)) (by rfl)) (by decide) (by rfl) (by rfl)) (fun _ _=>rfl))⟩) (by rfl) (by rfl) (by rfl) (by rfl) (by intro _;rfl))) (by rfl) (by first|exact .inl rfl|exact .inr rfl|assumption)) (@af _ _ _ _ _ (@av _ _ (7) _ _ _ _ (aL).nd rfl (Or.inr rfl) (@ah _ _ _ _ _ _ _ _ _ _ _ C__law_ways hr (by lia) rfl (@aa _ _ _ _ _ (pv 1) (@aa _ _ _ _ _ bc ac (by rfl)) (by rfl)) (by decide) (by rfl) (by rfl)) (by rfl) (by first|exact .inl rfl|exact .inr rfl|assumption)) (@af _ _ _ _ _ (@av _ _ (6) _ _ _ _ (aL).nd rfl (Or.inl rfl) (@ap _ _ _ _ _ _ _ _ fm (pv 6) (@bZ _ _ _ _ _ _ _ _ (["k","others","pot"]) ([none,some 7,some 0]) _ _ _ _ rfl (@bz _ _ _ _ _ _ rfl B.irange (@aa _ _ _ _ _ ae ac (by rfl)) (by rfl)) rfl ⟨rfl,⟨rfl,trivial⟩⟩ ⟨⟨rfl,Or.inl rfl,Or.inl rfl⟩,⟨⟨rfl,Or.inl rfl,Or.inl rfl⟩,trivial⟩⟩ (fun _ _ _ _=>⟨(@aj _ _ (0) _ (show aaX (["k","others","pot"]:List Str) by decide +kernel) rfl (Or.inl rfl) (.inr rfl)),aH,(@aM _ _ _ _ _ _ _ (@jg _ _ rfl) (pv 1) (@ah _ _ _ _ _ _ _ _ _ _ _ C__law_take hr (by lia) rfl (@aa _ _ _ _ _ (pv 2) (@aa _ _ _ _ _ (@ak _ _ _ _ _ _ _ _ _ (@dH _ _ rfl) rfl B.ilen aaO (@aa _ _ _ _ _ (pv 1) ac (by rfl)) (by decide) (by decide) (by rfl) (by rfl)) ac (by rfl)) (by rfl)) (by decide) (by rfl) (by rfl)) (fun _ _=>rfl))⟩) (by rfl) (by rfl) (by rfl) (by rfl) (by intro _;rfl))) (by rfl) (by first|exact .inl rfl|exact .inr rfl|assumption)) (@af _ _ _ _ _ (@av _ _ (8) _ _ _ _ (aL).nd rfl (Or.inl rfl) (@ah _ _ _ _ _ _ _ _ _ _ _ C__law_ways hr (by lia) rfl (@aa _ _ _ _ _ (@ap _ _ _ _ _ _ _ _ fm (pv 1) (@aJ _ _ _ _ (@aa _ _ _ _ _ (@ah _ _ _ _ _ _ _ _ _ _ _ C__law_take hr (by lia) rfl (@aa _ _ _ _ _ (pv 0) (@aa _ _ _ _ _ ae ac (by rfl)) (by rfl)) (by decide) (by rfl) (by rfl)) ac (by rfl)))) (@aa _ _ _ _ _ (pv 2) ac (by rfl)) (by rfl)) (by decide) (by rfl) (by rfl)) (by rfl) (by first|exact .inl rfl|exact .inr rfl|assumption)) (@af _ _ _ _ _ (@av _ _ (6) _ _ _ _ (aL).nd rfl (Or.inl rfl) (@ap _ _ _ _ _ _ _ _ fm (pv 6) (@aJ _ _ _ _ (@aa _ _ _ _ _ (@aM _ _ _ _ _ _ _ aQ (pv 8) (@ah _ _ _ _ _ _ _ _ _ _ _ C__law_take hr (by lia) rfl (@aa _ _ _ _ _ (pv 0) (@aa _ _ _ _ _ (@ak _ _ _ _ _ _ _ _ _ ay rfl B.ilen aaO (@aa _ _ _ _ _ (pv 8) ac (by rfl)) (by decide) (by decide) (by rfl) (by rfl)) ac (by rfl)) (by rfl)) (by decide) (by rfl) (by rfl)) (fun _ _=>rfl)) (@aa _ _ _ _ _ (@aM _ _ _ _ _ _ _ aQ (@ah _ _ _ _ _ _ _ _ _ _ _ C__law_ways hr (by lia) rfl (@aa _ _ _ _ _ (@u0 _ _ _ _ _ _ _ (pv 1) (@h_ _ _ _ _ _ _ eV ae)) (@aa _ _ _ _ _ (pv 2) ac (by rfl)) (by rfl)) (by decide) (by rfl) (by rfl)) ae (fun _ _=>rfl)) ac (by rfl)) (by rfl)))) (by rfl) (by first|exact .inl rfl|exact .inr rfl|assumption)) (@ag _ _ _ (@ar _ _ _ _ (@ap _ _ _ _ _ _ _ _ fm (pv 6) (@ah _ _ _ _ _ _ _ _ _ _ _ C__law_no_ways hr (by lia) rfl (@aa _ _ _ _ _ (@aM _ _ _ _ _ _ _ aQ (pv 6) ae (fun _ _=>rfl)) ac (by rfl)) (by decide) (by rfl) (by rfl)))))))))))),?_⟩;obtain ⟨ws,hws0⟩:∃ ws,aw 5 gs ns=ws:=⟨_,rfl⟩
  have hin:∀ w∈ws,w.nums=ns:=fun w hw=>((g6 gs w 5 ns n1 n5).mp (by rw [hws0];exact hw)).1;have hsz:∀ w∈ws,w.size=ns.length:=fun w hw=>by rw [← Wy.nums_len,hin w hw]
  obtain ⟨lp,l1⟩:=lA (n:=5) (by decide) g1 g3 n1 n5;rw [hws0] at hws lp l1;have lu:=hws.length;refine ⟨_,rfl,pw,rfl,⟨_,SqL.of ew⟩,?_⟩;refine b_ (Trn.list (xs:=us)) (fun i ys H'=>Same H H'∧ys=((ws.take i).map Wy.wv).map V.int) ⟨Same.refl _,rfl⟩ (fun i ys H' hi z=>⟨SqL.of (z.1 _ _ ew),by rw [z.2];exact gC (by rw [aab,aab,aax];lia)⟩) (fun i x ys H0 H' hi hx z Nx nx=>?_) (fun ys H' z pv nv=>?_)
  · obtain ⟨S,rfl⟩:=z;obtain ⟨rfl,hx⟩:=hx;obtain ⟨w,hw,hwx⟩:=lE (hws.mono (Tups.of S)) hx;have hm:=aas hw;refine ⟨_,rfl,w,x,rfl,hwx,by have:=hsz w hm;lia,by decide,w.bd_of (by rw [hin w hm];exact sm),fun H1 s1=>nx _ _ ⟨S.trans s1,?_⟩⟩;rw [aay,hw,aaH,aaH];rfl
  obtain ⟨S1,rfl⟩:=z;rw [← lu,aaZ];have sv:=Same.new nv (.lst ((ws.map Wy.wv).map V.int));have ev:upd H' pv (.lst ((ws.map Wy.wv).map V.int)) pv=_:=ad;have S2:=S1.trans sv;generalize upd H' pv (.lst ((ws.map Wy.wv).map V.int))=H2 at sv ev S2 ⊢;have ew2:=S2 _ _ ew;have hlz:us.length=((ws.map Wy.wv).map V.int).length:=by rw [aab,aab];exact lu.symm
  refine ⟨_,rfl,_,rfl,pw,pv,rfl,⟨_,SqL.of ew2⟩,⟨_,SqL.of ev⟩,?_⟩;refine b_ (Trn.zip (K:=K) hlz) (fun i ys H'=>Same H2 H'∧WyAll H' ((ws.take i).filter (kp (ws.map Wy.wv))) ys) ⟨Same.refl _,.nil⟩ (fun i ys H' hi z=>⟨⟨SqL.of (z.1 _ _ ew2),SqL.of (z.1 _ _ ev)⟩,gC (by rw [← z.2.length];exact aaE (abu _ _) (by rw [aax];lia))⟩) (fun i x ys H0 H' hi hx z Nx nx=>?_) (fun ys H' z pb nb=>?_)
  · obtain ⟨S,hys⟩:=z;obtain ⟨pt,u,v,np,rfl,rfl,hu,hv⟩:=hx;obtain ⟨w,hw,hwx⟩:=lE (hws.mono (Tups.of (S2.trans S))) hu;have hm:=aas hw;have st:=Same.new np (.tup [u,v]);rw [aao,aao,hw] at hv;have hv:v=.int w.wv:=(aal hv).symm;subst hv;have et:upd H0 pt (.tup [u,.int w.wv]) pt=_:=ad;have Sx:=S.trans st;generalize upd H0 pt (.tup [u,.int w.wv])=H3 at st et Sx ⊢;refine ⟨pt,_,rfl,SqT.of et,rfl,_,_,rfl,_,_,rfl,rfl,?_⟩;have ev3:=Sx _ _ ev;have wne:ws.map Wy.wv≠[]:=fun z=>by rw [List.map_eq_nil_iff.mp z] at hm;cases hm
    refine ⟨_,rfl,_,rfl,pv,_,rfl,SqL.of ev3,wne,fun m hmm h1=>⟨_,rfl,pv,_,rfl,SqL.of ev3,wne,fun M hMM h2=>⟨(by show 2≤sizeLine;decide),fun pq npq=>⟨pq,_,rfl,.inr (SqT.of ad),rfl,rfl,_,rfl,?_⟩⟩⟩⟩;have sq:=Same.new npq (.tup [.int m,.int M]);have Sy:=Sx.trans sq;have ek:=wU (abo hm) hmm h1 hMM h2;have hy:=hys.mono (Tups.of (st.trans sq));show if inV (.int w.wv) [.int m,.int M]=true then _ else _
    rw [ek];cases c:kp (ws.map Wy.wv) w with
    | false =>
      refine aB (nx _ _ ⟨Sy,?_⟩);rw [aay,hw,List.filter_append];have : [w].filter (kp (ws.map Wy.wv))=[]:=by rw [abX,c];rfl
      rw [show (some w).toList=[w] from rfl,this,List.append_nil];exact hy
    | true =>
      refine aI ⟨_,rfl,nx _ _ ⟨Sy,?_⟩⟩;rw [aay,hw,List.filter_append];have : [w].filter (kp (ws.map Wy.wv))=[w]:=by rw [abX,c];rfl
      rw [show (some w).toList=[w] from rfl,this];exact WyAll.app hy (.cons (hwx.mono (Tups.of (st.trans sq))) .nil)
  obtain ⟨S3,hys⟩:=z;rw [← lu,aaZ] at hys;have wsne:ws≠[]:=fun z=>by rw [z] at lp;simp at lp
  have bp:=wT wsne;have lb:=abu (kp (ws.map Wy.wv)) ws;have ly:=hys.length;have npb:=(hP.keep (S2.trans S3)).ne nb;have sb:=Same.new nb (.lst ys);have eb:upd H' pb (.lst ys) pb=_:=ad;have S4:=(S2.trans S3).trans sb;have hysb:=hys.mono (Tups.of sb);generalize upd H' pb (.lst ys)=G at sb eb S4 hysb ⊢;have PG:=hP.keep S4;have hysw:WyAll G (ws.filter (kp (ws.map Wy.wv))) ys:=hysb;refine ⟨3,rfl,by decide,by decide,?_⟩;refine b_ (Trn.range (lo:=0) (n:=(3:Int).toNat)) (fun i zs H'=>But wl G H'∧Pot H' wl∧zs.length=i∧Wys H' (fun w=>w.nums=ns) zs) ⟨But.refl,PG,rfl,(fun z hz=>nomatch hz)⟩ (fun i zs H' hi z=>⟨trivial,aA (by rw [z.2.2.1];have : i≤3:=hi;lia)⟩) (fun i x zs H0 H' hi hx z Nx nx=>?_) (fun zspc Hpc z pc npc=>?_)
  · obtain ⟨k,w',lz,hz⟩:=z;obtain ⟨rfl,rfl⟩:=hx;refine ⟨_,rfl,_,rfl,_,rfl,pb,ys,rfl,.inl (SqL.of (k _ _ npb eb)),wl,_,rfl,(by lia),(by lia),w',fun r H1 a b k1 w1=>?_⟩;obtain ⟨x,hx,w0,hw0,hx0⟩:=eT (hysw.mono (PG.tups (k.trans k1))) a b;refine ⟨pb,_,_,x,rfl,rfl,SqL.of (k1 _ _ npb (k _ _ npb eb)),hx,nx _ _ ⟨k.trans k1,w1,by rw [aaj,lz];rfl,fun z hz'=>?_⟩⟩;rcases aav.mp hz' with hz'|hz'
    · exact hz.mono (w'.tups k1) z hz'
    · rw [aaM.mp hz'];exact ⟨w0,hin w0 (acu.mp hw0).1,hx0⟩
  obtain ⟨k1,P1,lz1,hz1⟩:=z;have B1:But wl H Hpc:=(But.of S4).trans k1;have sc:=Same.new npc (.lst zspc);have wc:=P1.ne npc;have ec:upd Hpc pc (.lst zspc) pc=_:=ad;have BG1:=B1.trans (But.of sc);have PG1:=P1.keep sc;have hz1:=hz1.mono (Tups.of sc);generalize upd Hpc pc (.lst zspc)=G1 at sc ec BG1 PG1 hz1 ⊢;have ewG1:=BG1 _ _ npw ew;have hwsG1:=hws.mono (hP.tups BG1);refine ⟨2,rfl,by decide,by decide,?_⟩;refine b_ (Trn.range (lo:=0) (n:=(2:Int).toNat)) (fun i zs H'=>But wl G1 H'∧Pot H' wl∧zs.length=i∧Wys H' (fun w=>w.nums=ns) zs) ⟨But.refl,PG1,rfl,(fun z hz=>nomatch hz)⟩ (fun i zs H' hi z=>⟨trivial,aA (by rw [z.2.2.1];have : i≤2:=hi;lia)⟩) (fun i x zs H0 H' hi hx z Nx nx=>?_) (fun zspd Hpd z pd npd=>?_)
  · obtain ⟨k,w',lz,hz⟩:=z;obtain ⟨rfl,rfl⟩:=hx;refine ⟨_,rfl,_,rfl,_,rfl,pw,us,rfl,.inl (SqL.of (k _ _ npw ewG1)),wl,_,rfl,(by lia),(by lia),w',fun r H1 a b k1 w1=>?_⟩;obtain ⟨x,hx,w0,hw0,hx0⟩:=eT (hwsG1.mono (PG1.tups (k.trans k1))) a b;refine ⟨pw,_,_,x,rfl,rfl,SqL.of (k1 _ _ npw (k _ _ npw ewG1)),hx,nx _ _ ⟨k.trans k1,w1,by rw [aaj,lz];rfl,fun z hz'=>?_⟩⟩;rcases aav.mp hz' with hz'|hz'
    · exact hz.mono (w'.tups k1) z hz'
    · rw [aaM.mp hz'];exact ⟨w0,hin w0 hw0,hx0⟩
  obtain ⟨k2,P2,lz2,hz2⟩:=z;have sd:=Same.new npd (.lst zspd);have ed:upd Hpd pd (.lst zspd) pd=_:=ad;have BG2:=(BG1.trans k2).trans (But.of sd);have PG2:=P2.keep sd;have hz2:=hz2.mono (Tups.of sd);have hz1:=hz1.mono ((PG1.tups k2).trans (Tups.of sd));have ec:=sd _ _ (k2 _ _ wc ec);generalize upd Hpd pd (.lst zspd)=G2 at sd ed BG2 PG2 hz2 hz1 ec ⊢;have lz1:zspc.length=3:=lz1;have lz2:zspd.length=2:=lz2;refine ⟨pc,pd,_,_,rfl,rfl,ec,ed,cE (by lia),fun pf nf=>?_⟩;obtain ⟨x0,hx0⟩:∃ x0,zspc[0]?=some x0:=⟨zspc[0],aac (by lia)⟩
  obtain ⟨w00,hw00,hwx0⟩:=hz1 x0 (aas hx0);have gw:∀ w:Wy,w.nums=ns→GW w:=fun w e=>⟨by rw [← Wy.nums_len,e];lia,by rw [e];exact sm⟩
  obtain ⟨fz,hfz⟩:∃ fz,zspc++zspd=fz:=⟨_,rfl⟩
  have lfz:fz.length=5:=by rw [← hfz,aaj];lia
  have hf0:fz[0]?=some x0:=by rw [← hfz,abM (by lia)];exact hx0
  have hfw:Wys G2 GW fz:=by rw [← hfz];exact (hz1.app hz2).imp gw
  rw [hfz];have sf:=Same.new nf (.lst fz);have ef:upd G2 pf (.lst fz) pf=_:=ad;have BG3:=BG2.trans (But.of sf);have PG3:=PG2.keep sf;have npf:=PG2.ne nf;have hfw:=hfw.mono (Tups.of sf);have hwx0:=hwx0.mono (Tups.of sf);generalize upd G2 pf (.lst fz)=G3 at sf ef BG3 PG3 hfw hwx0 ⊢;rw [qX.1];refine ⟨_,rfl,r,ns,[.plus,.minus,.times],rfl,BG3 _ _ nrw er,n1,by lia,by decide,by decide,by decide,fun po uo Ho so npo epo hwo=>?_⟩;have hno:=PG3.ne npo;have BGo:=BG3.trans (But.of so);have PGo:=PG3.keep so;obtain ⟨lp2,lp3⟩:=lA (n:=6) (gs:=[.plus,.minus,.times]) (by decide) (by decide) (by decide) n1 (by lia:ns.length≤6);have luo:=hwo.length;have hino:∀ w∈aw 6 [.plus,.minus,.times] ns,w.nums=ns:=fun w hw=>((g6 _ w 6 ns n1 (by lia)).mp hw).1;refine ⟨_,rfl,3,rfl,by decide,by decide,?_⟩;refine b_ (Trn.range (lo:=0) (n:=(3:Int).toNat)) (fun i zs H'=>But wl Ho H'∧Pot H' wl∧zs.length=i∧Wys H' (fun w=>w.nums=ns) zs) ⟨But.refl,PGo,rfl,(fun z hz=>nomatch hz)⟩ (fun i zs H' hi z=>⟨trivial,aA (by rw [z.2.2.1];have : i≤3:=hi;lia)⟩) (fun i x zs H0 H' hi hx z Nx nx=>?_) (fun zspg Hpg z pg npg=>?_)
  · obtain ⟨k,w',lz,hz⟩:=z;obtain ⟨rfl,rfl⟩:=hx;refine ⟨_,rfl,_,rfl,_,rfl,po,uo,rfl,.inl (SqL.of (k _ _ hno epo)),wl,_,rfl,(by lia),(by lia),w',fun r H1 a b k1 w1=>?_⟩;obtain ⟨x,hx,w0,hw0,hx0⟩:=eT (hwo.mono (PGo.tups (k.trans k1))) a b;refine ⟨po,_,_,x,rfl,rfl,SqL.of (k1 _ _ hno (k _ _ hno epo)),hx,nx _ _ ⟨k.trans k1,w1,by rw [aaj,lz];rfl,fun z hz'=>?_⟩⟩;rcases aav.mp hz' with hz'|hz'
    · exact hz.mono (w'.tups k1) z hz'
    · rw [aaM.mp hz'];exact ⟨w0,hino w0 hw0,hx0⟩
  obtain ⟨k4,P4,lz4,hz4⟩:=z;have sg:=Same.new npg (.lst zspg);have eg:upd Hpg pg (.lst zspg) pg=_:=ad;have BG5:=(BGo.trans k4).trans (But.of sg);have PG5:=P4.keep sg;have t5:=((Tups.of so).trans (PGo.tups k4)).trans (Tups.of sg);have hz4:=hz4.mono (Tups.of sg);have hfw:=hfw.mono t5;have hwx0:=hwx0.mono t5;have ef:=sg _ _ (k4 _ _ npf (so _ _ ef));generalize upd Hpg pg (.lst zspg)=G5 at sg eg BG5 PG5 hz4 hfw hwx0 ef ⊢;have lz4:zspg.length=3:=lz4;refine ⟨pf,pg,_,_,rfl,rfl,ef,eg,cE (by lia),fun ph nh=>?_⟩;obtain ⟨hz,hhz⟩:∃ hz,fz++zspg=hz:=⟨_,rfl⟩
  have lhz:hz.length=8:=by rw [← hhz,aaj];lia
  have hh0:hz[0]?=some x0:=by rw [← hhz,abM (by lia)];exact hf0
  have hhw:Wys G5 GW hz:=by rw [← hhz];exact hfw.app (hz4.imp gw)
  rw [hhz];have sh:=Same.new nh (.lst hz);have eh:upd G5 ph (.lst hz) ph=_:=ad;have BG6:=BG5.trans (But.of sh);have PG6:=PG5.keep sh;have nph:=PG5.ne nh;have hhw:=hhw.mono (Tups.of sh);have hwx0:=hwx0.mono (Tups.of sh);generalize upd G5 ph (.lst hz)=G6 at sh eh BG6 PG6 hhw hwx0 ⊢;refine ⟨_,rfl,_,rfl,wl,2,rfl,by decide,by decide,PG6,fun r2 G7 a2 b2 k7 P7=>⟨(by show 1≤sizeLine;decide),fun pi npi=>?_⟩⟩;have si:=Same.new npi (.lst [.int r2]);have ei:upd G7 pi (.lst [.int r2]) pi=_:=ad;have BG8:=(BG6.trans k7).trans (But.of si);have PG8:=P7.keep si;have t8:=(PG6.tups k7).trans (Tups.of si);have hhw:=hhw.mono t8;have hwx0:=hwx0.mono t8;have eh:=si _ _ (k7 _ _ nph eh);generalize upd G7 pi (.lst [.int r2])=G8 at si ei BG8 PG8 hhw hwx0 eh ⊢;refine ⟨r,pi,_,_,rfl,rfl,BG8 _ _ nrw er,ei,cE (by rw [aab];show ns.length+1≤1000;lia),fun pj nj=>?_⟩;have elj:ns.map V.int++[V.int r2]=(ns++[r2]).map V.int:=by rw [aaH];rfl
  rw [elj];have lnj:(ns++[r2]).length=ns.length+1:=by rw [aaj];rfl
  have smj:cL (ns++[r2]):=fun i hi=>by
    rcases aav.mp hi with hi|hi
    · exact sm i hi
    · rw [aaM.mp hi];lia
  have sj:=Same.new nj (.lst ((ns++[r2]).map V.int));have ej:upd G8 pj (.lst ((ns++[r2]).map V.int)) pj=_:=ad;have BG9:=BG8.trans (But.of sj);have PG9:=PG8.keep sj;have hhw:=hhw.mono (Tups.of sj);have hwx0:=hwx0.mono (Tups.of sj);have eh:=sj _ _ eh;generalize upd G8 pj (.lst ((ns++[r2]).map V.int))=G9 at sj ej BG9 PG9 hhw hwx0 eh ⊢;refine ⟨_,rfl,pj,ns++[r2],gs,rfl,ej,by lia,by lia,by decide,g1,g3,fun pk uk Gk sk npk ek hwk=>?_⟩;have BGk:=BG9.trans (But.of sk);have PGk:=PG9.keep sk;have nkw:=PG9.ne npk;have hhw:=hhw.mono (Tups.of sk);have hwx0:=hwx0.mono (Tups.of sk);have eh:=sk _ _ eh;obtain ⟨lk1,lk2⟩:=lA (n:=6) (gs:=gs) (ns:=ns++[r2]) (by decide) g1 g3 (by lia) (by lia);have luk:=hwk.length;refine ⟨_,rfl,_,rfl,_,rfl,_,rfl,pk,uk,rfl,.inl (SqL.of ek),wl,_,rfl,(by lia),(by lia),PGk,fun r3 Gl a3 b3 kl Pl=>?_⟩;obtain ⟨xk,hxk,wk,hwkm,hwkx⟩:=eT (hwk.mono (PGk.tups kl)) a3 b3;have gwk:GW wk:=by
    have:=((g6 gs wk 6 (ns++[r2]) (by lia) (by lia)).mp hwkm).1;exact ⟨by rw [← Wy.nums_len,this];lia,by rw [this];exact smj⟩
  have BGl:=BGk.trans kl;have hhw:=hhw.mono (PGk.tups kl);have hwx0:=hwx0.mono (PGk.tups kl);have eh:=kl _ _ nph eh;refine ⟨pk,_,_,xk,rfl,rfl,SqL.of (kl _ _ nkw ek),hxk,?_⟩;refine ⟨_,rfl,_,rfl,rfl,r,_,rfl,SqL.of (BGl _ _ nrw er),fun pm nm=>?_⟩;rw [← List.map_reverse];have sm':=Same.new nm (.lst (ns.reverse.map V.int));have em:upd Gl pm (.lst (ns.reverse.map V.int)) pm=_:=ad;have BGm:=BGl.trans (But.of sm');have PGm:=Pl.keep sm';have hhw:=hhw.mono (Tups.of sm');have hwx0:=hwx0.mono (Tups.of sm');have eh:=sm' _ _ eh;have hwkx:=hwkx.mono (Tups.of sm');generalize upd Gl pm (.lst (ns.reverse.map V.int))=Gm at sm' em BGm PGm hhw hwx0 eh hwkx ⊢;have lrv:ns.reverse.length=ns.length:=List.length_reverse;refine ⟨_,rfl,pm,ns.reverse,gs,rfl,em,by lia,by lia,by decide,g1,g3,fun pn un Gn sn npn en hwn=>?_⟩;have BGn:=BGm.trans (But.of sn);have PGn:=PGm.keep sn;have hhw:=hhw.mono (Tups.of sn);have hwx0:=hwx0.mono (Tups.of sn);have eh:=sn _ _ eh;have hwkx:=hwkx.mono (Tups.of sn);obtain ⟨ln1,ln2⟩:=lA (n:=6) (gs:=gs) (ns:=ns.reverse) (by decide) g1 g3 (by lia) (by lia);have lun:=hwn.length;obtain ⟨x1,hx1,w1,hw1m,hw1x⟩:=eT hwn (r:=0) (by decide) (by lia);have gw1:GW w1:=by
    have:=((g6 gs w1 6 ns.reverse (by lia) (by lia)).mp hw1m).1;exact ⟨by rw [← Wy.nums_len,this];lia,by rw [this];exact fun i hi=>sm i (List.mem_reverse.mp hi)⟩
  refine ⟨pn,_,0,x1,rfl,rfl,SqL.of en,hx1,(by show 2≤sizeLine;decide),fun pq npq=>?_⟩;have sq:=Same.new npq (.lst [xk,x1]);have eq:upd Gn pq (.lst [xk,x1]) pq=_:=ad;have BGq:=BGn.trans (But.of sq);have PGq:=PGn.keep sq;have hhw:=hhw.mono (Tups.of sq);have hwx0:=hwx0.mono (Tups.of sq);have eh:=sq _ _ eh;have two:Wys (upd Gn pq (.lst [xk,x1])) GW [xk,x1]:=fun z hz=>by
    rcases aai.mp hz with rfl|hz
    · exact ⟨wk,gwk,hwkx.mono (Tups.of sq)⟩
    · rw [aaM.mp hz];exact ⟨w1,gw1,hw1x.mono (Tups.of sq)⟩
  generalize upd Gn pq (.lst [xk,x1])=Gq at sq eq BGq PGq hhw hwx0 eh two ⊢;refine ⟨ph,pq,_,_,rfl,rfl,eh,eq,cE (by show hz.length+2≤1000;lia),fun pr npr=>?_⟩;obtain ⟨rz,hrz⟩:∃ rz,hz++[xk,x1]=rz:=⟨_,rfl⟩
  have lrz:rz.length=10:=by rw [← hrz,aaj,lhz];rfl
  have hr0:rz[0]?=some x0:=by rw [← hrz,abM (by lia)];exact hh0
  have hrw:Wys Gq GW rz:=by rw [← hrz];exact hhw.app two
  rw [hrz];have sr:=Same.new npr (.lst rz);have er':upd Gq pr (.lst rz) pr=_:=ad;have BGr:=BGq.trans (But.of sr);have PGr:=PGq.keep sr;have hrw:=hrw.mono (Tups.of sr);have hwx0:=hwx0.mono (Tups.of sr);generalize upd Gq pr (.lst rz)=Gr at sr er' BGr PGr hrw hwx0 ⊢;have s00:w00.size=ns.length:=by rw [← Wy.nums_len,hw00]
  refine ⟨_,rfl,_,rfl,pr,_,0,x0,rfl,rfl,SqL.of er',cG (j:=0) hr0,x0,w00,rfl,hwx0,by lia,by rw [hw00];exact sm,fun pt ut Ht st et lt hut=>?_⟩;refine ⟨pr,pt,_,_,rfl,rfl,st _ _ er',et,cE (by lia),fun pz npz=>?_⟩;have sz:=Same.new npz (.lst (rz++ut));have BGz:=BGr.trans (But.of st);have PGz:=PGr.keep st;refine q pz _ _ (BGz.trans (But.of sz)) (PGz.keep sz) ?_ ad (by rw [aaj];lia) fun x hx=>?_
  · cases e:H pz with
    | none=>rfl
    | some o =>
      have npw':=PGz.ne npz;have:=BGz _ _ npw' e;rw [npz] at this;cases this
  · rcases aav.mp hx with hx|hx
    · obtain ⟨w,hw,hwx⟩:=hrw x hx;exact uG (hwx.mono (Tups.of (st.trans sz))) hw.1 hw.2
    · have:=(hut x hx).mono sz;rw [s00] at this;exact this
end
open PySem L2
def TG (w:World) (K:aaa) (H:Hp) (v:V):Prop:=∃ (t:Option PPa) (d:PyData),ThIn w K H t v∧(∀ ps,t=some ps→OkP ps∧(ps.map (·.1)).Nodup)∧Dx1 w H d v∧OkX d∧szX d≤1500∧d.depth≤20
theorem TG.mono {w:World} {K:aaa} {H H':Hp} {v:V} (g:Same H H') (h:TG w K H v):TG w K H' v:=by
  obtain ⟨t,d,h1,h2,h3,h4⟩:=h;exact ⟨t,d,h1.mono g,h2,h3.mono g,h4⟩
theorem tR {ns:List Int} (sm:cL ns):OkXs (ns.map PyData.int):=by
  induction ns with
  | nil=>simp only [abG,OkXs]
  | cons n ns ih =>
    simp only [aae,OkXs,OkX];refine ⟨?_,ih fun i hi=>sm i (aak _ hi)⟩;have h:=sm n aat;have e:(10:Nat) ^ 12=1000000000000:=by decide
    have h:n.natAbs < 10 ^ 12:=by rw [e];lia
    exact aam h (abe (by decide) (by decide))
theorem tj (ns:List Int):szXs (ns.map PyData.int)=ns.length:=by
  induction ns with
  | nil=>rfl
  | cons n ns ih=>simp only [aae,szXs,szX,ih,aaY];lia
theorem ue (ns:List Int):aaJ (ns.map PyData.int)=0:=by
  induction ns with
  | nil=>simp [aaJ]
  | cons n ns ih=>simp only [aae,aaJ,ih,aaB];rfl
theorem mK {H:Hp}:∀ ns:List Int,DatAll H (ns.map PyData.int) (ns.map V.int)
  | []=>by simp only [abG,DatAll]
  | n :: ns=>by
    simp only [aae,DatAll,Dat];exact ⟨_,_,rfl,rfl,mK ns⟩
theorem mt {wl:Addr} {H H':Hp} (g:Same H H'):Same (off wl H) (off wl H'):=oU (But.of g)
theorem rZ {H:Hp}:∀ {ys:List V},(∀ y∈ys,Good H y)→∃ ds,Paired (Dat H) ds ys∧∀ d∈ds,Sm d
  | [],_=>⟨[],.nil,fun d hd=>nomatch hd⟩
  | y :: ys,h=>by
    obtain ⟨d,h1,h2⟩:=h y aat;obtain ⟨ds,h3,h4⟩:=rZ (ys:=ys) fun x hx=>h x (aak _ hx);refine ⟨d :: ds,.cons h1 h3,fun x hx=>?_⟩;rcases aai.mp hx with rfl|hx
    · exact h2
    · exact h4 x hx
theorem qV:∀ {ks ds:List PyData},(∀ d∈ks,Sm d)→(∀ d∈ds,Sm d)→OkKv (ks.zip ds)∧szKv (ks.zip ds)≤12 * ks.length∧ab0 (ks.zip ds)≤2
  | [],_,_,_=>⟨by simp only [List.zip_nil_left,OkKv],by simp [szKv],by simp [ab0]⟩
  | _ :: _,[],_,_=>⟨by simp only [List.zip_nil_right,OkKv],by simp [szKv],by simp [ab0]⟩
  | k :: ks,d :: ds,h1,h2=>by
    obtain ⟨a,b,c⟩:=h1 k aat;obtain ⟨a',b',c'⟩:=h2 d aat;obtain ⟨x,y,z⟩:=qV (ks:=ks) (ds:=ds) (fun e he=>h1 e (aak _ he)) (fun e he=>h2 e (aak _ he));refine ⟨by simp only [ab5,OkKv];exact ⟨a,a',x⟩,by simp only [ab5,szKv,aaY];lia,by simp only [ab5,ab0];lia⟩
theorem ku {a b:Int} (ha:a.natAbs < 10 ^ 280) (hb:b.natAbs < 10 ^ 280):Sm (.tuple [.int a,.int b]):=by
  refine ⟨?_,by simp [szX,szXs],by simp [aaB,aaJ]⟩;simp only [OkX,OkXs];exact ⟨ha,hb,trivial⟩
theorem oX {a:Int} {B:Nat} (h:a.natAbs+10≤B) (hB:B≤10 ^ 270):a.natAbs < 10 ^ 280 :=
  aam (aam (show a.natAbs < a.natAbs+10 by lia) (aaE h hB)) (abe (by decide) (by decide))
theorem uw {a:Int} (h:a.natAbs≤100):a.natAbs < 10 ^ 280:=aa2 h (by decide +kernel)
theorem xm {w:World} {H:Hp} {a:Addr} {E:Int × Int→Int × Int} {n:Nat} {kvs:List (List Key × V)} (n9:n≤9) (ha:H a=some (.dT kvs)) (hb:BtIn E H (aE n) kvs) (hq:BdQ E (aE n)):∃ d,Dx0 w H d (.ref a)∧OkX d∧szX d≤1201∧d.depth≤3:=by
  have hl:=gr n (by lia);have lk:kvs.length=(aE n).length:=(aaC hb).symm;have ek:=hb.keys;have hv:Paired (Dat H) ((aE n).map fun q=>PyData.tuple [.int (E q).1,.int (E q).2]) (kvs.map (·.2)):=by
    unfold BtIn at hb;generalize aE n=qs at hb;clear hl lk ek hq ha
    induction hb with
    | nil=>exact .nil
    | cons h t ih =>
      obtain ⟨_,t,h2,h3⟩:=h;refine .cons ?_ ih;simp only [Dat,DatAll];exact ⟨t,_,h2,h3,_,_,rfl,rfl,_,_,rfl,rfl,rfl⟩
  obtain ⟨x,y,z⟩:=qV (ks:=kvs.map fun p=>PyData.tuple (p.1.map mC)) (ds:=(aE n).map fun q=>PyData.tuple [.int (E q).1,.int (E q).2]) (fun d hd=>by
    obtain ⟨p,hp,rfl⟩:=aan.mp hd;have : p.1∈kvs.map (·.1):=abo hp;rw [ek] at this;obtain ⟨q,hq',e⟩:=aan.mp this;rw [← e];obtain ⟨r1,r2,r3,r4⟩:=iX n9 hq';exact ku (uw (by lia)) (uw (by lia))) (fun d hd=>by
    obtain ⟨q,hq',rfl⟩:=aan.mp hd;obtain ⟨b1,b2⟩:=hq q hq';have:=hX n9 hq';exact ku (oX b1 this) (oX b2 this))
  refine ⟨.dict ((kvs.map fun p=>PyData.tuple (p.1.map mC)).zip ((aE n).map fun q=>PyData.tuple [.int (E q).1,.int (E q).2])),.inr (.inl ⟨a,kvs,_,rfl,ha,hv,rfl⟩),by simp only [OkX];exact x,?_,?_⟩
  · simp only [szX];rw [aab] at y;lia
  · simp only [aaB];lia
theorem rE {E:Int × Int→Int × Int} {n:Nat} (n9:n≤9) (hq:BdQ E (aE n)):OkP (ppE E (aE n))∧((ppE E (aE n)).map (·.1)).Nodup:=by
  constructor
  · intro p hp;obtain ⟨q,hq',rfl⟩:=aan.mp hp;obtain ⟨b1,b2⟩:=hq q hq';have:=hX n9 hq';exact (ku (oX b1 this) (oX b2 this)).1
  · unfold ppE;rw [aaR];refine List.Pairwise.map _ (fun a b hab z=>hab ?_) (fX n n9);have z:MK.tup [a.1,a.2]=MK.tup [b.1,b.2]:=z;injection z with z
    injection z with z1 z
    injection z with z2
    exact Prod.ext z1 z2
theorem uu {w:World} {K:aaa} {H:Hp} {a:Addr} {E:Int × Int→Int × Int} {n:Nat} {kvs:List (List Key × V)} (n9:n≤9) (ha:H a=some (.dT kvs)) (hb:BtIn E H (aE n) kvs) (hq:BdQ E (aE n)):TG w K H (.ref a):=by
  obtain ⟨d,h1,h2,h3,h4⟩:=xm (w:=w) n9 ha hb hq;refine ⟨some (ppE E (aE n)),d,⟨a,rfl,pL ha hb⟩,fun ps e=>?_,.inl h1,h2,by lia,by lia⟩;injection e with e
  rw [← e];exact rE n9 hq
theorem vX {w:World} {K:aaa} {H:Hp} {a:Addr} {ks:List KEn} (hd:DmIn w H a ks) (hv:VOk H ks) (hl:ks.length≤60):TG w K H (.ref a):=by
  obtain ⟨kd,k1,k2⟩:=rZ (H:=H) (ys:=ks.map (·.2.1)) (fun y hy=>by
    obtain ⟨e,he,rfl⟩:=aan.mp hy;exact (hv e he).1)
  obtain ⟨vd,v1,v2⟩:=rZ (H:=H) (ys:=ks.map (·.2.2)) (fun y hy=>by
    obtain ⟨e,he,rfl⟩:=aan.mp hy;exact (hv e he).2)
  obtain ⟨x,y,z⟩:=qV k2 v2;have lk:=aaC k1;have lv:=aaC v1;rw [aab] at lk lv;refine ⟨some ((ks.map (·.1)).zip vd),.dict (kd.zip vd),⟨a,rfl,_,.inr (.inl ⟨ks,hd,rfl⟩),?_⟩,fun ps e=>?_,.inl (.inr (.inr ⟨a,ks,kd,vd,rfl,hd,k1,v1,rfl⟩)),by simp only [OkX];exact x,by simp only [szX];lia,by simp only [aaB];lia⟩
  · clear lk lv x y z k1 k2 v2 hl hd hv
    induction ks generalizing vd with
    | nil=>exact .nil
    | cons e ks ih =>
      cases v1 with
      | cons h t=>exact .cons ⟨rfl,h⟩ (ih _ t)
  · injection e with e
    rw [← e];refine ⟨fun p hp=>(v2 _ (List.of_mem_zip hp).2).1,?_⟩;rw [List.map_fst_zip (by rw [aab];lia)];exact hd.nd
theorem sZ {w:World} {K:aaa} {H:Hp} {v:V} {n:String} {d:PyData} (ty:TyOf K H v (.type n)) (hk:abN K (.type n) (.type "dict")=some false) (hd:Dat H d v) (h1:OkX d) (h2:szX d≤1500) (h3:d.depth≤20):TG w K H v :=
  ⟨none,d,⟨n,ty,hk⟩,(fun _ e=>nomatch e),.inl (.inl hd),h1,h2,h3⟩
theorem vZ {w:World} {K:aaa} {H:Hp} {v:V} (h:At0 v):TG w K H v:=by
  obtain ⟨d,h1,h2,h3,h4⟩:=lC h;have go:∀ n,TyOf K H v (.type n)→abN K (.type n) (.type "dict")=some false→TG w K H v:=fun n ty hk=>sZ ty hk (h1 H) h2 (by lia) (by lia);rcases h with rfl|⟨b,rfl⟩|⟨i,rfl,hi⟩|⟨z,rfl,hz⟩
  · exact go _ .non rfl
  · exact go _ (.bl b) rfl
  · exact go _ (.int i) rfl
  · exact go _ (.str z) rfl
theorem vY {w:World} {K:aaa} {H:Hp} {p:Addr} (h:H p=some (.dK [])):TG w K H (.ref p):=by
  refine ⟨some [],.dict [],⟨p,rfl,[],.inr (.inr ⟨h,rfl⟩),.nil⟩,fun ps e=>?_,.inl (.inl (by simp only [Dat,DatKv];exact ⟨p,[],rfl,h,rfl⟩)),by simp only [OkX,OkKv],by simp [szX,szKv],by simp [aaB,ab0]⟩;injection e with e
  rw [← e];exact ⟨(fun p hp=>nomatch hp),acI⟩
theorem mq {wl:Addr} {H:Hp} (hp:Pot H wl):Tups H (off wl H):=fun b xs e=>by
  obtain ⟨_,_,_,e'⟩:=hp;rw [gY (fun z=>by rw [z,e'] at e;cases e)];exact e
theorem DmIn.off {w:World} {wl d:Addr} {H:Hp} {ks:List KEn} (h:DmIn w H d ks) (hp:Pot H wl) (n:d≠wl):DmIn w (off wl H) d ks :=
  ⟨(gY n).trans h.at_,fun p hp'=>(h.keys p hp').mono (mq hp),h.nd,h.len⟩
open PySem L2
theorem tH {ns:List Int} {d e:PyData} (sm:cL ns) (n9:ns.length≤9) (oke:OkX e) (sze:szX e≤300) (dpe:e.depth≤20) (ok:OkX d) (sz:szX d≤1500) (dp:d.depth≤20):(PyData.list [.list (ns.map PyData.int),e,d]).showable=true∧(PyData.list [.list (ns.map PyData.int),e,d]).depth≤60∧(PyData.list [.list (ns.map PyData.int),e,d]).shown.length≤sizeLine:=by
  have okl:OkX (.list [.list (ns.map PyData.int),e,d]):=by simp only [OkX,OkXs];exact ⟨tR sm,oke,ok,trivial⟩
  refine ⟨gu _ okl,?_,oT okl ?_⟩
  · simp only [aaB,aaJ,ue];lia
  · simp only [szX,szXs,tj];lia
section
variable {P:Program} {w:World} {K:aaa} {mg:Str→Option Value} {base:Heap} {f:Addr} {fd:FuncData}
def kj (w:World) (K:aaa):Sp:=fun vs H Q _=>∃ (r pw:Addr) (ns:List Int) (gs:List Sg) (us:List V) (x v:V),vs=[.ref r,.str (al gs),.ref pw,x,v]∧H r=some (.lst (ns.map V.int))∧1≤ns.length∧ns.length≤5∧1≤gs.length∧gs.length≤3∧cX gs∧cL ns∧H pw=some (.lst us)∧WyAll H (aw 5 gs ns) us∧WR H ns.length x∧TG w K H v∧∀ H',Same H H'→Q (.bl true) H'
abbrev eB:Stmt:=top 52
theorem cD:FnScope ["row","signs","ways","way","thing","kept","due","found"] ["row","signs","ways","way","thing"] (am eB):=⟨rfl,rfl,rfl,by decide +kernel,rfl,by decide +kernel,by decide +kernel⟩
theorem kO (F:Fun K "_law_right" "_law_right" eB f fd) (B:Bu K mg) (C__law_said:Cal P w K mg base "_law_said" 2 ["row","signs","thing"] (mW w K)) (C__law_due:Cal P w K mg base "_law_due" 12 ["row","signs","ways","way","said"] qU)
    (C_greatest_shown:Cal P w K mg base "greatest_shown" 24 ["row","signs","way","thing"] (dY w K fun r=>r.1)) (C_least_shown:Cal P w K mg base "least_shown" 24 ["row","signs","way","thing"] (dY w K fun r=>r.2)):FnOk P w K mg base CX0 25 f fd ["row","signs","ways","way","thing"] (kj w K):=by
  refine F.ok cD (fun vs H Q E h=>?_) (fun cdv A outer s H vs Q E hr h=>?_)
  · obtain ⟨r,pw,ns,gs,us,x,v,rfl,_⟩:=h;rfl
  obtain ⟨r,pw,ns,gs,us,x,v,rfl,er,n1,n5,g1,g3,sp,sm,ew,hws,⟨⟨o,ho⟩,dw,hdw,okw,szw,dpw⟩,⟨t,d,ht,hok,hx,okd,szd,dpd⟩,q⟩:=h;refine ⟨_,(@af _ _ _ _ _ (@av _ _ (5) _ _ _ _ (cD).nd rfl (Or.inl rfl) (@ak _ _ _ _ _ _ _ _ _ (@jp _ (w) rfl hr.gd hr.units) rfl B.irepr PyProof.Rows.boot_repr (@aa _ _ _ _ _ (@aJ _ _ _ _ (@aa _ _ _ _ _ (pv 0) (@aa _ _ _ _ _ (pv 3) (@aa _ _ _ _ _ (pv 4) ac (by rfl)) (by rfl)) (by rfl))) ac (by rfl)) (by decide) (by decide) (by rfl) (by rfl)) (by rfl) (by first|exact .inl rfl|exact .inr rfl|assumption)) (@af _ _ _ _ _ (@av _ _ (6) _ _ _ _ (cD).nd rfl (Or.inl rfl) (@ah _ _ _ _ _ _ _ _ _ _ _ C__law_due hr (by lia) rfl (@aa _ _ _ _ _ (pv 0) (@aa _ _ _ _ _ (pv 1) (@aa _ _ _ _ _ (pv 2) (@aa _ _ _ _ _ (pv 3) (@aa _ _ _ _ _ (@ah _ _ _ _ _ _ _ _ _ _ _ C__law_said hr (by lia) rfl (@aa _ _ _ _ _ (pv 0) (@aa _ _ _ _ _ (pv 1) (@aa _ _ _ _ _ (pv 4) ac (by rfl)) (by rfl)) (by rfl)) (by decide) (by rfl) (by rfl)) ac (by rfl)) (by rfl)) (by rfl)) (by rfl)) (by rfl)) (by decide) (by rfl) (by rfl)) (by rfl) (by first|exact .inl rfl|exact .inr rfl|assumption)) (@af _ _ _ _ _ (@av _ _ (7) _ _ _ _ (cD).nd rfl (Or.inl rfl) (@au _ _ _ _ _ (@aa _ _ _ _ _ (@ah _ _ _ _ _ _ _ _ _ _ _ C_greatest_shown hr (by lia) rfl (@aa _ _ _ _ _ (pv 0) (@aa _ _ _ _ _ (pv 1) (@aa _ _ _ _ _ (pv 3) (@aa _ _ _ _ _ (pv 4) ac (by rfl)) (by rfl)) (by rfl)) (by rfl)) (by decide) (by rfl) (by rfl)) (@aa _ _ _ _ _ (@ah _ _ _ _ _ _ _ _ _ _ _ C_least_shown hr (by lia) rfl (@aa _ _ _ _ _ (pv 0) (@aa _ _ _ _ _ (pv 1) (@aa _ _ _ _ _ (pv 3) (@aa _ _ _ _ _ (pv 4) ac (by rfl)) (by rfl)) (by rfl)) (by rfl)) (by decide) (by rfl) (by rfl)) ac (by rfl)) (by rfl))) (by rfl) (by first|exact .inl rfl|exact .inr rfl|assumption)) (@af _ _ _ _ _ (@aY _ _ _ _ _ _ _ _ (@PW.pt _ _ _ (@gj _ _ _ _ _ _ _ (@aF _ _ _ _ _ _ _ _ (@vf _ hr.units) (@bZ _ _ _ _ _ _ _ _ (["one"]) ([none]) _ _ _ _ rfl (@ix _ _ _ _ _ rfl (pv 7)) rfl trivial trivial (fun _ _ _ _=>⟨(@aj _ _ (0) _ (show aaX (["one"]:List Str) by decide +kernel) rfl (Or.inl rfl) (.inr rfl)),(@iV _ _ _ (@bT _ _ _ _ (@bh _ _ _ (@ak _ _ _ _ _ _ _ _ _ (@eQ _ _ ("bool") rfl) rfl B.iisinstance aap (@aa _ _ _ _ _ (pv 0) (@aa _ _ _ _ _ (@bu _ _ (.ty "bool") _ _ rfl B.ibool ab3 rfl (by decide) (by decide)) ac (by rfl)) (by rfl)) (by decide) (by decide) (by rfl) (by rfl)) (by intro _;rfl)))),(pv 0)⟩) (by rfl) (by rfl) (by rfl) (by rfl) (by intro _;rfl)) (@aJ _ _ _ _ ac) (az _)) (@fi _ _ _ _ (@aF _ _ _ _ _ _ _ _ (@vg _ hr.units) (pv 7) (pv 6) (az _))))) (@ag _ _ _ (@ar _ _ _ _ cJ)) aG) (@ag _ _ _ (@ar _ _ _ _ (@aO _ _ _ _ _ _ _ _ bw (@ak _ _ _ _ _ _ _ _ _ (@jp _ (w) rfl hr.gd hr.units) rfl B.irepr PyProof.Rows.boot_repr (@aa _ _ _ _ _ (@aJ _ _ _ _ (@aa _ _ _ _ _ (pv 0) (@aa _ _ _ _ _ (pv 3) (@aa _ _ _ _ _ (pv 4) ac (by rfl)) (by rfl)) (by rfl))) ac (by rfl)) (by decide) (by decide) (by rfl) (by rfl)) (pv 5) (az _)))))))),?_⟩;have t2:(2:Nat)≤sizeLine:=by decide
  have t3:(3:Nat)≤sizeLine:=by decide
  have n9:ns.length≤9:=by lia
  obtain ⟨p1,p2,p3⟩:=tH sm n9 okw szw dpw okd szd dpd;obtain ⟨kt,hkt⟩:∃ kt,(PyData.list [.list (ns.map PyData.int),dw,d]).shown=kt:=⟨_,rfl⟩
  have DL:∀ {H':Hp},Same H H'→Paired (Dx1 w H') [.list (ns.map PyData.int),dw,d] [.ref r,x,v]:=fun g=>.cons (.inl (.inl (by simp only [Dat];exact ⟨r,_,rfl,g _ _ er,mK ns⟩))) (.cons (.inl (.inl (Dat.mono g _ _ hdw))) (.cons (hx.mono g) .nil));refine ⟨_,rfl,_,rfl,_,rfl,t3,fun L nL=>?_⟩;have s1:=Same.new nL (.lst [.ref r,x,v]);refine ⟨L,_,_,rfl,ad,DL s1,p1,p2,p3,?_⟩;rw [hkt];generalize upd H L (.lst [.ref r,x,v])=H1 at s1 ⊢;have er:=s1 _ _ er;have ew:=s1 _ _ ew;have hws:=hws.mono (Tups.of s1);have ho:=ho.mono s1;have ht:=ht.mono s1;refine ⟨_,rfl,_,rfl,_,rfl,_,rfl,_,rfl,_,rfl,_,rfl,r,ns,gs,t,v,rfl,er,n1,n9,g1,g3,ht,hok,fun H2 s2=>⟨fun e=>?_,fun e tt he htt=>?_⟩⟩
  · have z0:=Eq.refl (0:Nat);refine ⟨r,pw,ns,gs,us,x,.non,o,cI ns gs t,rfl,n1,n5,s2 _ _ ew,hws.mono (Tups.of s2),ho.mono s2,(fun _=>rfl),(fun p z=>by rw [e] at z;cases z),fun pd H3 s3 ed=>?_⟩;have S3:=s2.trans s3;refine ⟨_,rfl,_,rfl,_,rfl,_,rfl,r,ns,gs,x,o,t,v,rfl,S3 _ _ er,n1,n9,g1,g3,sp,⟨_,ho.mono S3⟩,ht.mono S3,(fun ps z=>(hok ps z).1),fun H4 s4=>?_⟩;have S4:=S3.trans s4;refine ⟨_,rfl,_,rfl,_,rfl,_,rfl,r,ns,gs,x,o,t,v,rfl,S4 _ _ er,n1,n9,g1,g3,sp,⟨_,ho.mono S4⟩,ht.mono S4,(fun ps z=>(hok ps z).1),fun H5 s5=>?_⟩;obtain ⟨b1,hb1⟩:∃ b1,(shR ns gs (cI ns gs t) o).1=b1:=⟨_,rfl⟩
    obtain ⟨b2,hb2⟩:∃ b2,(shR ns gs (cI ns gs t) o).2=b2:=⟨_,rfl⟩
    rw [hb1,hb2] at ed;show 2≤sizeLine∧_;refine ⟨t2,fun pf nf=>?_⟩;have s6:=Same.new nf (.tup [.bl b1,.bl b2]);have S6:=(S4.trans s5).trans s6;have ed6:=((s4.trans s5).trans s6) _ _ ed;have ef:upd H5 pf (.tup [.bl b1,.bl b2]) pf=_:=ad;have ew6:upd H5 pf (.tup [.bl ((fun r:Bool × Bool=>r.1) (shR ns gs (cI ns gs t) o)),.bl ((fun r:Bool × Bool=>r.2) (shR ns gs (cI ns gs t) o))])=upd H5 pf (.tup [.bl b1,.bl b2]):=by rw [← hb1,← hb2]
    rw [ew6];generalize upd H5 pf (.tup [.bl b1,.bl b2])=H6 at s6 S6 ed6 ef ⊢;refine ⟨_,rfl,pf,rfl,⟨_,SqT.of ef⟩,?_⟩;refine b_ (Trn.tup (xs:=[V.bl b1,V.bl b2])) (fun i zs H'=>Same H6 H'∧zs=[]) ⟨Same.refl _,rfl⟩ (fun i zs H' hi p=>by rw [p.2];exact ⟨SqT.of (p.1 _ _ ef),aA (by decide)⟩) (fun i y zs H0 H' hi hy p Nx nx=>?_) (fun zs H' p p5 n5'=>?_)
    · obtain ⟨S,rfl⟩:=p;obtain ⟨rfl,hy⟩:=hy;obtain ⟨b,rfl⟩:∃ b,y=.bl b:=by
        have hi:i < 2:=hi;have : i=0∨i=1:=by lia
        rcases this with rfl|rfl
        · exact ⟨b1,(aal hy).symm⟩
        · exact ⟨b2,(aal hy).symm⟩
      exact ⟨_,rfl,_,_,true,rfl,.bl b,rfl,true,rfl,aB (nx _ _ ⟨S,rfl⟩)⟩
    obtain ⟨SM,rfl⟩:=p;have s7:=Same.new n5' (.lst []);refine ⟨aaU _,fun p6 n6=>⟨0,p5,p6,[],[],by decide,rfl,rfl,SqL.of ((Same.new n6 _) _ _ ad),SqL.of ad,.inr ⟨fun _=>true,rfl,(fun j x y h=>by simp at h),?_⟩⟩⟩;have S7:=(SM.trans s7).trans (Same.new n6 (.lst []));generalize upd (upd H' p5 (.lst [])) p6 (.lst [])=H7 at S7 ⊢;refine ⟨false,rfl,aB ?_⟩;have dd:∀ {p:Addr},H7 p=some (.tup [.bl b1,.bl b2])→Dat H7 (.tuple [.bool b1,.bool b2]) (.ref p):=fun h=>bG h (da1 (db_ _) (da1 (db_ _) da0));have eqq:aaI (.tuple [.bool b1,.bool b2]) (.tuple [.bool b1,.bool b2])=true:=PySem.SeqAt.eqv_refl _ rfl;refine ⟨_,rfl,_,rfl,_,_,dd (S7 _ _ ef),dd (S7 _ _ ed6),rfl,rfl,(by simp [aaB,aaJ]),false,by rw [eqq];rfl,aB ?_⟩;have S8:=S6.trans S7;refine ⟨_,rfl,_,rfl,_,rfl,t3,fun L2 nL2=>?_⟩;have s9:=Same.new nL2 (.lst [.ref r,x,v]);refine ⟨L2,_,_,rfl,ad,DL ((s1.trans S8).trans s9),p1,p2,p3,?_⟩;rw [hkt];refine ⟨_,rfl,rfl,?_⟩;rw [decide_eq_true rfl];exact q _ ((s1.trans S8).trans s9)
  · have z0:=Eq.refl (0:Nat);refine ⟨r,pw,ns,gs,us,x,(.ref tt),o,cI ns gs t,rfl,n1,n5,s2 _ _ ew,hws.mono (Tups.of s2),ho.mono s2,(fun z=>by rw [he] at z;cases z),(fun p z=>by rw [he] at z;injection z with z;subst z;exact ⟨tt,rfl,htt⟩),fun pd H3 s3 ed=>?_⟩;have S3:=s2.trans s3;refine ⟨_,rfl,_,rfl,_,rfl,_,rfl,r,ns,gs,x,o,t,v,rfl,S3 _ _ er,n1,n9,g1,g3,sp,⟨_,ho.mono S3⟩,ht.mono S3,(fun ps z=>(hok ps z).1),fun H4 s4=>?_⟩;have S4:=S3.trans s4;refine ⟨_,rfl,_,rfl,_,rfl,_,rfl,r,ns,gs,x,o,t,v,rfl,S4 _ _ er,n1,n9,g1,g3,sp,⟨_,ho.mono S4⟩,ht.mono S4,(fun ps z=>(hok ps z).1),fun H5 s5=>?_⟩;obtain ⟨b1,hb1⟩:∃ b1,(shR ns gs (cI ns gs t) o).1=b1:=⟨_,rfl⟩
    obtain ⟨b2,hb2⟩:∃ b2,(shR ns gs (cI ns gs t) o).2=b2:=⟨_,rfl⟩
    rw [hb1,hb2] at ed;show 2≤sizeLine∧_;refine ⟨t2,fun pf nf=>?_⟩;have s6:=Same.new nf (.tup [.bl b1,.bl b2]);have S6:=(S4.trans s5).trans s6;have ed6:=((s4.trans s5).trans s6) _ _ ed;have ef:upd H5 pf (.tup [.bl b1,.bl b2]) pf=_:=ad;have ew6:upd H5 pf (.tup [.bl ((fun r:Bool × Bool=>r.1) (shR ns gs (cI ns gs t) o)),.bl ((fun r:Bool × Bool=>r.2) (shR ns gs (cI ns gs t) o))])=upd H5 pf (.tup [.bl b1,.bl b2]):=by rw [← hb1,← hb2]
    rw [ew6];generalize upd H5 pf (.tup [.bl b1,.bl b2])=H6 at s6 S6 ed6 ef ⊢;refine ⟨_,rfl,pf,rfl,⟨_,SqT.of ef⟩,?_⟩;refine b_ (Trn.tup (xs:=[V.bl b1,V.bl b2])) (fun i zs H'=>Same H6 H'∧zs=[]) ⟨Same.refl _,rfl⟩ (fun i zs H' hi p=>by rw [p.2];exact ⟨SqT.of (p.1 _ _ ef),aA (by decide)⟩) (fun i y zs H0 H' hi hy p Nx nx=>?_) (fun zs H' p p5 n5'=>?_)
    · obtain ⟨S,rfl⟩:=p;obtain ⟨rfl,hy⟩:=hy;obtain ⟨b,rfl⟩:∃ b,y=.bl b:=by
        have hi:i < 2:=hi;have : i=0∨i=1:=by lia
        rcases this with rfl|rfl
        · exact ⟨b1,(aal hy).symm⟩
        · exact ⟨b2,(aal hy).symm⟩
      exact ⟨_,rfl,_,_,true,rfl,.bl b,rfl,true,rfl,aB (nx _ _ ⟨S,rfl⟩)⟩
    obtain ⟨SM,rfl⟩:=p;have s7:=Same.new n5' (.lst []);refine ⟨aaU _,fun p6 n6=>⟨0,p5,p6,[],[],by decide,rfl,rfl,SqL.of ((Same.new n6 _) _ _ ad),SqL.of ad,.inr ⟨fun _=>true,rfl,(fun j x y h=>by simp at h),?_⟩⟩⟩;have S7:=(SM.trans s7).trans (Same.new n6 (.lst []));generalize upd (upd H' p5 (.lst [])) p6 (.lst [])=H7 at S7 ⊢;refine ⟨false,rfl,aB ?_⟩;have dd:∀ {p:Addr},H7 p=some (.tup [.bl b1,.bl b2])→Dat H7 (.tuple [.bool b1,.bool b2]) (.ref p):=fun h=>bG h (da1 (db_ _) (da1 (db_ _) da0));have eqq:aaI (.tuple [.bool b1,.bool b2]) (.tuple [.bool b1,.bool b2])=true:=PySem.SeqAt.eqv_refl _ rfl;refine ⟨_,rfl,_,rfl,_,_,dd (S7 _ _ ef),dd (S7 _ _ ed6),rfl,rfl,(by simp [aaB,aaJ]),false,by rw [eqq];rfl,aB ?_⟩;have S8:=S6.trans S7;refine ⟨_,rfl,_,rfl,_,rfl,t3,fun L2 nL2=>?_⟩;have s9:=Same.new nL2 (.lst [.ref r,x,v]);refine ⟨L2,_,_,rfl,ad,DL ((s1.trans S8).trans s9),p1,p2,p3,?_⟩;rw [hkt];refine ⟨_,rfl,rfl,?_⟩;rw [decide_eq_true rfl];exact q _ ((s1.trans S8).trans s9)
end
open PySem L2
theorem sR (ns:List Int) (lo hi:Option Int):∃ ms:List Int,fw (ns.map V.int) lo hi=ms.map V.int∧ms.length≤ns.length∧ms.length≤HT.sIx ns.length ns.length hi:=by
  refine ⟨(ns.drop (HT.sIx ns.length 0 lo)).take (HT.sIx ns.length ns.length hi - HT.sIx ns.length 0 lo),?_,?_,?_⟩
  · unfold fw;rw [aab,act,List.map_drop]
  · rw [aax,abf];lia
  · rw [aax,abf];lia
theorem But.same {H H1 H2:Hp} {wl:Addr} (s:Same H H1) (n:H wl=none) (b:But wl H1 H2):Same H H2:=fun c o h=>b c o (ao h n) (s c o h)
def E21 (q:Int × Int):Int × Int:=if q=(0,0) then (2,2) else if q=(1,1) then (1,1) else (3,3)
theorem yc {E:Int × Int→Int × Int} (h:Ex E [2,1] [.plus] (aE 2)):ppE E (aE 2)=ppE E21 (aE 2):=by
  have eo:aE 2=[(0,0),(1,1),(0,1)]:=by decide +kernel
  rw [eo] at h ⊢;have pin:∀ {q:Int × Int} {l:List Int} {c:Int},q∈[((0:Int),(0:Int)),(1,1),(0,1)]→fnE E [2,1] [.plus] q=l→(∀ x∈l,x=c)→E q=(c,c):=fun {q l c} hq e hl=>by
    obtain ⟨_,b,d,_⟩:=h q hq;rw [e] at b d;exact Prod.ext (hl _ b) (hl _ d)
  have e0:E (0,0)=(2,2):=pin (l:=[2]) (by simp) rfl (by simp);have e1:E (1,1)=(1,1):=pin (l:=[1]) (by simp) rfl (by simp);have e2:E (0,1)=(3,3):=by
    refine pin (l:=(two (E (0,0))).flatMap fun x=>(two (E (1,1))).flatMap fun y=>bg [.plus] x y) (by simp) ?_ ?_
    · show _=_;unfold fnE fA;rw [if_neg (by decide)];rfl
    · rw [e0,e1];decide +kernel
  unfold ppE;simp only [aae,abG,e0,e1,e2];rfl
theorem ux:cI [2,1] [.plus] (some (ppE E21 (aE 2)))=some (3,3):=by decide +kernel
theorem qQ:cX [.plus]:=by unfold cX;decide +kernel
theorem wn:cL [2,1]:=fun i hi=>by
  rcases aai.mp hi with rfl|hi
  · decide
  · rw [aaM.mp hi];decide
theorem wo:(shR [2,1] [.plus] (some (3,3)) (some (.node .plus (.num 2) (.num 1)))).1=true∧(shR [2,1] [.plus] (some (3,3)) none).1=false:=by decide +kernel
section
variable {P:Program} {w:World} {K:aaa} {mg:Str→Option Value} {base:Heap} {f:Addr} {fd:FuncData}
def oI (K:aaa):Sp:=fun vs H Q _=>∃ (a:Addr) (ns:List Int),vs=[.ref a]∧SqL K H a (ns.map V.int)∧ns.length≤63∧∀ H',Q (.bl true) H'
abbrev gh:Stmt:=top 53
theorem cm:FnScope ["script","k","cell","pot","many","row","signs","ways","just","papers","way","thing"] ["script"] (am gh):=⟨rfl,rfl,rfl,by decide +kernel,rfl,by decide +kernel,by decide +kernel⟩
theorem vq (F:Fun K "law" "law" gh f fd) (B:Bu K mg) (C__law_pot:Cal P w K mg base "_law_pot" 1 ["cell"] qS) (C__law_take:Cal P w K mg base "_law_take" 2 ["pot","many"] dX) (C__law_row:Cal P w K mg base "_law_row" 4 ["pot","many"] mX) (C__law_signs:Cal P w K mg base "_law_signs" 3 ["pot"] iG)
    (C__law_bounds:Cal P w K mg base "_law_bounds" 2 ["row","signs"] gK) (C__law_loose:Cal P w K mg base "_law_loose" 3 ["pot","row","signs"] ko) (C__law_bent:Cal P w K mg base "_law_bent" 3 ["pot","paper"] (mZ w)) (C__law_ways:Cal P w K mg base "_law_ways" 6 ["row","signs"] (gE 5)) (C__law_some_ways:Cal P w K mg base "_law_some_ways" 12 ["pot","row","signs","ways"] mV)
    (C__law_right:Cal P w K mg base "_law_right" 25 ["row","signs","ways","way","thing"] (kj w K)) (C_greatest_shown:Cal P w K mg base "greatest_shown" 24 ["row","signs","way","thing"] (dY w K fun r=>r.1)):FnOk P w K mg base CX0 26 f fd ["script"] (oI K):=by
  refine F.ok cm (fun vs H Q E h=>?_) (fun cdv A outer s H vs Q E hr h=>?_)
  · obtain ⟨a,ns,rfl,_⟩:=h;rfl
  obtain ⟨a,ns,rfl,hS,h63,q⟩:=h;refine ⟨_,(@af _ _ _ _ _ (@bb _ _ _ _ _ _ _ _ aaz rfl (@tI _ _ _ _ _ _ _ _ rfl B.ienumerate (@aa _ _ _ _ _ (@ap _ _ _ _ _ _ _ _ fm (@dj _ _ _ _ _ _ _ _ _ _ ge (pv 0) eI (@eF _ _ _ ae)) (@aJ _ _ _ _ (@aa _ _ _ _ _ (@ak _ _ _ _ _ _ _ _ _ ay rfl B.ilen aaO (@aa _ _ _ _ _ (pv 0) ac (by rfl)) (by decide) (by decide) (by rfl) (by rfl)) ac (by rfl)))) ac (by rfl)) (by rfl)) (@dF _ _ _ _ _ _ rfl (@aD _ _ _ _ _ (@aj _ _ (1) _ (cm).nd rfl (Or.inl rfl) (.inl rfl)) (@aD _ _ _ _ _ (@aj _ _ (2) _ (cm).nd rfl (Or.inl rfl) (.inl rfl)) bX (by rfl)) (by rfl)) (by rfl) (by rfl)) (@af _ _ _ _ _ (@av _ _ (3) _ _ _ _ (cm).nd rfl (Or.inl rfl) (@ah _ _ _ _ _ _ _ _ _ _ _ C__law_pot hr (by lia) rfl (@aa _ _ _ _ _ (pv 2) ac (by rfl)) (by decide) (by rfl) (by rfl)) (by rfl) (by first|exact .inl rfl|exact .inr rfl|assumption)) (@af _ _ _ _ _ (@av _ _ (4) _ _ _ _ (cm).nd rfl (Or.inl rfl) (@ap _ _ _ _ _ _ _ _ bf ae (@ah _ _ _ _ _ _ _ _ _ _ _ C__law_take hr (by lia) rfl (@aa _ _ _ _ _ (pv 3) (@aa _ _ _ _ _ ae ac (by rfl)) (by rfl)) (by decide) (by rfl) (by rfl))) (by rfl) (by first|exact .inl rfl|exact .inr rfl|assumption)) (@gm _ _ _ _ _ (@aY _ _ _ _ _ _ _ _ (@PW.pt _ _ _ (@fW _ _ _ _ _ _ _ (@aF _ _ _ _ _ _ _ _ bw (pv 1) ae (az _)) (@gl _ _ _ _ (@aF _ _ _ _ _ _ _ _ bw (@ah _ _ _ _ _ _ _ _ _ _ _ C__law_take hr (by lia) rfl (@aa _ _ _ _ _ (pv 3) (@aa _ _ _ _ _ ae ac (by rfl)) (by rfl)) (by decide) (by rfl) (by rfl)) ae (az _))))) (@ag _ _ _ (@av _ _ (4) _ _ _ _ (cm).nd rfl (Or.inl rfl) ae (by rfl) (by first|exact .inl rfl|exact .inr rfl|assumption))) aG) (@af _ _ _ _ _ (@uV _ _ (5) (6) _ _ _ _ _ _ _ _ _ _ _ rfl (cm).nd rfl rfl (by decide) rfl rfl (@aa _ _ _ _ _ (@ah _ _ _ _ _ _ _ _ _ _ _ C__law_row hr (by lia) rfl (@aa _ _ _ _ _ (pv 3) (@aa _ _ _ _ _ (pv 4) ac (by rfl)) (by rfl)) (by decide) (by rfl) (by rfl)) (@aa _ _ _ _ _ (@ah _ _ _ _ _ _ _ _ _ _ _ C__law_signs hr (by lia) rfl (@aa _ _ _ _ _ (pv 3) ac (by rfl)) (by decide) (by rfl) (by rfl)) ac (by rfl)) (by rfl)) rfl (by rfl)) (@af _ _ _ _ _ (@av _ _ (7) _ _ _ _ (cm).nd rfl (Or.inl rfl) (@ah _ _ _ _ _ _ _ _ _ _ _ C__law_ways hr (by lia) rfl (@aa _ _ _ _ _ (pv 5) (@aa _ _ _ _ _ (pv 6) ac (by rfl)) (by rfl)) (by decide) (by rfl) (by rfl)) (by rfl) (by first|exact .inl rfl|exact .inr rfl|assumption)) (@af _ _ _ _ _ (@av _ _ (8) _ _ _ _ (cm).nd rfl (Or.inr rfl) (@ah _ _ _ _ _ _ _ _ _ _ _ C__law_bounds hr (by lia) rfl (@aa _ _ _ _ _ (pv 5) (@aa _ _ _ _ _ (pv 6) ac (by rfl)) (by rfl)) (by decide) (by rfl) (by rfl)) (by rfl) (by first|exact .inl rfl|exact .inr rfl|assumption)) (@af _ _ _ _ _ (@av _ _ (9) _ _ _ _ (cm).nd rfl (Or.inl rfl) (@aJ _ _ _ _ (@aa _ _ _ _ _ (pv 8) (@aa _ _ _ _ _ (pv 8) (@aa _ _ _ _ _ (@ah _ _ _ _ _ _ _ _ _ _ _ C__law_loose hr (by lia) rfl (@aa _ _ _ _ _ (pv 3) (@aa _ _ _ _ _ (pv 5) (@aa _ _ _ _ _ (pv 6) ac (by rfl)) (by rfl)) (by rfl)) (by decide) (by rfl) (by rfl)) (@aa _ _ _ _ _ (@ah _ _ _ _ _ _ _ _ _ _ _ C__law_bent hr (by lia) rfl (@aa _ _ _ _ _ (pv 3) (@aa _ _ _ _ _ (pv 8) ac (by rfl)) (by rfl)) (by decide) (by rfl) (by rfl)) (@aa _ _ _ _ _ bO (@aa _ _ _ _ _ gq ac (by rfl)) (by rfl)) (by rfl)) (by rfl)) (by rfl)) (by rfl))) (by rfl) (by first|exact .inl rfl|exact .inr rfl|assumption)) (@ag _ _ _ (@bb _ _ _ _ _ _ _ _ aaz rfl (@cV _ _ _ _ (@ah _ _ _ _ _ _ _ _ _ _ _ C__law_some_ways hr (by lia) rfl (@aa _ _ _ _ _ (pv 3) (@aa _ _ _ _ _ (pv 5) (@aa _ _ _ _ _ (pv 6) (@aa _ _ _ _ _ (pv 7) ac (by rfl)) (by rfl)) (by rfl)) (by rfl)) (by decide) (by rfl) (by rfl))) (@aj _ _ (10) _ (cm).nd rfl (Or.inl rfl) (.inl rfl)) (@ag _ _ _ (@bb _ _ _ _ _ _ _ _ aaz rfl (@cV _ _ _ _ (@dj _ _ _ _ _ _ _ _ _ _ ge (pv 9) (@eF _ _ _ ae) eI)) (@aj _ _ (11) _ (cm).nd rfl (Or.inl rfl) (.inl rfl)) (@ag _ _ _ (@aY _ _ _ _ _ _ _ _ (@bT _ _ _ _ (@bh _ _ _ (@ah _ _ _ _ _ _ _ _ _ _ _ C__law_right hr (by lia) rfl (@aa _ _ _ _ _ (pv 5) (@aa _ _ _ _ _ (pv 6) (@aa _ _ _ _ _ (pv 7) (@aa _ _ _ _ _ (pv 10) (@aa _ _ _ _ _ (pv 11) ac (by rfl)) (by rfl)) (by rfl)) (by rfl)) (by rfl)) (by decide) (by rfl) (by rfl)) (by intro _;rfl))) (@ag _ _ _ (@ar _ _ _ _ cJ)) aG)) (by intro _;rfl))) (by intro _;rfl)))))))))) (by intro _;rfl)) (@af _ _ _ _ _ (@av _ _ (8) _ _ _ _ (cm).nd rfl (Or.inr rfl) (@ah _ _ _ _ _ _ _ _ _ _ _ C__law_bounds hr (by lia) rfl (@aa _ _ _ _ _ (@aJ _ _ _ _ (@aa _ _ _ _ _ ae (@aa _ _ _ _ _ ae ac (by rfl)) (by rfl))) (@aa _ _ _ _ _ bc ac (by rfl)) (by rfl)) (by decide) (by rfl) (by rfl)) (by rfl) (by first|exact .inl rfl|exact .inr rfl|assumption)) (@ag _ _ _ (@ar _ _ _ _ (@aO _ _ _ _ _ _ _ _ (@nF _ hr.units) (@bZ _ _ _ _ _ _ _ _ (["last","just"]) ([none,some 8]) _ _ _ _ rfl (@ix _ _ _ _ _ rfl (@au _ _ _ _ _ (@aa _ _ _ _ _ ae (@aa _ _ _ _ _ cJ ac (by rfl)) (by rfl)))) rfl ⟨rfl,trivial⟩ ⟨⟨rfl,Or.inl rfl,Or.inl rfl⟩,trivial⟩ (fun _ _ _ _=>⟨(@aj _ _ (0) _ (show aaX (["last","just"]:List Str) by decide +kernel) rfl (Or.inl rfl) (.inr rfl)),aH,(@ah _ _ _ _ _ _ _ _ _ _ _ C_greatest_shown hr (by lia) rfl (@aa _ _ _ _ _ (@aJ _ _ _ _ (@aa _ _ _ _ _ ae (@aa _ _ _ _ _ ae ac (by rfl)) (by rfl))) (@aa _ _ _ _ _ bc (@aa _ _ _ _ _ (@au _ _ _ _ _ (@aa _ _ _ _ _ bc (@aa _ _ _ _ _ ae (@aa _ _ _ _ _ (pv 0) ac (by rfl)) (by rfl)) (by rfl))) (@aa _ _ _ _ _ (pv 1) ac (by rfl)) (by rfl)) (by rfl)) (by rfl)) (by decide) (by rfl) (by rfl))⟩) (by rfl) (by rfl) (by rfl) (by rfl) (by intro _;rfl)) (@aJ _ _ _ _ (@aa _ _ _ _ _ cJ (@aa _ _ _ _ _ cJ ac (by rfl)) (by rfl))) (az _)))))),?_⟩;have t2:(2:Nat)≤sizeLine:=by decide
  refine ⟨_,rfl,4,rfl,a,_,rfl,hS,fun p1 n1=>?_⟩;obtain ⟨ms,em,hm,_⟩:=sR ns none (some 4);rw [em];have g1:=Same.new n1 (.lst (ms.map V.int));refine ⟨_,rfl,a,_,rfl,.inl (g1.seq hS),(by show 1≤sizeLine;decide),fun p2 n2=>?_⟩;have g2:=Same.new n2 (.lst [.int ((ns.map V.int).length:Nat)]);refine ⟨p1,p2,_,_,rfl,rfl,g2 _ _ ad,ad,cE (by rw [aab];show ms.length+1≤1000;lia),fun p3 n3=>?_⟩;obtain ⟨c9,hc9⟩:∃ c9:Int,((ns.map V.int).length:Nat)=c9:=⟨_,rfl⟩
  rw [hc9] at n3 g2 ⊢;have e3:upd (upd (upd H p1 (.lst (ms.map V.int))) p2 (.lst [.int c9])) p3 (.lst (ms.map V.int++[.int c9])) p3=_:=ad;have el:ms.map V.int++[V.int c9]=(ms++[c9]).map V.int:=by rw [aaH];rfl
  rw [el] at e3 ⊢;generalize upd (upd (upd H p1 (.lst (ms.map V.int))) p2 (.lst [.int c9])) p3 (.lst ((ms++[c9]).map V.int))=H3 at e3 ⊢;refine ⟨p3,rfl,⟨_,SqL.of e3⟩,sy (xs:=(ms++[c9]).map V.int) (fun i σ H'=>∃ c1 c2 c3 c4 c5 c6 c7 c8 c9 ca cb,σ=[some (.ref a),c1,c2,c3,c4,c5,c6,c7,c8,c9,ca,cb]∧Same H3 H') ⟨_,_,_,_,_,_,_,_,_,_,_,rfl,Same.refl _⟩ ?_ ?_ ?_⟩
  · rintro i σ H' _ ⟨_,_,_,_,_,_,_,_,_,_,_,rfl,S⟩;exact SqL.of (S _ _ e3)
  · rintro i x pp σ Hz hx ⟨c1,c2,c3,c4,c5,c6,c7,c8,c9',ca,cb,rfl,SZ⟩ npp;rw [aao] at hx;obtain ⟨c,_,rfl⟩:=aa7.mp hx;have s4:=Same.new npp (.tup [.int (i:Nat),.int c]);refine ⟨pp,_,rfl,SqT.of ad,rfl,_,_,rfl,_,_,rfl,rfl,?_⟩;generalize upd Hz pp (.tup [.int (i:Nat),.int c])=H4 at s4 ⊢;refine ⟨_,rfl,c,rfl,fun wl H5 g5 nw w5=>?_⟩;have nw':Hz wl=none:=s4.free nw;have S5:=s4.trans g5;refine ⟨_,rfl,wl,4,rfl,by decide,by decide,w5,fun r1 H6 a1 b1 k6 w6=>⟨_,_,rfl,rfl,?_⟩⟩;refine ⟨fun σ H'=>∃ m:Int,σ=[some (.ref a),some (.int (i:Nat)),some (.int c),some (.ref wl),some (.int m),c5,c6,c7,c8,c9',ca,cb]∧1≤m∧m≤5∧But wl H6 H'∧Pot H' wl,?_,?_⟩
    · refine ⟨_,rfl,rfl,_,rfl,g_ (fun z=>?_) (fun z=>?_)⟩
      · refine ⟨_,rfl,wl,3,rfl,by decide,by decide,w6,fun r2 H7 a2 b2 k7 w7=>⟨rfl,_,rfl,g_ (fun z=>?_) (fun z=>?_)⟩⟩
        · exact ⟨_,rfl,by decide,by decide,k7,w7⟩
        · exact ⟨_,rfl,by lia,by lia,k7,w7⟩
      · exact ⟨_,rfl,by lia,by lia,But.refl,w6⟩
    · rintro σ H7 ⟨m,rfl,m1,m5,k7,w7⟩;refine ⟨_,rfl,_,rfl,wl,m,rfl,m1,by lia,w7,fun pr rs H8 k8 w8 nr er hlen hsm=>?_⟩;have npr:=w7.ne nr;refine ⟨_,rfl,wl,rfl,w8,fun gs H9 g1' g3' sp k9 w9=>?_⟩;have er9:=k9 _ _ npr er;have S9:Same Hz H9:=But.same S5 nw' (((k6.trans k7).trans k8).trans k9);have n1:1≤rs.length:=by lia
      have n5:rs.length≤5:=by lia
      have n9:rs.length≤9:=by lia
      refine ⟨_,_,rfl,_,rfl,_,rfl,pr,rs,gs,rfl,er9,n1,n5,by decide,g1',g3',fun pw us HA sA nwA ew hws=>?_⟩;have SA:=S9.trans sA;have wA:=w9.keep sA;have erA:=sA _ _ er9;have npw:=w9.ne nwA;refine ⟨_,rfl,_,rfl,pr,rs,gs,rfl,erA,n1,n9,g1',g3',hsm,fun pb kv1 E1 HB sB nb eb hb1 hq1 hx1=>?_⟩;have SB:=SA.trans sB;have wB:=wA.keep sB;have erB:=sB _ _ erA;have npb:=wA.ne nb;refine ⟨_,rfl,_,rfl,_,rfl,_,rfl,_,rfl,wl,pr,rs,gs,rfl,wB,npr,erB,n1,n9,g1',g3',hsm,fun pl kv2 E2 HC kC wC nl el hb2 hq2=>?_⟩;have npl:=wB.ne nl;have ebC:=kC _ _ npb eb;have hb1C:BtIn E1 HC (aE rs.length) kv1:=hb1.mono (wB.tups kC);refine ⟨_,rfl,_,rfl,wl,pb,kv1,E1,rs.length,rfl,wC,ebC,n1,n9,hb1C,hq1,fun d1 ks1 HD kD wD nd1 dm1 vo1 l1=>?_⟩;have npd:=wC.ne nd1;refine fun u1 m1=>⟨(by show 6≤sizeLine;decide),fun pq nq=>?_⟩
      have j1:=Same.new m1 (.dK []);have wE:=wD.keep j1;have x1:=wD.ne m1;have y1:upd HD u1 (.dK []) u1=_:=ad;generalize upd HD u1 (.dK [])=HE at j1 wE y1 nq ⊢;have kBE:=(kC.trans kD).trans (But.of j1);have tBE:=wB.tups kBE;have tCE:=(wC.tups kD).trans (Tups.of j1);have T0:=mq wE;have hO:∀ {b:Addr} {o:HO},b≠wl→HE b=some o→off wl HE b=some o:=fun n e=>(gY n).trans e;have z1:TG w K (off wl HE) (.ref pb):=uu n9 (hO npb (kBE _ _ npb eb)) ((hb1.mono tBE).mono T0) hq1;have z2:TG w K (off wl HE) (.ref pl):=uu n9 (hO npl (j1 _ _ (kD _ _ npl el))) ((hb2.mono tCE).mono T0) hq2;have z3:TG w K (off wl HE) (.ref d1):=(vX (Put.DmIn.off dm1 wD npd) vo1 l1).mono (mt j1);have z4:TG w K (off wl HE) .non:=vZ jt;have z5:TG w K (off wl HE) (.ref u1):=vY (hO x1 y1);have npq:=wE.ne nq;have jq:=Same.new nq (.lst [.ref pb,.ref pb,.ref pl,.ref d1,.non,.ref u1]);have eq0:upd HE pq (.lst [.ref pb,.ref pb,.ref pl,.ref d1,.non,.ref u1]) pq=_:=ad;have wF:=wE.keep jq;generalize upd HE pq (.lst [.ref pb,.ref pb,.ref pl,.ref d1,.non,.ref u1])=HF at jq eq0 wF ⊢;have kAF:=(But.of sB).trans (kBE.trans (But.of jq));refine ⟨_,rfl,_,rfl,_,rfl,_,rfl,wl,pr,pw,rs,gs,us,rfl,wF,npr,npw,kAF _ _ npr erA,n1,n5,g1',g3',sp,hsm,kAF _ _ npw ew,hws.mono (wA.tups kAF),fun pz zs HS kS wS nz ez lz hz=>?_⟩;have kAS:=kAF.trans kS;have erS:=kAS _ _ npr erA;have ewS:=kAS _ _ npw ew;have hwsS:=hws.mono (wA.tups kAS);have eqS:=kS _ _ npq eq0;have OS:Same (off wl HE) HS:=(mt jq).trans ((oU kS).trans off_le);have SS:Same Hz HS:=But.same SA nw' kAS;have all:∀ v∈[V.ref pb,.ref pl,.ref d1,.non,.ref u1],TG w K HS v:=fun v hv=>by
        simp only [aai,aaP,or_false] at hv;rcases hv with rfl|rfl|rfl|rfl|rfl
        · exact z1.mono OS
        · exact z2.mono OS
        · exact z3.mono OS
        · exact z4.mono OS
        · exact z5.mono OS
      refine ⟨pz,rfl,⟨_,SqL.of ez⟩,dG (Trn.list (xs:=zs)) (fun i' σ H'=>∃ ca cb,σ=[some (.ref a),some (.int (i:Nat)),some (.int c),some (.ref wl),some (.int m),some (.ref pr),some (.str (al gs)),some (.ref pw),some (.ref pb),some (.ref pq),ca,cb]∧Same HS H') ⟨_,_,rfl,Same.refl _⟩ (fun i' σ H' hi z=>?_) (fun i' x σ H0 H' hi it z=>?_) (fun σ H' z=>?_)⟩
      · obtain ⟨_,_,rfl,S⟩:=z;exact SqL.of (S _ _ ez)
      · obtain ⟨ca,cb,rfl,S⟩:=z;obtain ⟨rfl,hxz⟩:=it;have hzx:=hz x (aas hxz);refine ⟨_,rfl,1,rfl,pq,_,rfl,SqL.of (S _ _ eqS),fun pt nt=>?_⟩;have ct:fw [V.ref pb,.ref pb,.ref pl,.ref d1,.non,.ref u1] (some 1) none=[.ref pb,.ref pl,.ref d1,.non,.ref u1]:=rfl;rw [ct];generalize [V.ref pb,.ref pl,.ref d1,.non,.ref u1]=vs at all ⊢;have st:=Same.new nt (.lst vs);have et:upd H' pt (.lst vs) pt=_:=ad;have St:=S.trans st;generalize upd H' pt (.lst vs)=HT at st et St ⊢;refine ⟨pt,rfl,⟨_,SqL.of et⟩,dG (Trn.list (xs:=vs)) (fun i2 σ H'=>∃ cb,σ=[some (.ref a),some (.int (i:Nat)),some (.int c),some (.ref wl),some (.int m),some (.ref pr),some (.str (al gs)),some (.ref pw),some (.ref pb),some (.ref pq),some x,cb]∧Same HT H') ⟨_,rfl,Same.refl _⟩ (fun i2 σ H' hi z=>?_) (fun i2 v σ H0 H' hi it z=>?_) (fun σ H' z=>?_)⟩
        · obtain ⟨_,rfl,S⟩:=z;exact SqL.of (S _ _ et)
        · obtain ⟨cb,rfl,S2⟩:=z;obtain ⟨rfl,hv⟩:=it;have Sv:=St.trans S2;refine ⟨_,rfl,_,rfl,_,rfl,_,rfl,_,rfl,pr,pw,rs,gs,us,x,v,rfl,Sv _ _ erS,n1,n5,g1',g3',sp,hsm,Sv _ _ ewS,hwsS.mono (Tups.of Sv),hzx.mono Sv,(all v (aas hv)).mono Sv,fun H4 s4=>?_⟩;exact ⟨true,rfl,aB ⟨_,rfl,S2.trans s4⟩⟩
        · obtain ⟨cb,rfl,S2⟩:=z;exact ⟨_,_,rfl,St.trans S2⟩
      · obtain ⟨ca,cb,rfl,S⟩:=z;exact ⟨_,_,_,_,_,_,_,_,_,_,_,rfl,SZ.trans (SS.trans S)⟩
  · rintro σ H4 ⟨_,_,_,_,_,_,_,_,_,_,_,rfl,S4⟩;rw [qX.2];refine ⟨t2,fun a1 m1=>?_⟩;have e1:upd H4 a1 (.lst [.int 2,.int 1]) a1=some (.lst (([2,1]:List Int).map V.int)):=ad;generalize upd H4 a1 (.lst [.int 2,.int 1])=G1 at e1 ⊢;refine ⟨a1,[2,1],[.plus],rfl,e1,by decide,by decide,by decide,by decide,wn,fun pb kv E HB sB nb eb hb hq hx=>?_⟩;have hE:=yc hx;have hpa:PaIn w HB pb (ppE E (aE 2)):=pL eb hb;have hok:=(rE (n:=2) (by decide) hq).1;rw [hE] at hpa hok;refine ⟨t2,fun pt nt=>?_⟩;have st:=Same.new nt (.tup [.int 1,.bl true]);have et:upd HB pt (.tup [.int 1,.bl true]) pt=_:=ad;have hpa:=hpa.mono st;generalize upd HB pt (.tup [.int 1,.bl true])=HT at et hpa ⊢;refine ⟨pt,rfl,⟨_,SqT.of et⟩,?_⟩;refine b_ (Trn.tup (xs:=[V.int 1,V.bl true])) (fun i zs H'=>Same HT H'∧zs=([true,false].take i).map V.bl) ⟨Same.refl _,rfl⟩ (fun i zs H' hi p=>by rw [p.2];exact ⟨SqT.of (p.1 _ _ et),aA (by rw [aab,aax];exact aaE (Nat.min_le_right _ _) (by decide))⟩) (fun i y zs H0 H' hi hy p Nx nx=>?_) (fun zs H' p p5 n5'=>?_)
    · obtain ⟨S,rfl⟩:=p;obtain ⟨rfl,hy⟩:=hy;refine ⟨t2,fun a2 m2=>?_⟩;have i1:=Same.new m2 (.lst [.int 2,.int 1]);have f1:upd H' a2 (.lst [.int 2,.int 1]) a2=some (.lst (([2,1]:List Int).map V.int)):=ad;generalize upd H' a2 (.lst [.int 2,.int 1])=F1 at i1 f1 ⊢;refine ⟨_,rfl,(by show 3≤sizeLine;decide),fun q1 o1=>?_⟩;have i2:=Same.new o1 (.tup [.str (al [.plus]),.int 2,y]);have f2:upd F1 q1 (.tup [.str (al [.plus]),.int 2,y]) q1=_:=ad;have f12:=i2 _ _ f1;have SS:=(S.trans i1).trans i2;generalize upd F1 q1 (.tup [.str (al [.plus]),.int 2,y])=F2 at f2 f12 SS ⊢;have hok':∀ ps,some (ppE E21 (aE 2))=some ps→OkP ps:=fun ps e=>by
        injection e with e
        rw [← e];exact hok
      have hi:i < 2:=hi;have : i=0∨i=1:=by lia
      rcases this with rfl|rfl
      · have ey:y=.int 1:=(aal hy).symm;subst ey;refine ⟨_,rfl,a2,[2,1],[.plus],.ref q1,some (.node .plus (.num 2) (.num 1)),some (ppE E21 (aE 2)),.ref pb,rfl,f12,by decide,by decide,by decide,by decide,qQ,⟨0,⟨q1,.int 2,.int 1,rfl,f2,rfl,rfl⟩,by decide,Wy.bd_of (.node .plus (.num 2) (.num 1)) wn⟩,⟨pb,rfl,hpa.mono SS⟩,hok',fun H5 s5=>nx _ _ ⟨SS.trans s5,?_⟩⟩;show _++[V.bl ((shR [2,1] [.plus] (cI [2,1] [.plus] (some (ppE E21 (aE 2)))) (some (.node .plus (.num 2) (.num 1)))).1)]=_;rw [ux,wo.1];rfl
      · have ey:y=.bl true:=(aal hy).symm;subst ey;refine ⟨_,rfl,a2,[2,1],[.plus],.ref q1,none,some (ppE E21 (aE 2)),.ref pb,rfl,f12,by decide,by decide,by decide,by decide,qQ,⟨0,.inl ⟨.tuple [.str (al [.plus]),.int 2,.bool true],bG f2 (da1 (ds_ _) (da1 (di_ _) (da1 (db_ _) da0))),by decide +kernel,by decide +kernel,by decide +kernel,.inr ⟨(fun _ z=>nomatch z),by decide +kernel⟩⟩⟩,⟨pb,rfl,hpa.mono SS⟩,hok',fun H5 s5=>nx _ _ ⟨SS.trans s5,?_⟩⟩;show _++[V.bl ((shR [2,1] [.plus] (cI [2,1] [.plus] (some (ppE E21 (aE 2)))) none).1)]=_;rw [ux,wo.2];rfl
    obtain ⟨SM,rfl⟩:=p;refine ⟨t2,fun p6 n6=>?_⟩;have s6:=Same.new n6 (.lst [.bl true,.bl false]);refine ⟨0,p5,p6,[.bl true,.bl false],[.bl true,.bl false],by decide,rfl,rfl,SqL.of (s6 _ _ ad),SqL.of ad,.inr ⟨fun _=>true,rfl,(fun j x y hx hy=>?_),?_⟩⟩
    · rw [hx] at hy;cases hy;have hf:eS x=true:=by
        have:=aas hx;simp only [aai,aaP,or_false] at this;rcases this with rfl|rfl <;> rfl
      have:=EqR.flat (K:=K) (H:=upd (upd H' p5 (.lst (([true,false].take [V.int 1,V.bl true].length).map V.bl))) p6 (.lst [.bl true,.bl false])) (n:=0) (x:=x) (y:=x) hf hf;rw [jk hf] at this;exact this
    · exact q _
end
open PySem L2
theorem us0 {us:List Value} (h:us.length=0):us=[]:=abl.mp h
theorem us1 {us:List Value} (h:us.length=1):∃ a,us=[a]:=by
  cases us with
  | nil=>cases h
  | cons x us=>obtain rfl:=us0 (aco h);exact ⟨x,rfl⟩
theorem us2 {us:List Value} (h:us.length=2):∃ a b,us=[a,b]:=by
  cases us with
  | nil=>cases h
  | cons x us=>obtain ⟨b,rfl⟩:=us1 (aco h);exact ⟨x,b,rfl⟩
theorem us3 {us:List Value} (h:us.length=3):∃ a b c,us=[a,b,c]:=by
  cases us with
  | nil=>cases h
  | cons x us=>obtain ⟨b,c,rfl⟩:=us2 (aco h);exact ⟨x,b,c,rfl⟩
theorem us4 {us:List Value} (h:us.length=4):∃ a b c d,us=[a,b,c,d]:=by
  cases us with
  | nil=>cases h
  | cons x us=>obtain ⟨b,c,d,rfl⟩:=us3 (aco h);exact ⟨x,b,c,d,rfl⟩
theorem us5 {us:List Value} (h:us.length=5):∃ a b c d e,us=[a,b,c,d,e]:=by
  cases us with
  | nil=>cases h
  | cons x us=>obtain ⟨b,c,d,e,rfl⟩:=us4 (aco h);exact ⟨x,b,c,d,e,rfl⟩
theorem all_mk {l:PySem.W.OpenLaw} {w:World} {K:aaa} {h:Heap} {mg:Str→Option Value} {fa:Addr} (X:K.In h) (G:h.Ns mainGlobals mg) (hfa:mg "law" = some (.ref fa))
    {tM tS1 tS2 tS3:Tok} {cS:Addr} {odS:Option Addr} {nS:Nat} {slS:Array (Option Value)}
    {tM3 tP1 tP2 tP3 tP4 tP5 tP6 tP7:Tok} {cP:Addr} {odP:Option Addr} {nP:Nat} {slP:Array (Option Value)}
{f0:Addr}
{f1:Addr}
{f2:Addr}
{f3:Addr}
{f4:Addr}
{f5:Addr}
{f6:Addr}
{f7:Addr}
{f8:Addr}
{f9:Addr}
{f10:Addr}
{f11:Addr}
{f12:Addr}
{f13:Addr}
{f14:Addr}
{f15:Addr}
{f16:Addr}
{f17:Addr}
{f18:Addr}
{f19:Addr}
{f20:Addr}
{f21:Addr}
{f22:Addr}
{f23:Addr}
{f24:Addr}
{f25:Addr}
{f26:Addr}
{f27:Addr}
{f28:Addr}
{f29:Addr}
{f30:Addr}
{f31:Addr}
{f32:Addr}
{f33:Addr}
{f34:Addr}
{f35:Addr}
{f36:Addr}
{f37:Addr}
{f38:Addr}
{f39:Addr}
{od40 an40:Option Addr} {sl40:Array (Option Value)} {oc40 kV40 dc40 pm40 cd40 ct40:Value} {f40:Addr}
    (q0:Fq K "is_whole" fQ f0)
    (q1:Fq K "is_row" iT f1)
    (q2:Fq K "is_signs" fR f2)
    (q3:Fq K "is_sign" fE f3)
    (q4:Fq K "is_way" iS f4)
    (q5:Fq K "need_row" fP f5)
    (q6:Fq K "need_signs" d3 f6)
    (q7:Fq K "shorter_first" cN f7)
    (q8:Fq K "has_all_stretches" bN f8)
    (q9:Fq K "cuts_of" gQ f9)
    (q10:Fq K "list_numbers" df f10)
    (q11:Fq K "join_signs" d9 f11)
    (q12:Fq K "is_pair" gO f12)
    (q13:Fq K "has_signs_among" bW f13)
    (q14:Fq K "put_sign" fO f14)
    (q15:Fq K "find_worth" d_ f15)
    (q16:Fq K "bounds_say" ee f16)
    (q17:Fq K "greatest_shown" cq f17)
    (q18:Fq K "least_shown" dA f18)
    (q19:Fq K "is_within" e_ f19)
    (q20:Fq K "join_ends" eZ f20)
    (q21:Fq K "is_way_with" dB f21)
    (q22:Fq K "_law_mixed" eD f22)
    (q23:Fq K "_law_pot" fU f23)
    (q24:Fq K "_law_take" fc f24)
    (q25:Fq K "_law_number" dC f25)
    (q26:Fq K "_law_row" fS f26)
    (q27:Fq K "_law_signs" eA f27)
    (q28:Fq K "_law_put" fT f28)
    (q29:Fq K "_law_worth" eu f29)
    (q30:Fq K "_law_ways" fb f30)
    (q31:Fq K "_law_bounds" dD f31)
    (q32:Fq K "_law_is_pair" dh f32)
    (q33:Fq K "_law_said" fe f33)
    (q34:Fq K "_law_loose" eE f34)
    (q35:Fq K "_law_bent" fg f35)
    (q36:Fq K "_law_some_ways" cr f36)
    (q37:Fq K "_law_no_ways" dg f37)
    (q38:Fq K "_law_due" fV f38)
    (q39:Fq K "_law_right" eB f39)
    (a40:aaK K mainGlobals "law" = some (some (.ref f40))) (l40:K.lookup f40=some ⟨oc40,od40,.func (abw "law" "law" (cF gh) (cg gh) (am gh) .none kV40 dc40 pm40 an40 cd40 ct40),sl40⟩) (c40:ab1 K cd40 "law" = true) (k40:abq K (.ref f40)=true)
    (c9:aaK K mainGlobals "len" = some none)
    (c8 : aaK K mainGlobals "isinstance" = some none)
    (c7:aaK K mainGlobals "int" = some none)
    (c3:aaK K mainGlobals "bool" = some none)
    (dl:aaK K mainGlobals "str" = some none)
    (dn:aaK K mainGlobals "tuple" = some none)
    (da:aaK K mainGlobals "list" = some none)
    (dk:aaK K mainGlobals "sorted" = some none)
    (dd:aaK K mainGlobals "range" = some none)
    (de:aaK K mainGlobals "repr" = some none)
    (c6:aaK K mainGlobals "enumerate" = some none)
    (dm:aaK K mainGlobals "sum" = some none)
    (c1:aaK K mainGlobals "all" = some none)
    (dc:aaK K mainGlobals "min" = some none)
    (db:aaK K mainGlobals "max" = some none)
    (c0:aaK K mainGlobals "abs" = some none)
    (c5:aaK K mainGlobals "divmod" = some none)
    (c4:aaK K mainGlobals "dict" = some none)
    (dj:aaK K mainGlobals "set" = some none)
    (di:aaK K mainGlobals "reversed" = some none)
    (c2:aaK K mainGlobals "any" = some none)
    (dp:aaK K mainGlobals "zip" = some none)
    (gM:aaK K mainGlobals "MOST_NUMBERS" = some (some (.int 9 tM)))
    (gS:aaK K mainGlobals "SIGNS" = some (some (.ref cS)))
    (lS:K.lookup cS=some ⟨.type "tuple",odS,.seq #[.str "+" tS1,.str "-" tS2,.str "*" tS3] nS,slS⟩)
    (gM3:aaK K mainGlobals "MOST_NUMBERS" = some (some (.int 9 tM3)))
    (gP:aaK K mainGlobals "SIGNS_TO_PUT" = some (some (.ref cP)))
    (lP:K.lookup cP=some ⟨.type "tuple",odP,.seq #[.str "+" tP1,.str "-" tP2,.str "*" tP3,.str "+-" tP4,.str "+*" tP5,.str "-*" tP6,.str "+-*" tP7] nP,slP⟩) :
    ∃ fd:FuncData,(∀ (s:Shared) (v:Value),BindsTo s fd ⟨[v],[]⟩ [("script",v)])∧∀ base:Heap,K.In base→base.Ns mainGlobals mg→FnOk l.prog w K mg base CX0 26 fa fd ["script"] (oI K):=by
  have e:=hfa.symm.trans (acz X G a40);cases e;obtain ⟨_,bn,b5,cO⟩:=q0.use X G (ps:=["thing"]) fun _ _ _ _ _ _ us hl=>by obtain ⟨_,rfl⟩:=us1 hl;rfl
  obtain ⟨_,bi,b0,cI⟩:=q1.use X G (ps:=["thing"]) fun _ _ _ _ _ _ us hl=>by obtain ⟨_,rfl⟩:=us1 hl;rfl
  obtain ⟨_,bk,b2,cK⟩:=q2.use X G (ps:=["thing"]) fun _ _ _ _ _ _ us hl=>by obtain ⟨_,rfl⟩:=us1 hl;rfl
  obtain ⟨_,bj,b1,cJ⟩:=q3.use X G (ps:=["thing"]) fun _ _ _ _ _ _ us hl=>by obtain ⟨_,rfl⟩:=us1 hl;rfl
  obtain ⟨_,bl,b3,cL⟩:=q4.use X G (ps:=["thing"]) fun _ _ _ _ _ _ us hl=>by obtain ⟨_,rfl⟩:=us1 hl;rfl
  obtain ⟨_,bu,cb,cW⟩:=q5.use X G (ps:=["thing"]) fun _ _ _ _ _ _ us hl=>by obtain ⟨_,rfl⟩:=us1 hl;rfl
  obtain ⟨_,bv,cc,cX⟩:=q6.use X G (ps:=["thing"]) fun _ _ _ _ _ _ us hl=>by obtain ⟨_,rfl⟩:=us1 hl;rfl
  obtain ⟨_,bx,ce,cZ⟩:=q7.use X G (ps:=["many"]) fun _ _ _ _ _ _ us hl=>by obtain ⟨_,rfl⟩:=us1 hl;rfl
  obtain ⟨_,bf,bX,cE⟩:=q8.use X G (ps:=["thing","many"]) fun _ _ _ _ _ _ us hl=>by obtain ⟨_,_,rfl⟩:=us2 hl;rfl
  obtain ⟨_,bc,bT,cB⟩:=q9.use X G (ps:=["stretch"]) fun _ _ _ _ _ _ us hl=>by obtain ⟨_,rfl⟩:=us1 hl;rfl
  obtain ⟨_,bt,ca,cV⟩:=q10.use X G (ps:=["way"]) fun _ _ _ _ _ _ us hl=>by obtain ⟨_,rfl⟩:=us1 hl;rfl
  obtain ⟨_,bq,b8,cT⟩:=q11.use X G (ps:=["way"]) fun _ _ _ _ _ _ us hl=>by obtain ⟨_,rfl⟩:=us1 hl;rfl
  obtain ⟨_,bh,bZ,cH⟩:=q12.use X G (ps:=["thing"]) fun _ _ _ _ _ _ us hl=>by obtain ⟨_,rfl⟩:=us1 hl;rfl
  obtain ⟨_,bg,bY,cG⟩:=q13.use X G (ps:=["way","signs"]) fun _ _ _ _ _ _ us hl=>by obtain ⟨_,_,rfl⟩:=us2 hl;rfl
  obtain ⟨_,bw,cd,cY⟩:=q14.use X G (ps:=["left","sign","right"]) fun _ _ _ _ _ _ us hl=>by obtain ⟨_,_,_,rfl⟩:=us3 hl;rfl
  obtain ⟨_,bd,bU,cC⟩:=q15.use X G (ps:=["way"]) fun _ _ _ _ _ _ us hl=>by obtain ⟨_,rfl⟩:=us1 hl;rfl
  obtain ⟨_,bb,bS,cA⟩:=q16.use X G (ps:=["row","signs","thing"]) fun _ _ _ _ _ _ us hl=>by obtain ⟨_,_,_,rfl⟩:=us3 hl;rfl
  obtain ⟨_,be,bV,cD⟩:=q17.use X G (ps:=["row","signs","way","thing"]) fun _ _ _ _ _ _ us hl=>by obtain ⟨_,_,_,_,rfl⟩:=us4 hl;rfl
  obtain ⟨_,bs,b9,cU⟩:=q18.use X G (ps:=["row","signs","way","thing"]) fun _ _ _ _ _ _ us hl=>by obtain ⟨_,_,_,_,rfl⟩:=us4 hl;rfl
  obtain ⟨_,bo,b6,cQ⟩:=q19.use X G (ps:=["row","signs","paper","stretch"]) fun _ _ _ _ _ _ us hl=>by obtain ⟨_,_,_,_,rfl⟩:=us4 hl;rfl
  obtain ⟨_,bp,b7,cR⟩:=q20.use X G (ps:=["paper","signs","stretch"]) fun _ _ _ _ _ _ us hl=>by obtain ⟨_,_,_,rfl⟩:=us3 hl;rfl
  obtain ⟨_,bm,b4,cM⟩:=q21.use X G (ps:=["row","signs","thing"]) fun _ _ _ _ _ _ us hl=>by obtain ⟨_,_,_,rfl⟩:=us3 hl;rfl
  obtain ⟨_,aY,bE,cl⟩:=q22.use X G (ps:=["cell","k"]) fun _ _ _ _ _ _ us hl=>by obtain ⟨_,_,rfl⟩:=us2 hl;rfl
  obtain ⟨_,a1,bH,co⟩:=q23.use X G (ps:=["cell"]) fun _ _ _ _ _ _ us hl=>by obtain ⟨_,rfl⟩:=us1 hl;rfl
  obtain ⟨_,a8,bP,cx⟩:=q24.use X G (ps:=["pot","many"]) fun _ _ _ _ _ _ us hl=>by obtain ⟨_,_,rfl⟩:=us2 hl;rfl
  obtain ⟨_,a0,bG,cn⟩:=q25.use X G (ps:=["pot","way"]) fun _ _ _ _ _ _ us hl=>by obtain ⟨_,_,rfl⟩:=us2 hl;rfl
  obtain ⟨_,a4,bK,ct⟩:=q26.use X G (ps:=["pot","many"]) fun _ _ _ _ _ _ us hl=>by obtain ⟨_,_,rfl⟩:=us2 hl;rfl
  obtain ⟨_,a6,bM,cv⟩:=q27.use X G (ps:=["pot"]) fun _ _ _ _ _ _ us hl=>by obtain ⟨_,rfl⟩:=us1 hl;rfl
  obtain ⟨_,a2,bI,cp⟩:=q28.use X G (ps:=["sign","one","other"]) fun _ _ _ _ _ _ us hl=>by obtain ⟨_,_,_,rfl⟩:=us3 hl;rfl
  obtain ⟨_,ba,bR,cz⟩:=q29.use X G (ps:=["way"]) fun _ _ _ _ _ _ us hl=>by obtain ⟨_,rfl⟩:=us1 hl;rfl
  obtain ⟨_,a9,bQ,cy⟩:=q30.use X G (ps:=["row","signs"]) fun _ _ _ _ _ _ us hl=>by obtain ⟨_,_,rfl⟩:=us2 hl;rfl
  obtain ⟨_,aU,bA,ch⟩:=q31.use X G (ps:=["row","signs"]) fun _ _ _ _ _ _ us hl=>by obtain ⟨_,_,rfl⟩:=us2 hl;rfl
  obtain ⟨_,aW,bC,cj⟩:=q32.use X G (ps:=["thing"]) fun _ _ _ _ _ _ us hl=>by obtain ⟨_,rfl⟩:=us1 hl;rfl
  obtain ⟨_,a5,bL,cu⟩:=q33.use X G (ps:=["row","signs","thing"]) fun _ _ _ _ _ _ us hl=>by obtain ⟨_,_,_,rfl⟩:=us3 hl;rfl
  obtain ⟨_,aX,bD,ck⟩:=q34.use X G (ps:=["pot","row","signs"]) fun _ _ _ _ _ _ us hl=>by obtain ⟨_,_,_,rfl⟩:=us3 hl;rfl
  obtain ⟨_,aT,bz,cf⟩:=q35.use X G (ps:=["pot","paper"]) fun _ _ _ _ _ _ us hl=>by obtain ⟨_,_,rfl⟩:=us2 hl;rfl
  obtain ⟨_,a7,bO,cw⟩:=q36.use X G (ps:=["pot","row","signs","ways"]) fun _ _ _ _ _ _ us hl=>by obtain ⟨_,_,_,_,rfl⟩:=us4 hl;rfl
  obtain ⟨_,aZ,bF,cm⟩:=q37.use X G (ps:=["way"]) fun _ _ _ _ _ _ us hl=>by obtain ⟨_,rfl⟩:=us1 hl;rfl
  obtain ⟨_,aV,bB,ci⟩:=q38.use X G (ps:=["row","signs","ways","way","said"]) fun _ _ _ _ _ _ us hl=>by obtain ⟨_,_,_,_,_,rfl⟩:=us5 hl;rfl
  obtain ⟨_,a3,bJ,cs⟩:=q39.use X G (ps:=["row","signs","ways","way","thing"]) fun _ _ _ _ _ _ us hl=>by obtain ⟨_,_,_,_,_,rfl⟩:=us5 hl;rfl
  have br:=sw (st:=gh) l40 c40 k40;have B:Bu K mg:=⟨aaw X G c9,aaw X G c8,aaw X G c7,aaw X G c3,aaw X G dl,aaw X G dn,aaw X G da,aaw X G dk,aaw X G dd,aaw X G de,aaw X G c6,aaw X G dm,aaw X G c1,aaw X G dc,aaw X G db,aaw X G c0,aaw X G c5,aaw X G c4,aaw X G dj,aaw X G di,aaw X G c2,aaw X G dp⟩
  have B':Co K mg tM cS:=⟨acz X G gM,acz X G gS,fun H=>.inr ⟨_,_,_,lS,rfl,rfl,by show 3≤sizeLine;decide,.cons ⟨_,rfl⟩ (.cons ⟨_,rfl⟩ (.cons ⟨_,rfl⟩ .nil))⟩⟩
  have B3:Cp K mg tM3 cP:=⟨acz X G gM3,acz X G gP,fun H=>.inr ⟨_,_,_,lP,rfl,rfl,by show 7≤sizeLine;decide,.cons ⟨_,rfl⟩ (.cons ⟨_,rfl⟩ (.cons ⟨_,rfl⟩ (.cons ⟨_,rfl⟩ (.cons ⟨_,rfl⟩ (.cons ⟨_,rfl⟩ (.cons ⟨_,rfl⟩ .nil))))))⟩⟩
  refine ⟨abw "law" "law" (cF gh) (cg gh) (am gh) .none kV40 dc40 pm40 an40 cd40 ct40,fun s v=>.of_eq rfl,fun base _ _=>?_⟩;have aJ:Cal l.prog w K mg base "is_whole" 1 ["thing"] (du K):=⟨_,_,mj bn B,b5,bn.kp,cO⟩
  have aF:Cal l.prog w K mg base "is_sign" 1 ["thing"] qR:=⟨_,_,nK bj B B',b1,bj.kp,cJ⟩
  have aO:Cal l.prog w K mg base "list_numbers" 21 ["way"] (km 20):=⟨_,_,ip bt ca cV aJ 20,ca,bt.kp,cV⟩
  have aM:Cal l.prog w K mg base "join_signs" 21 ["way"] (oG 20):=⟨_,_,jD bq b8 cT aJ 20,b8,bq.kp,cT⟩
  have af:Cal l.prog w K mg base "_law_mixed" 1 ["cell","k"] kn:=⟨_,_,rF aY,bE,aY.kp,cl⟩
  have ai:Cal l.prog w K mg base "_law_pot" 1 ["cell"] qS:=⟨_,_,vp a1 B,bH,a1.kp,co⟩
  have aq:Cal l.prog w K mg base "_law_take" 2 ["pot","many"] dX:=⟨_,_,tQ a8 af,bP,a8.kp,cx⟩
  have ah:Cal l.prog w K mg base "_law_number" 3 ["pot","way"] iH:=⟨_,_,qk a0 aq,bG,a0.kp,cn⟩
  have al:Cal l.prog w K mg base "_law_row" 4 ["pot","many"] mX:=⟨_,_,vn a4 B aq ah,bK,a4.kp,ct⟩
  have ao:Cal l.prog w K mg base "_law_signs" 3 ["pot"] iG:=⟨_,_,kN a6 aq,bM,a6.kp,cv⟩
  have aD:Cal l.prog w K mg base "is_row" 2 ["thing"] kq:=⟨_,_,ql bi B B3 aJ,b0,bi.kp,cI⟩
  have aP:Cal l.prog w K mg base "need_row" 3 ["thing"] gG:=⟨_,_,md bu aD,cb,bu.kp,cW⟩
  have aS:Cal l.prog w K mg base "shorter_first" 1 ["many"] tm:=⟨_,_,gX bx B,ce,bx.kp,cZ⟩
  have aG:Cal l.prog w K mg base "is_signs" 1 ["thing"] gI:=⟨_,_,ml bk B B3,b2,bk.kp,cK⟩
  have aQ:Cal l.prog w K mg base "need_signs" 2 ["thing"] eX:=⟨_,_,jB bv aG,cc,bv.kp,cX⟩
  have ax:Cal l.prog w K mg base "cuts_of" 1 ["stretch"] mY:=⟨_,_,nN bc B,bT,bc.kp,cB⟩
  have aR:Cal l.prog w K mg base "put_sign" 1 ["left","sign","right"] fC:=⟨_,_,ma bw,cd,bw.kp,cY⟩
  have aC:Cal l.prog w K mg base "is_pair" 2 ["thing"] gJ:=⟨_,_,nM bh B aJ,bZ,bh.kp,cH⟩
  have ad:Cal l.prog w K mg base "_law_is_pair" 1 ["thing"] gH:=⟨_,_,mh aW B,bC,aW.kp,cj⟩
  have aA:Cal l.prog w K mg base "has_all_stretches" 2 ["thing","many"] (iK w K):=⟨_,_,fo bf B aS,bX,bf.kp,cE⟩
  have aL:Cal l.prog w K mg base "join_ends" 2 ["paper","signs","stretch"] (uO w):=⟨_,_,kQ bp ax aR,b7,bp.kp,cR⟩
  have aK:Cal l.prog w K mg base "is_within" 3 ["row","signs","paper","stretch"] (iF w):=⟨_,_,kR bo B aL,b6,bo.kp,cQ⟩
  have aw:Cal l.prog w K mg base "bounds_say" 4 ["row","signs","thing"] (oH w K):=⟨_,_,jF bb B aP aQ aA aC aK aS,bS,bb.kp,cA⟩
  have aj:Cal l.prog w K mg base "_law_put" 1 ["sign","one","other"] gF:=⟨_,_,nH a2,bI,a2.kp,cp⟩
  have ab:Cal l.prog w K mg base "_law_bounds" 2 ["row","signs"] gK:=⟨_,_,jC aU B aj,bA,aU.kp,ch⟩
  have ae:Cal l.prog w K mg base "_law_loose" 3 ["pot","row","signs"] ko:=⟨_,_,kP aX B aq aj,bD,aX.kp,ck⟩
  have aa:Cal l.prog w K mg base "_law_bent" 3 ["pot","paper"] (mZ w):=⟨_,_,mi aT B aq,bz,aT.kp,cf⟩
  have an:Cal l.prog w K mg base "_law_said" 2 ["row","signs","thing"] (mW w K):=⟨_,_,mf a5 B aj ad,bL,a5.kp,cu⟩
  have aE:Cal l.prog w K mg base "is_sign" 1 ["thing"] ki:=⟨_,_,mo bj B B',b1,bj.kp,cJ⟩
  have aH:Cal l.prog w K mg base "is_way" 2 ["thing"] iJ:=⟨_,_,nJ bl B B' aJ aE,b3,bl.kp,cL⟩
  have aB:Cal l.prog w K mg base "has_signs_among" 22 ["way","signs"] qT:=⟨_,_,kT bg B aM,bY,bg.kp,cG⟩
  have ay:Cal l.prog w K mg base "find_worth" 10 ["way"] (iL 9):=⟨_,_,jE bd bU cC aJ aR 9,bU,bd.kp,cC⟩
  have ar:Cal l.prog w K mg base "_law_ways" 6 ["row","signs"] (gE 5):=⟨_,_,ie a9 bQ cy B 5,bQ,a9.kp,cy⟩
  have au:Cal l.prog w K mg base "_law_ways" 7 ["row","signs"] (gE 6):=⟨_,_,ie a9 bQ cy B 6,bQ,a9.kp,cy⟩
  have av:Cal l.prog w K mg base "_law_worth" 11 ["way"] (gc 9):=⟨_,_,kM ba bR cz B aj 9,bR,ba.kp,cz⟩
  have aI:Cal l.prog w K mg base "is_way_with" 23 ["row","signs","thing"] oJ:=⟨_,_,i_ bm aH aO aB,b4,bm.kp,cM⟩
  have az:Cal l.prog w K mg base "greatest_shown" 24 ["row","signs","way","thing"] (dY w K fun r=>r.1):=⟨_,_,gx be aw aI ay,bV,be.kp,cD⟩
  have aN:Cal l.prog w K mg base "least_shown" 24 ["row","signs","way","thing"] (dY w K fun r=>r.2):=⟨_,_,iZ bs aw aI ay,b9,bs.kp,cU⟩
  have ac:Cal l.prog w K mg base "_law_due" 12 ["row","signs","ways","way","said"] qU:=⟨_,_,nI aV B av,bB,aV.kp,ci⟩
  have ag:Cal l.prog w K mg base "_law_no_ways" 1 ["way"] iI:=⟨_,_,nG aZ B,bF,aZ.kp,cm⟩
  have ap:Cal l.prog w K mg base "_law_some_ways" 12 ["pot","row","signs","ways"] mV:=⟨_,_,kK a7 B aq av au ag,bO,a7.kp,cw⟩
  have ak:Cal l.prog w K mg base "_law_right" 25 ["row","signs","ways","way","thing"] (kj w K):=⟨_,_,kO a3 B an ac az aN,bJ,a3.kp,cs⟩
  exact vq br B ai aq al ao ab ae aa ar ap ak az
theorem walk {l:PySem.W.OpenLaw} {q:Program} {loose:List Str} {XP:(Str→Option Value)→Heap→Prop} {YP:World→Heap→Prop} {d:DefRec} {K:Params→aaa} (hn:l.most=some 63) (hdf:d.params.defaults=[]) (hi:PyProof.Rows.importsNone q=true)
    (hY:∀ (w:World) (h:Heap),YP w h→(K w.params).In h)
    (F:∀ (w:World) (mg:Str→Option Value) (fa:Addr) (h:Heap),(K w.params).In h→h.Ns mainGlobals mg→mg d.name=some (.ref fa) →
      ∃ fd:FuncData,(∀ (s:Shared) (u:Value),BindsTo s fd ⟨[u],[]⟩ [("script",u)])∧∀ base:Heap,(K w.params).In base→base.Ns mainGlobals mg→FnOk l.prog w (K w.params) mg base CX0 26 fa fd ["script"] (oI (K w.params))) :
    PySem.W.WalkO q loose XP YP l.row.toRowW d [] (fun f vs=>PySem.call f vs) :=
  L2.walk_of (n:=63) (k:=26) (x:="script") (CX:=fun _=>CX0) (sp:=fun w=>oI (K w.params)) hn (by decide) hdf ⟨rfl,by decide,by decide,rfl⟩ hi hY F (fun _ _ a ns hl _ hS=>⟨a,ns,rfl,hS,hl,fun _=>rfl⟩) fun _ _ _ _ _ z=>z
end Put
namespace PySem.W.Fast
def tw14202174811423667516:=0
def tw10013574762162366264:=0
def tw6433097320279831489:=0
def tw8423981458990887373:=0
def tw1440397800710779480:=0
def tw13166860683312726123:=0
def tw12838846249165367150:=0
def tw12115909773452015765:=0
def tw8831350160510706290:=0
def tw249581690026742886:=0
def tw9724358793020939965:=0
def tw1280856162651456686:=0
def tw2322715004518092827:=0
def tw7745008751758070216:=0
def tw16865423931367569485:=0
def tw15307900716152609404:=0
def tw2145707268834640733:=0
def tw992724974472286501:=0
def tw12972589900844618684:=0
def tw1883167418343584453:=0
def tw13201958052419563959:=0
def tw2400035451172721928:=0
def tw18050061788813561189:=0
def tw10004012874703522480:=0
def tw17701440597884597311:=0
def tw1266513642986709922:=0
def tw2223924407610018393:=0
def tw18323210399638061553:=0
def tw6545529223281988033:=0
def tw3734233437693936554:=0
def tw16580221478435663187:=0
def tw1553216795035530604:=0
def tw13948295229046667414:=0
def tw4255434465353745073:=0
def tw18086019679040317470:=0
def tw1305511504938405259:=0
def tw3086848617907945400:=0
def tw9831261043182109111:=0
def tw16483048227772273891:=0
def tw131271077322158470:=0
def tw17743056207929529260:=0
def tw16054940804529155966:=0
def tw450354961852124920:=0
def tw14665805059402651174:=0
def tw2948577063765725220:=0
def tw11123367212450868495:=0
def tw6304159972784521323:=0
def tw10608274184488407728:=0
def tw15021354685039388663:=0
def tw205255327046538449:=0
def tw15306836937019336947:=0
def tw16768338582461896803:=0
def tw14671252297291120759:=0
def tw2349181218499897399:=0
def tw1151632643507776515:=0
def tw12937086620087105853:=0
def tw1894544875752590300:=0
def tw13474550948164356697:=0
def tw4635816154088298241:=0
def tw15152092085422329100:=0
def tw15767707422341263697:=0
def tw10464938252801529588:=0
def tw13213734669665746645:=0
def tw15798664623196500016:=0
def tw9433041699666433746:=0
def tw8011897918333723172:=0
def tw7135474840356684879:=0
def tw17596220642189964337:=0
def tw12421595307935227191:=0
def tw15021951348714412033:=0
def tw1449489109548741463:=0
def tw18271666623817650926:=0
def tw8754659131582828270:=0
def tw13750880201809569636:=0
def tw5330728905767452960:=0
def tw12250280594601507437:=0
def tw17876602484099750274:=0
def tw11326926892121413892:=0
def tw2247690211090071992:=0
def tw7751350446007283026:=0
def tw14723977781796536269:=0
def tw1661706757761212625:=0
def tw17652812282714898983:=0
def tw14519066468968805906:=0
def tw1736636035640002325:=0
def tw9398901377441614703:=0
def tw8380785298243825531:=0
def tw3215426095263396584:=0
def tw4439274901086779899:=0
def tw18074357195675850962:=0
def tw7121110462840672:=0
def tw15734118291452756184:=0
def tw15154754200354391048:=0
def tw12961398208158299474:=0
def tw575261883904499203:=0
def tw4228184029486513009:=0
def tw8166618284986918995:=0
def tw12963160374488749883:=0
def tw11357619964112297004:=0
def tw16117668713237596509:=0
def tw17882483265343156543:=0
def tw7467001509624069524:=0
def tw8894277357842250697:=0
def tw15952038861927519408:=0
def tw368035761309896630:=0
def tw2124462532328233065:=0
def tw1626663265659112040:=0
def tw17924396637184784506:=0
def tw17075831803592306900:=0
def tw494108082990010039:=0
def tw13077555578476833472:=0
def tw9794445461700506853:=0
def tw10323343722167658880:=0
def tw6922975981779273761:=0
def tw18121879350766833511:=0
def tw3661821585698679501:=0
def tw6225862374005355767:=0
def tw1894074650651448696:=0
def tw3390132421066141192:=0
def tw13691922079379066749:=0
def tw10757546342527812518:=0
def tw4465630429988760760:=0
def tw913458574817360805:=0
def tw12939183388810629064:=0
def tw7330701981477811279:=0
def tw6331891407559680807:=0
def tw5471165936001481302:=0
def tw17371078143000458026:=0
def tw17349914947684165937:=0
def tw10008820393215833920:=0
def tw11441470827143498858:=0
def tw8241308115113776381:=0
def tw13888259869263043371:=0
def tw16191718154627958889:=0
def tw15318903273040879727:=0
def tw11679922223432656272:=0
def tw11222174881747678032:=0
def tw1434362924494075328:=0
def tw1255716366552312362:=0
def tw7395417610051515453:=0
def tw11711191932641639524:=0
def tw12894232329227320572:=0
def tw11183500863906251422:=0
def tw10357225030958424714:=0
def tw11192970072863685152:=0
def tw6289737263941068008:=0
def tw17666178330619250001:=0
def tw3433288236610427776:=0
def tw17970272152520582144:=0
def tw4687346333106697995:=0
def tw17576981380444550842:=0
def tw13167252242731580018:=0
def tw8588076483395648439:=0
def tw1726983266722252440:=0
def tw10405804933722173981:=0
def tw7938029536391283666:=0
def tw5395695301994055794:=0
def tw4352441791021739858:=0
def tw3454398175944212840:=0
def tw17274687370396530700:=0
def tw1317749936680101035:=0
def tw94602228788201756:=0
def tw6702421485813258978:=0
def tw9621659107778397023:=0
def tw10450035369609488163:=0
def tw1457219401393017707:=0
def tw10902708349574938439:=0
def tw12512082520566936985:=0
def tw1279778734700455875:=0
def tw15565221120410323078:=0
def tw1174086717362486211:=0
def tw11693829015637474063:=0
def tw7675136762246802227:=0
def tw5013904594656045792:=0
def tw11516069615062489131:=0
def tw6660459419187129427:=0
def tw9495977330063247331:=0
def tw6318677227665068759:=0
def tw7422659530902336164:=0
def tw7250589696180165996:=0
def tw1478591770881422249:=0
def tw2225530251762039166:=0
def tw1133406506734188729:=0
def tw14839404930455740049:=0
def tw536399250024704380:=0
def tw16502742605325145475:=0
def tw13321095308689287996:=0
def tw10293016121262842950:=0
def tw14282695344251170890:=0
def tw1784665575032333930:=0
def tw8493782751651703817:=0
def tw2485945472553089421:=0
def tw1071672226796343120:=0
def tw7079533551720535368:=0
def tw13256361796756998550:=0
def tw7594591266272116337:=0
def tw2637436885126297664:=0
def tw3710181094749156428:=0
end PySem.W.Fast
open PySem PySem.W PyProof.Rows
set_option maxRecDepth 100000 in
set_option maxHeartbeats 0 in
theorem PySem.Challenge.cw_putsigns_k36_ways_shown_greatest_holds : PySem.Challenge.rw_putsigns_k36_ways_shown_greatest.Holds := by
  w_on;o_law;k_head;(case hw=>w_witness2)
  k_fill
  refine Put.walk (l:=PySem.Challenge.rw_putsigns_k36_ways_shown_greatest) rfl rfl ?hi (fun w h Y=>PySem.W.kIn_of Y) ?F
  case hi=>first|rfl|decide +kernel
  case F =>
    intro w mg fa h KX G hmg;refine' Put.all_mk KX G hmg ?q0 ?q1 ?q2 ?q3 ?q4 ?q5 ?q6 ?q7 ?q8 ?q9 ?q10 ?q11 ?q12 ?q13 ?q14 ?q15 ?q16 ?q17 ?q18 ?q19 ?q20 ?q21 ?q22 ?q23 ?q24 ?q25 ?q26 ?q27 ?q28 ?q29 ?q30 ?q31 ?q32 ?q33 ?q34 ?q35 ?q36 ?q37 ?q38 ?q39 ?a40 ?l40 ?c40 ?k40 ?z_len ?z_isinstance ?z_int ?z_bool ?z_str ?z_tuple ?z_list ?z_sorted ?z_range ?z_repr ?z_enumerate ?z_sum ?z_all ?z_min ?z_max ?z_abs ?z_divmod ?z_dict ?z_set ?z_reversed ?z_any ?z_zip ?gM ?gS ?lS ?gM3 ?gP ?lP
    (case q0=>exact L2.Fq.mk4 (by k_is) (by k_is) (by k_is) (by k_is))
    (case q1=>exact L2.Fq.mk4 (by k_is) (by k_is) (by k_is) (by k_is))
    (case q2=>exact L2.Fq.mk4 (by k_is) (by k_is) (by k_is) (by k_is))
    (case q3=>exact L2.Fq.mk4 (by k_is) (by k_is) (by k_is) (by k_is))
    (case q4=>exact L2.Fq.mk4 (by k_is) (by k_is) (by k_is) (by k_is))
    (case q5=>exact L2.Fq.mk4 (by k_is) (by k_is) (by k_is) (by k_is))
    (case q6=>exact L2.Fq.mk4 (by k_is) (by k_is) (by k_is) (by k_is))
    (case q7=>exact L2.Fq.mk4 (by k_is) (by k_is) (by k_is) (by k_is))
    (case q8=>exact L2.Fq.mk4 (by k_is) (by k_is) (by k_is) (by k_is))
    (case q9=>exact L2.Fq.mk4 (by k_is) (by k_is) (by k_is) (by k_is))
    (case q10=>exact L2.Fq.mk4 (by k_is) (by k_is) (by k_is) (by k_is))
    (case q11=>exact L2.Fq.mk4 (by k_is) (by k_is) (by k_is) (by k_is))
    (case q12=>exact L2.Fq.mk4 (by k_is) (by k_is) (by k_is) (by k_is))
    (case q13=>exact L2.Fq.mk4 (by k_is) (by k_is) (by k_is) (by k_is))
    (case q14=>exact L2.Fq.mk4 (by k_is) (by k_is) (by k_is) (by k_is))
    (case q15=>exact L2.Fq.mk4 (by k_is) (by k_is) (by k_is) (by k_is))
    (case q16=>exact L2.Fq.mk4 (by k_is) (by k_is) (by k_is) (by k_is))
    (case q17=>exact L2.Fq.mk4 (by k_is) (by k_is) (by k_is) (by k_is))
    (case q18=>exact L2.Fq.mk4 (by k_is) (by k_is) (by k_is) (by k_is))
    (case q19=>exact L2.Fq.mk4 (by k_is) (by k_is) (by k_is) (by k_is))
    (case q20=>exact L2.Fq.mk4 (by k_is) (by k_is) (by k_is) (by k_is))
    (case q21=>exact L2.Fq.mk4 (by k_is) (by k_is) (by k_is) (by k_is))
    (case q22=>exact L2.Fq.mk4 (by k_is) (by k_is) (by k_is) (by k_is))
    (case q23=>exact L2.Fq.mk4 (by k_is) (by k_is) (by k_is) (by k_is))
    (case q24=>exact L2.Fq.mk4 (by k_is) (by k_is) (by k_is) (by k_is))
    (case q25=>exact L2.Fq.mk4 (by k_is) (by k_is) (by k_is) (by k_is))
    (case q26=>exact L2.Fq.mk4 (by k_is) (by k_is) (by k_is) (by k_is))
    (case q27=>exact L2.Fq.mk4 (by k_is) (by k_is) (by k_is) (by k_is))
    (case q28=>exact L2.Fq.mk4 (by k_is) (by k_is) (by k_is) (by k_is))
    (case q29=>exact L2.Fq.mk4 (by k_is) (by k_is) (by k_is) (by k_is))
    (case q30=>exact L2.Fq.mk4 (by k_is) (by k_is) (by k_is) (by k_is))
    (case q31=>exact L2.Fq.mk4 (by k_is) (by k_is) (by k_is) (by k_is))
    (case q32=>exact L2.Fq.mk4 (by k_is) (by k_is) (by k_is) (by k_is))
    (case q33=>exact L2.Fq.mk4 (by k_is) (by k_is) (by k_is) (by k_is))
    (case q34=>exact L2.Fq.mk4 (by k_is) (by k_is) (by k_is) (by k_is))
    (case q35=>exact L2.Fq.mk4 (by k_is) (by k_is) (by k_is) (by k_is))
    (case q36=>exact L2.Fq.mk4 (by k_is) (by k_is) (by k_is) (by k_is))
    (case q37=>exact L2.Fq.mk4 (by k_is) (by k_is) (by k_is) (by k_is))
    (case q38=>exact L2.Fq.mk4 (by k_is) (by k_is) (by k_is) (by k_is))
    (case q39=>exact L2.Fq.mk4 (by k_is) (by k_is) (by k_is) (by k_is))
    (case a40=>k_is)
    (case l40=>k_is)
    (case c40=>k_is)
    (case k40=>k_is)
    (case z_len=>k_is)
    (case z_isinstance=>k_is)
    (case z_int=>k_is)
    (case z_bool=>k_is)
    (case z_str=>k_is)
    (case z_tuple=>k_is)
    (case z_list=>k_is)
    (case z_sorted=>k_is)
    (case z_range=>k_is)
    (case z_repr=>k_is)
    (case z_enumerate=>k_is)
    (case z_sum=>k_is)
    (case z_all=>k_is)
    (case z_min=>k_is)
    (case z_max=>k_is)
    (case z_abs=>k_is)
    (case z_divmod=>k_is)
    (case z_dict=>k_is)
    (case z_set=>k_is)
    (case z_reversed=>k_is)
    (case z_any=>k_is)
    (case z_zip=>k_is)
    (case gM=>k_is)
    (case gS=>k_is)
    (case lS=>k_is)
    (case gM3=>k_is)
    (case gP=>k_is)
    (case lP=>k_is)

